import PyProof.Rows.All
import Wide.All
import OpenK.AllK
import Wide.FinOn
import Lean
import PyProof.EqAt
import PyProof.EqKinds
import PyProof.TupleCall
import PySem.Challenge.RW_ringmeet_k54_errands_of_anything
set_option Elab.async false
set_option compiler.extract_closed false
set_option linter.all false
set_option maxRecDepth 100000
set_option maxHeartbeats 4000000
open List renaming getElem?_eq_some_iff → gE1, getElem?_append_left → gL1, getElem?_eq_getElem → gG1, mem_of_getElem? → gM1, getElem?_set_ne → gS1, length_append → lA1, length_map → lM1, getElem?_cons_succ → gC1, mem_cons_of_mem → mC1, mem_cons_self → mS1, getElem?_map → gP1, getElem?_append_right → gR1, map_cons → mP1, length_cons → lC1, length_replicate → lR1, mem_append_right → mA1
open Option renaming bind_eq_some_iff → oB1, map_eq_some_iff → oM1, bind_some → oS1, map_some → oP1
open Nat renaming le_refl → nR1, lt_of_lt_of_le → nL1, ne_of_lt → nN1, ne_of_gt → nG1
open Bool renaming and_eq_true → bA1, false_eq_true → bF1
open Array renaming getElem?_eq_getElem → aG1, getElem?_toList → aT1
open PySem.W renaming Frag → Fg1, nsIn → wN1, keepIn → wK1, codeIn → wC1, fnOf → wF1, mg_of → wM1
open PySem.Heap renaming get?_push_of_some → hP1, get?_push_size → hS1, lt_size → hL1, size_push → hZ1, get?_update_ne → hU1, get?_update_self → hW1
open PySem renaming wpAny_bind → wB1, wpAny_pure → wP1, wpAny_setField_rec → wS1, wpAny_newObj_type → wO1, codeAny_builtin → wD1, wpAny_call_entry → wE1
open List renaming take_nil → au, drop_nil → av, mem_filter → az, mem_range → aA, filterMap_cons → aC, mem_cons → aD, mem_append → aE, mem_append_left → aF, getElem?_set_self → aG, size_toArray → aJ, append_nil → aK, nodup_cons → aL, replicate → aM, length_take → aO, getElem?_replicate → aP, getElem?_take_of_lt → aQ, filterMap_map → aR, length_set → aS, replicate_succ → aT, flatten_cons → aU, foldl → aV, append_assoc → aW, foldl_cons → aX, length_singleton → aY, nil_append → a0, map_nil → ba, find?_cons → bb, any_cons → bc, length_nil → bf, filter_cons → bg, cons_append → bm, prefix_rfl → bp, reverse_cons → bq, nodup_nil → br, getElem?_of_mem → bt, map_map → bu, prefix_append → bv, nodup_append → bx, all_eq_true → bA, lookup_cons → bC, getD_eq_getElem?_getD → bG, all_cons → bK, any_eq_true → bM, getElem_mem → bN, zip_cons_cons → bO, cons_prefix_cons → bQ, take_length → bR, ext_getElem? → bT, getElem?_eq_none → bU, take_of_length_le → bW, length_reverse → bX, pairwise_cons → bY, mem_map → bZ, pairwise_iff_getElem → b0, pairwise_lt_range → b8, map_append → b9, take_append_drop → cb, perm_middle → cc, getElem?_range → cf, forall_mem_nil → ci, map_congr_left → cj, pairwise_map → cr, getElem?_cons_zero → cs, set_cons_zero → cu, set_cons_succ → cv, length_filter_le → cw, length_range → cx, length_pos_of_mem → cy, not_mem_nil → cC, mem_singleton → cD, map_id' → cG
open Option renaming some → aw, isSome_iff_exists → aN, isSome_map → bh
open Nat renaming lt_irrefl → ay, le_trans → aB, lt_trans → bi, zero_le → bj, add_assoc → bo, not_lt_zero → bw, lt_succ_self → bB, lt_of_le_of_lt → bD, le_of_succ_le → bE, le_succ → bF, zero_add → bI, lt_or_ge → bP, lt_succ_of_lt → ca, succ_eq_add_one → ck
open Array renaming length_toList → aH, toList_push → b7, getElem?_eq_none → cg
open Bool renaming false_ne_true → aI, and_false → aZ, and_true → bH, or_eq_true → bJ, eq_iff_iff → bL, not_true → bV, eq_false_iff → cq, true_and → cE, and_eq_false_iff → cF
open PySem renaming Value → cH, Shared → cI, Addr → cJ, Program → cK, Around → cM, World → cN, mainGlobals → cO, starEach → cP, sizeLine → cQ, wpAny → cR, codeAny → cS, Heap → cT, FuncData → cU, Stmt → cV, Scope → cW
open Option renaming some → Z, none → Y
open Bool renaming true → M, false → J
theorem Mi.O{α}{a:α}:a=a:=rfl
open Mi (O)
theorem Mi.al{p:Prop}[Decidable p]:(decide p=true)=p:=decide_eq_true_eq
theorem Mi.ak{c:Prop}{h:Decidable c}(a:c){α:Sort _}{t e:α}:ite c t e=t:=if_pos a
theorem Mi.aj{c:Prop}{h:Decidable c}(a:¬c){α:Sort _}{t e:α}:ite c t e=e:=if_neg a
theorem Mi.ai{p:Prop}[Decidable p]:¬p→decide p=false:=decide_eq_false
theorem Mi.ah{p:Prop}[Decidable p]:p→decide p=true:=decide_eq_true
open List renaming range → af
open Mi (al ak aj ai ah)
noncomputable section
namespace L2
open PySem PySem.Spec PyProof.Rows
abbrev Key:=Sum Int Str
def pc:Key->cH->Bool
 | .inl k,v=>Value.isInt k v
 | .inr x,v=>Value.isStrOf x v
def Kc(w:cN):Key->Int
 | .inl k=>hashInt k
 | .inr x=>hashStr w x
theorem eT:∀{k:Key} {v:cH},pc k v=M->(∃i t,k=Sum.inl i/\v=Value.int i t)\/(∃x t,k=Sum.inr x/\v=Value.str x t)
 | .inl i,v,h=>by
  obtain⟨t,e⟩:=Value.isInt_shape (k:=i) (v:=v) h;exact .inl ⟨i,t,O,e⟩
 | .inr x,v,h=>by
  obtain⟨t,e⟩:=Value.isStrOf_shape (x:=x) (v:=v) h;exact .inr ⟨x,t,O,e⟩
theorem wF(i:Int)(t:Tok):pc (.inl i) (.int i t)=M:=by simp[pc,Value.isInt]
theorem wE(x:Str)(t:Tok):pc (.inr x) (.str x t)=M:=by simp[pc,Value.isStrOf]
theorem Gr(a b:Int):decide ((Sum.inl a:Key)=Sum.inl b)=(a == b):=by
 by_cases e:a=b
 ·subst e;simp
 ·have h:¬ (Sum.inl a:Key)=Sum.inl b:=λq=>e (Sum.inl.inj q);rw[ai h];exact(beq_eq_false_iff_ne.mpr e).symm
theorem Go(a b:Str):decide ((Sum.inr a:Key)=Sum.inr b)=decide (a=b):=by
 by_cases e:a=b
 ·subst e;simp
 ·have h:¬ (Sum.inr a:Key)=Sum.inr b:=λq=>e (Sum.inr.inj q);rw[ai h,ai e]
theorem Gq(a:Int)(b:Str):decide ((Sum.inl a:Key)=Sum.inr b)=J:=ai (λq=>nomatch q)
theorem Gp(a:Str)(b:Int):decide ((Sum.inr a:Key)=Sum.inl b)=J:=ai (λq=>nomatch q)
def eJ(prog:cK)(w:cN):PySem.KeyKind prog w Key where
 is:=pc
 hash:=Kc w
 inj:=λv a b ha hb=>by
  rcases eT ha with⟨i,t,rfl,rfl⟩|⟨x,t,rfl,rfl⟩
  ·rcases eT hb with⟨j,u,rfl,e⟩|⟨y,u,rfl,e⟩
   ·injection e with e1 _;rw[e1]
   ·exact nomatch e
  ·rcases eT hb with⟨j,u,rfl,e⟩|⟨y,u,rfl,e⟩
   ·exact nomatch e
   ·injection e with e1 _;rw[e1]
 byValue:=λk v h=>by
  rcases eT h with⟨i,t,rfl,rfl⟩|⟨x,t,rfl,rfl⟩<;>rfl
 pyHash:=λhv h=>by
  rcases eT hv with⟨i,t,rfl,rfl⟩|⟨x,t,rfl,rfl⟩
  ·exact wpAny_pyHash_int h
  ·exact wpAny_pyHash_str h
 eqBool:=λhu hv h=>by
  rcases eT hu with⟨i,t,rfl,rfl⟩|⟨x,t,rfl,rfl⟩
  ·rcases eT hv with⟨j,u,rfl,rfl⟩|⟨y,u,rfl,rfl⟩
   ·rw[Gr]at h;exact wpAny_eqBool_int h
   ·rw[Gq]at h;exact SeqAt.EqAt.int_str i t y u _ _ _ _ h
  ·rcases eT hv with⟨j,u,rfl,rfl⟩|⟨y,u,rfl,rfl⟩
   ·rw[Gp]at h;exact SeqAt.EqAt.str_int x t j u _ _ _ _ h
   ·rw[Go]at h;exact wpAny_eqBool_str h
 «strs» :=λk x t v h=>by
  rcases eT h with⟨i,u,rfl,e⟩|⟨y,u,rfl,e⟩
  ·exact nomatch e
  ·injection e with e1 _;subst e1;cases v<;>rfl
theorem rY(prog:cK)(w:cN)(i:Int)(t:Tok):(eJ prog w).is (.inl i) (.int i t)=M:=wF i t
theorem rX(prog:cK)(w:cN)(x:Str)(t:Tok):(eJ prog w).is (.inr x) (.str x t)=M:=wE x t
end L2
namespace L2
open PySem PySem.Spec PyProof.Rows
inductive V where
 |non|bl (b:Bool)|int (i:Int)|str (x:Str)|byt (b:Array UInt8)|flt (b:UInt64)|ref (a:cJ)|ty (n:String)
 deriving DecidableEq
def dt:V->cH->Prop
 | .non,u=>u=Value.none
 | .bl b,u=>u=Value.bool b
 | .int i,u=>∃t,u=Value.int i t
 | .str x,u=>∃t,u=Value.str x t
 | .byt b,u=>∃t,u=Value.bytes b t
 | .flt b,u=>∃t,u=Value.float b t
 | .ref a,u=>u=Value.ref a
 | .ty n,u=>u=Value.type n
abbrev dM:List V->List cH->Prop:=Paired dt
theorem dM.length{xs:List V}{us:List cH}(r:dM xs us):xs.length=us.length:=Paired.length r
theorem dM.get:∀{xs:List V} {us:List cH} {i:Nat} {x:V},dM xs us->xs[i]?=Z x -> ∃u,us[i]?=Z u/\dt x u:=by
 intro xs us i x h e
 induction h generalizing i with
 |nil=>cases e
 |cons r t ih=>cases i with
  |zero=>cases e;exact⟨_,O,r⟩
  |succ i=>exact ih (i:=i) e
theorem dM.set{x:V}{u:cH}(r:dt x u):∀{xs:List V} {us:List cH} (i:Nat),dM xs us->dM (xs.set i x) (us.set i u):=by
 intro xs us i h
 induction h generalizing i with
 |nil=>exact .nil
 |cons q t ih=>cases i with
  |zero=>exact .cons r t
  |succ i=>exact .cons q (ih i)
theorem dM.append:∀{xs ys:List V} {us ws:List cH},dM xs us->dM ys ws->dM (xs++ys) (us++ws):=by
 intro xs ys us ws h s
 induction h with
 |nil=>exact s
 |cons r t ih=>exact .cons r ih
theorem dM.take:∀{xs:List V} {us:List cH} (n:Nat),dM xs us->dM (xs.take n) (us.take n):=by
 intro xs us n h
 induction h generalizing n with
 |nil=>rw[au,au];exact .nil
 |cons r t ih=>cases n with
  |zero=>exact .nil
  |succ n=>exact .cons r (ih n)
theorem dM.drop:∀{xs:List V} {us:List cH} (n:Nat),dM xs us->dM (xs.drop n) (us.drop n):=by
 intro xs us n h
 induction h generalizing n with
 |nil=>rw[av,av];exact .nil
 |cons r t ih=>cases n with
  |zero=>exact .cons r t
  |succ n=>exact ih n
def lX:Option V->Option cH->Prop
 |some v,Z u=>dt v u
 |none,Y=>True
 |_,_=>False
def KV{κ:Type}:List (κ×V)->List (κ×cH)->Prop:=Paired λ(p:κ×V) (q:κ×cH)=>p.1=q.1/\dt p.2 q.2
def kV:Key->V
 | .inl i=>.int i
 | .inr x=>.str x
inductive HO where
 /-- a list -/
 |lst (xs:List V)
 /-- a tuple (never changes) -/
 |tup (xs:List V)
 /-- a dict whose keys are ints and texts; one whose keys are tuples of ints and texts (the empty one is both) -/
 |dK (kvs:List (Key×V))|dT (kvs:List (List Key×V))
 /-- a set of ints: its members, its size -/
 |set (S:Int->Bool) (n:Nat)
 /-- an instance of the class at C, its dict at dx, its attributes -/
 |ins (C dx:cJ) (fs:List (Str×V))
 /-- the dict of the instance at x -/
 |own (x:cJ)
 /-- the dict of an exception -/
 |xd (fs:List (Str×V))
 /-- a bound method, f of x -/
 |met (f x:cJ)
 /-- a range object lo, lo + 1, .. below hi -/
 |rng (lo hi:Int)
 /-- a thing that is known to the object (the script; a dict while a loop walks it): read, never written while it is so -/
 |frz (o:Obj) (u:HO)
 /-- a code object's table -/
 |tbl (ps:Array cH)
 /-- any other thing, by what is true of its one object (a def of one's own: SetO a S n := HO.ext λh => ..) -/
 |ext (φ:cT->Prop)
abbrev Hp:=cJ->Option HO
def upd(H:Hp)(a:cJ)(o:HO):Hp:=λb=>if b=a then Z o else H b
theorem dZ{H:Hp}{a:cJ}{o:HO}:upd H a o a=Z o:=by unfold upd;rw[ak O]
theorem dD{H:Hp}{a b:cJ}{o:HO}(h:b≠a):upd H a o b=H b:=by unfold upd;rw[aj h]
theorem Ij{H:Hp}{a b:cJ}{o u:HO}(h:H a=Z o)(h':H b=Z u)(d:o≠u):a≠b:=by
 intro e;subst e;rw[h]at h';exact d (Option.some.inj h')
theorem d2{H:Hp}{a b:cJ}{o:HO}(h:H a=Z o)(h':H b=Y):a≠b:=by
 intro e;subst e;rw[h]at h';cases h'
section
variable(P:cK) (w:cN)
def ew(H:Hp)(h:cT)(a:cJ):HO->Prop
 | .lst xs=>xs.length<=cQ /\ ∃(its:List cH) (n:Nat),dM xs its/\h.get? a=Z {cls:=.type "list",data:=.seq its.toArray n}
 | .tup xs=>xs.length<=cQ /\ ∃its:List cH,dM xs its/\IsTup h a its.toArray
 | .dK kvs=>kvs.length<=cQ/\(a == sysModules)=J /\ ∃vs,KV kvs vs/\h.DictOf (eJ P w) a vs
 | .dT kvs=>kvs.length<=cQ/\(a == sysModules)=false /\ ∃ xs:List (List Key×cJ×cH),
   Paired (λ(p:List Key×V) (q:List Key×cJ×cH)=>p.1=q.1/\H q.2.1=Z (.tup (p.1.map kV))/\dt p.2 q.2.2) kvs xs /\
   ∃o es ep,h.get? a=Z o/\o.ExactDict/\o.data = .dict es ep/\es.toList=xs.map (entryOfKey (tupleKind (eJ P w)))/\(xs.map (·.1)).Nodup
 | .set S n=>h.SetOf (intKind P w) a S n
 | .ins C dx fs=>H dx=some (.own a)/\fs.length<=1000/\dx≠a/\h.get? a=some (PySem.W.instObj C dx) /\
   ∃mA,h.Ns1 dx mA/\(∀f,lX (fs.lookup f) (mA f))/\PySem.Within mA (fs.map (·.1))
 | .own _=>∃o,h.get? a=Z o
 | .xd fs=>∃mA,h.Ns1 a mA /\ ∀f,lX (fs.lookup f) (mA f)
 | .rng lo hi=>∃t u v,h.get? a=Z {cls:=.type "range",data:=.fields #[.int lo t,.int hi u,.int 1 v]}
 | .frz o u=>h.get? a=Z o/\ew H h a u
 | .tbl ps=>h.get? a=Z {cls:=.none,data:=.fields ps}
 | .met f x=>h.get? a=Z (PySem.W.methodObj (.ref f) (.ref x))
 | .ext φ=>φ h/\(∃o,h.get? a=Z o) /\ ∀h1 h2:cT,φ h1->(∀o,h1.get? a=Z o->h2.get? a=Z o)->φ h2
def kM(H:Hp)(h:cT):Prop:=∀a o,H a=Z o->ew P w H h a o
end
section
variable{P:cK}{w:cN}{H H':Hp}{h h':cT}{a:cJ}{o:HO}
theorem ew.lt(x:ew P w H h a o):a<h.objs.size:=by
 cases o with
 |lst xs=>obtain⟨_,_,_,_,e⟩:=x;exact hL1 e
 |tup xs=>obtain⟨_,_,_,p⟩:=x;exact p.lt
 |dK kvs=>obtain⟨_,_,_,_,o,_,_,e,_⟩:=x;exact hL1 e
 |dT kvs=>obtain⟨_,_,_,_,o,_,_,e,_⟩:=x;exact hL1 e
 |set S n=>obtain⟨o,_,_,_,e,_⟩:=x;exact hL1 e
 |ins C dx fs=>obtain⟨_,_,_,e,_⟩:=x;exact hL1 e
 |own y=>obtain⟨_,e⟩:=x;exact hL1 e
 |xd fs=>obtain⟨_,⟨_,_,_,e,_⟩,_⟩:=x;exact hL1 e
 |rng lo hi=>obtain⟨_,_,_,e⟩:=x;exact hL1 e
 |frz b u=>obtain⟨e,_⟩:=x;exact hL1 e
 |tbl ps=>exact hL1 (show h.get? a=Z _ from x)
 |met f y=>exact hL1 (show h.get? a=Z _ from x)
 |ext φ=>obtain⟨_,⟨_,e⟩,_⟩:=x;exact hL1 e
theorem Paired.mapP{α β:Type}{F G:α->β->Prop}:∀{l₁:List α} {l₂:List β},Paired F l₁ l₂->(∀a b,F a b->G a b)->Paired G l₁ l₂:=by
 intro a b h f
 induction h with
 |nil=>exact .nil
 |cons r t ih=>exact .cons (f _ _ r) ih
theorem ew.stay(x:ew P w H h a o)(k:∀ b u,(b=a\/H b=Z (.own a))->h.get? b=Z u->h'.get? b=Z u)(ho:∀b,H b=Z (.own a)->H' b=Z (.own a))(ht:∀b xs,H b=Z (.tup xs)->H' b=Z (.tup xs)):ew P w H' h' a o:=by
 induction o with
 |lst xs=>obtain⟨z,i,n,r,e⟩:=x;exact⟨z,i,n,r,k _ _ (.inl O) e⟩
 |tup xs=>obtain⟨z,i,r,g,e,c⟩:=x;exact⟨z,i,r,g,k _ _ (.inl O) e,c⟩
 |dK kvs=>obtain⟨z,y,vs,r,g,es,ep,e,c⟩:=x;exact⟨z,y,vs,r,g,es,ep,k _ _ (.inl O) e,c⟩
 |dT kvs=>
  obtain⟨z,y,xs,r,g,es,ep,e,c⟩:=x;exact⟨z,y,xs,Paired.mapP r λp q z=>⟨z.1,ht _ _ z.2.1,z.2.2⟩,g,es,ep,k _ _ (.inl O) e,c⟩
 |set S n=>obtain⟨g,es,ep,t,e,c⟩:=x;exact⟨g,es,ep,t,k _ _ (.inl O) e,c⟩
 |ins C dx fs=>
  obtain⟨d,z,ne,e,mA,⟨j,es,ep,l,c⟩,r⟩:=x;exact⟨ho _ d,z,ne,k _ _ (.inl O) e,mA,⟨j,es,ep,k _ _ (.inr d) l,c⟩,r⟩
 |own y=>obtain⟨g,e⟩:=x;exact⟨g,k _ _ (.inl O) e⟩
 |xd fs=>obtain⟨mA,⟨j,es,ep,e,c⟩,r⟩:=x;exact⟨mA,⟨j,es,ep,k _ _ (.inl O) e,c⟩,r⟩
 |rng lo hi=>obtain⟨t,u,v,e⟩:=x;exact⟨t,u,v,k _ _ (.inl O) e⟩
 |frz g u ih=>obtain⟨e,q⟩:=x;exact⟨k _ _ (.inl O) e,ih q⟩
 |tbl ps=>
  have e:h.get? a=Z {cls:=.none,data:=.fields ps}:=x;show h'.get? a=Z {cls:=.none,data:=.fields ps};exact k a _ (.inl O) e
 |met f y=>
  have e:h.get? a=Z (PySem.W.methodObj (.ref f) (.ref y)):=x;show h'.get? a=Z (PySem.W.methodObj (.ref f) (.ref y));exact k a _ (.inl O) e
 |ext φ=>obtain⟨p,⟨o,e⟩,st⟩:=x;exact⟨st _ _ p λo q=>k _ _ (.inl O) q,⟨o,k _ _ (.inl O) e⟩,st⟩
theorem kM.lt(x:kM P w H h)(e:H a=Z o):a<h.objs.size:=(x a o e).lt
theorem kM.fresh(x:kM P w H h)(e:h.objs.size<=a):H a=Y:=by
 cases q:H a with
 |none=>rfl
 |some u=>exact absurd (nL1 (x.lt q) e) (ay _)
theorem kM.kept(x:kM P w H h)(k:∀b u,h.get? b=Z u->h'.get? b=Z u):kM P w H h':=λa o e=>
 (x a o e).stay (λb u _ q=>k b u q) (λ_ q=>q) λ_ _ q=>q
theorem kM.laid(x:kM P w H h)(k:∀b u,h.get? b=Z u->h'.get? b=Z u)(hp:h.objs.size<=a)(new:ew P w (upd H a o) h' a o):kM P w (upd H a o) h':=λb u e=>by
 have d:=x.fresh hp;by_cases f:b=a
 ·subst f;rw[dZ]at e;cases e;exact new
 ·rw[dD f]at e;exact(x b u e).stay (λc v _ q=>k c v q) (λc q=>by rw[dD (d2 q d)];exact q) λc xs q=>by rw[dD (d2 q d)];exact q
end
def Rd(H:Hp)(a:cJ)(u:HO):Prop:=H a=Z u \/ ∃o,H a=Z (.frz o u)
theorem Rd.of{H:Hp}{a:cJ}{u:HO}(h:H a=Z u):Rd H a u:=.inl h
theorem Rd.ok{P:cK}{w:cN}{H:Hp}{h:cT}{a:cJ}{u:HO}(r:Rd H a u)(x:kM P w H h):ew P w H h a u:=by
 rcases r with r|⟨o,r⟩
 ·exact x a u r
 ·obtain⟨_,q⟩:=x a _ r;exact q
def Hd:Option HO->Prop
 |some (.lst _)=>True
 |some (.dK _)=>True
 |some (.dT _)=>True
 |some (.set _ _)=>True
 |some (.ins _ _ _)=>True
 |some (.ext _)=>True
 |_=>False
section
variable{P:cK}{w:cN}{H:Hp}{h h':cT}{x e:cJ}{o':HO}
theorem kM.write(ok:kM P w H h)(mu:Hd (H x))(he:e=x\/H e=Z (.own x))(k:∀ b u,b≠e->h.get? b=Z u->h'.get? b=Z u)(i:∃ u,h'.get? e=Z u)(new:ew P w (upd H x o') h' x o'):kM P w (upd H x o') h':=λb u q=>by
 have d:∀c y,H c=Z (.own y)->c≠x:=λc y r z=>by subst z;rw[r]at mu;exact mu
 have f:∀c xs,H c=Z (.tup xs)->c≠x:=λc xs r z=>by subst z;rw[r]at mu;exact mu
 by_cases g:b=x
 ·subst g;rw[dZ]at q;cases q;exact new
 ·rw[dD g]at q;by_cases a:b=e
  ·have j:H b=some (.own x):=by
    rcases he with z|z
    ·exact absurd (a.trans z) g
    ·rw[a];exact z
   rw[q]at j;cases j;obtain⟨v,l⟩:=i;exact⟨v,by rw[a];exact l⟩
  ·refine(ok b u q).stay (λc v hc r=>k c v ?_ r) (λc r=>by rw[dD (d c b r)];exact r) λc xs r=>by rw[dD (f c xs r)];exact r
   rcases hc with rfl|hc
   ·exact a
   ·rintro rfl;rcases he with z|z
    ·exact d c b hc z
    ·rw[hc]at z;cases z;exact g O
end
structure Un (fs ex:List cJ)(H H':Hp)(h h':cT):Prop where
 keep:∀b o,h.get? b=some o->H b=none->b∉fs->b∉ex->h'.get? b=some o
 slot:∀b o,h.get? b=some o->H b=none->b∈fs->b∉ex -> ∃sl,h'.get? b=some {o with slots:=sl}
 free:∀b o,h.get? b=some o->H b=none->b∉ex->H' b=none
 there:∀b o,h.get? b=some o->b∉ex -> ∃o',h'.get? b=some o'
 tups:∀b xs,H b=some (.tup xs)->H' b=some (.tup xs)
 frzs:∀b o u,H b=some (.frz o u)->H' b=some (.frz o u)
 tbls:∀b ps,H b=some (.tbl ps) -> ∃more,H' b=some (.tbl (ps++more))
section
variable{fs fs' ex ex':List cJ}{H H1 H2:Hp}{h h1 h2 h':cT}{a x e:cJ}{o:HO}
theorem Un.any(u:Un fs ex H H1 h h1){b:cJ}{a:Obj}(q:h.get? b=Z a)(n:H b=Y)(hx:b∉ex):∃sl,h1.get? b=Z {a with slots:=sl}:=by
 by_cases c:b∈fs
 ·exact u.slot b a q n c hx
 ·exact⟨a.slots,u.keep b a q n c hx⟩
theorem Un.trans(a:Un fs ex H H1 h h1)(b:Un fs ex H1 H2 h1 h2):Un fs ex H H2 h h2 where
 keep:=λc d q n hc e=>b.keep c d (a.keep c d q n hc e) (a.free c d q n e) hc e
 slot:=λc d q n hc e=>by
  obtain⟨sl,f⟩:=a.slot c d q n hc e;obtain⟨g,i⟩:=b.slot c _ f (a.free c d q n e) hc e;exact⟨g,i⟩
 free:=λc d q n e=>by
  obtain⟨o',f⟩:=a.there c d q e;exact b.free c o' f (a.free c d q n e) e
 there:=λc d q e=>by
  obtain⟨o',f⟩:=a.there c d q e;exact b.there c o' f e
 tups:=λc xs q=>b.tups c xs (a.tups c xs q)
 frzs:=λc d xs q=>b.frzs c d xs (a.frzs c d xs q)
 tbls:=λc ps q=>by
  obtain⟨m1,f⟩:=a.tbls c ps q;obtain⟨m2,i⟩:=b.tbls c _ f;exact⟨m1++m2,by rw[i,Array.append_assoc]⟩
theorem Un.kept(k:∀b u,h.get? b=Z u->h'.get? b=Z u):Un fs ex H H h h':=
 ⟨λb a q _ _ _=>k b a q,λb a q _ _ _=>⟨a.slots,k b a q⟩,λ_ _ _ n _=>n,λb a q _=>⟨a,k b a q⟩,λ_ _ q=>q,λ_ _ _ q=>q,λ_ ps q=>⟨#[],by rw[q];simp⟩⟩
theorem Un.refl:Un fs ex H H h h:=Un.kept λ_ _ q=>q
theorem Un.laid(k:∀b u,h.get? b=Z u->h'.get? b=Z u)(hp:h.objs.size<=a)(hn:H a=Y):Un fs ex H (upd H a o) h h' where
 keep:=λb u q _ _ _=>k b u q
 slot:=λb u q _ _ _=>⟨u.slots,k b u q⟩
 free:=λb u q n _=>by rw[dD (nN1 (nL1 (hL1 q) hp))];exact n
 there:=λb u q _=>⟨u,k b u q⟩
 tups:=λb xs q=>by rw[dD (d2 q hn)];exact q
 frzs:=λb u xs q=>by rw[dD (d2 q hn)];exact q
 tbls:=λb ps q=>⟨#[],by rw[dD (d2 q hn),q];simp⟩
theorem Un.write(mu:Hd (H x))(he:e=x\/H e=Z (.own x))(k:∀b u,b≠e->h.get? b=Z u->h'.get? b=Z u)(c:∃u,h'.get? e=Z u):Un fs ex H (upd H x o) h h':=by
 have g:∀b,H b=Y->b≠x:=λb n z=>by subst z;rw[n]at mu;exact mu
 have f:∀b,H b=Y->b≠e:=λb n z=>by
  subst z;rcases he with r|r
  ·exact g b n r
  ·rw[n]at r;cases r
 have d:∀b u,H b=Z u -> ¬ Hd (Z u)->b≠x:=λb u q nm z=>by subst z;rw[q]at mu;exact nm mu
 refine⟨λb u q n _ _=>k b u (f b n) q,λb u q n _ _=>⟨u.slots,k b u (f b n) q⟩,λb u q n _=>by rw[dD (g b n)];exact n,λb u q _=>?_,
  λb xs q=>by rw[dD (d b _ q λz=>z)];exact q,λb u xs q=>by rw[dD (d b _ q λz=>z)];exact q,λb ps q=>⟨#[],by rw[dD (d b _ q λz=>z),q];simp⟩⟩
 by_cases a:b=e
 ·subst a;exact c
 ·exact⟨u,k b u a q⟩
end
def trk(h:cT)(H:Hp):List cJ:=(af h.objs.size).filter λa=>(H a).isSome
def qq(h:cT)(H:Hp):cT:=PySem.W.hideAll h (trk h H)
theorem wM(h:cT)(H:Hp):(qq h H).objs.size=h.objs.size:=PySem.W.hideAll_size _ _
theorem zE{h:cT}{H:Hp}{b:cJ}{o:Obj}(e:h.get? b=Z o)(n:H b=Y):(qq h H).get? b=Z o:=
 PySem.W.hideAll_get _ e λa=>by
  have q:(H b).isSome=M:=(az.mp a).2;rw[n]at q;simp at q
theorem BW{h:cT}{H:Hp}{b:cJ}{o:Obj}(e:(qq h H).get? b=Z o):h.get? b=Z o/\H b=Y:=by
 have a:h.get? b=Z o:=PySem.W.of_hideAll (trk h H) e;refine⟨a,?_⟩;cases q:H b with
 |none=>rfl
 |some x=>
  have c:b∈trk h H:=az.mpr ⟨aA.mpr (hL1 a),by simp[q]⟩;have z:(qq h H).get? b=Y:=PySem.W.hideAll_none (trk h H) c;rw[z]at e;cases e
def Dk(g h:cT)(L:cJ):List (cJ×Obj):=(af h.objs.size).filterMap λa=>if a=L\/(g.get? a).isSome=M then Y else(h.get? a).map λo=>(a,o)
def rest(g h:cT)(L d:cJ):List (cJ×Obj):=(Dk g h L).filter λp=>decide (p.1≠d)
end L2
namespace L2
open PySem PySem.Spec PyProof.Rows
structure Mod (K:Fg1)(mg:Str->Option cH)(base:cT):Prop where
 kin:K.In base
 glob:base.Ns cO mg
 blt:∃mb,base.Ns builtinsNs mb /\ ∀x:Str,x≠"__name__"->mb x=bootBuiltins x
 nolimit:base.NoLimit
structure Cx where
 prog:cK
 w:cN
 K:Fg1
 mg:Str->Option cH
 base:cT
 A:cM
 N:List Str
 s₀:cI
 H₀:Hp
 env:Env
 outer:List Env
 stack:List Env
 ex:List cJ
 fn:Str->Bool
 calm:Bool
 pn:List (cJ×Obj)
 xe:cH->cI->Prop
def frs(l:List Env):List cJ:=l.filterMap (·.frame)
abbrev Cx.fs(X:Cx):List cJ:=frs X.outer
def Vis(sc:cW)(x:Str):Prop:=sc.names.lookup x=Z .local\/sc.names.lookup x=Z .cell\/sc.names.lookup x=Z .free
def uK(sc:cW)(x:Str):Prop:=sc.names.lookup x=Z .local\/sc.names.lookup x=Z .cell
def Ks(env:Env)(h:cT)(m:Str->Option cH)(x:Str)(u:cH):Prop:=
 (env.kindOf x=Z .local/\m x=Z u)\/((env.kindOf x=Z .cell\/env.kindOf x=Z .free) /\ ∃c,env.cells.lookup x=Z c/\h.IsCell c (Z u))
structure Cx.Ok (X:Cx):Prop where
 mod:Mod X.K X.mg X.base
 kind:X.env.scope.kind = .function
 glob:X.env.globals=cO
 blt:X.env.builtins=builtinsNs
 above:X.s₀.heap.objs.size<=X.env.locals
 inj:∀x y c,X.env.cells.lookup x=some c->X.env.cells.lookup y=some c->x=y
 has:∀x,(X.env.kindOf x=some .cell\/X.env.kindOf x=some .free) -> ∃c,X.env.cells.lookup x=some c
 cab:∀x c,X.fn x=true->X.env.cells.lookup x=some c->X.s₀.heap.objs.size<=c
 hd:X.calm=true->X.A.handled=none
 frames:X.A.frames=some X.stack
 stk:X.stack=X.outer\/(X.stack=X.env::X.outer/\X.env.frame=some X.env.locals)
 exf:∀b∈X.ex,b≠X.env.locals /\ ∀x c,X.env.cells.lookup x=some c->c≠b
 bs:∀b o,X.base.get? b=some o->X.s₀.heap.get? b=some o/\X.H₀ b=none
 bsz:X.base.objs.size<=X.s₀.heap.objs.size
 noex:∀b o,X.base.get? b=some o->b∉X.ex
 exfs:∀b∈X.ex,b∉X.fs
 funs:X.s₀.heap.FunFrames X.base X.outer
 frf:∀b∈X.fs,X.H₀ b=none
structure Inv (X:Cx)(ag:List (cJ×Obj))(σ:List (Option V))(H:Hp)(s:cI):Prop where
 ok:X.Ok
 os:s.os=X.s₀.os
 bare:AllBare s.gens
 base:Un X.fs X.ex X.H₀ H X.s₀.heap s.heap
 loc:∃m,s.heap.Ns X.env.locals m /\ ∀(i:Nat) (x:Str) (v:V),X.N[i]?=some x->σ[i]?=some (some v)->Vis X.env.scope x -> ∃u,dt v u/\Ks X.env s.heap m x u
 cell:∀x c,X.env.cells.lookup x=some c -> ∃v,s.heap.IsCell c v
 free:H X.env.locals=none
 freeC:∀x c,X.env.cells.lookup x=some c->H c=none
 pin:∀p∈X.pn++ag,s.heap.get? p.1=some p.2/\H p.1=none/\p.1≠X.env.locals/\p.1∉X.fs /\ ∀v,p.2.data ≠ .cell v
 hok:kM X.prog X.w H s.heap
 len:σ.length=X.N.length
section
variable{X:Cx}{ag:List (cJ×Obj)}{σ:List (Option V)}{H H':Hp}{s:cI}{h':cT}
theorem Cx.Ok.nofr(ok:X.Ok){b:cJ}{o:Obj}(e:X.base.get? b=Z o):b∉X.fs:=λa=>by
 have:=(ok.funs.mem a).1;rw[e]at this;cases this
theorem Inv.bs(I:Inv X ag σ H s):∀b o,X.base.get? b=Z o->s.heap.get? b=Z o/\H b=Y:=λb o e=>
 ⟨I.base.keep b o (I.ok.bs b o e).1 (I.ok.bs b o e).2 (I.ok.nofr e) (I.ok.noex b o e),I.base.free b o (I.ok.bs b o e).1 (I.ok.bs b o e).2 (I.ok.noex b o e)⟩
theorem Inv.bk(I:Inv X ag σ H s):∀b o,X.base.get? b=Z o->s.heap.get? b=Z o:=λb o e=>(I.bs b o e).1
theorem Inv.mod(I:Inv X ag σ H s):Mod X.K X.mg X.base:=I.ok.mod
theorem Inv.kIn(I:Inv X ag σ H s):X.K.In s.heap:=I.ok.mod.kin.keeps I.bk
theorem Inv.lt(I:Inv X ag σ H s):X.env.locals<s.heap.objs.size:=let ⟨_,hn,_⟩:=I.loc;hn.lt
theorem Inv.sz(I:Inv X ag σ H s):X.s₀.heap.objs.size<=s.heap.objs.size:=aB I.ok.above (Nat.le_of_lt I.lt)
theorem Inv.nofs(I:Inv X ag σ H s){a:cJ}(h:s.heap.objs.size<=a):a∉X.fs:=λc=>by
 obtain⟨_,o,b,_⟩:=I.ok.funs.mem c;exact absurd (nL1 (hL1 b) (aB I.sz h)) (ay _)
theorem Inv.cne(I:Inv X ag σ H s):∀x c,X.env.cells.lookup x=Z c->c≠X.env.locals:=λx c e z=>by
 obtain⟨v,o,f,d⟩:=I.cell x c e;obtain⟨m,⟨o',es,ep,a,b,_⟩,_⟩:=I.loc;rw[z,a]at f;cases f;rw[b]at d;cases d
theorem Inv.funs(I:Inv X ag σ H s):s.heap.FunFrames X.base X.outer:=by
 have all:∀(l:List Env),(∀b∈frs l,b∈X.fs)->X.s₀.heap.FunFrames X.base l->s.heap.FunFrames X.base l:=by
  intro l
  induction l with
  |nil=>intro _ _;trivial
  |cons h r ih=>
   intro f n;obtain⟨j,⟨L,o,d,m,k,g⟩,i⟩:=n;have c:L∈X.fs:=f L (by unfold frs;rw[aC,d];exact mS1);obtain⟨sl,e⟩:=I.base.slot L o k (I.ok.frf L c) c λz=>I.ok.exfs L z c;exact⟨j,⟨L,_,d,m,e,g⟩,ih (λb a=>f b (by unfold frs;rw[aC,d];exact mC1 _ a)) i⟩
 exact all X.outer (λ_ a=>a) I.ok.funs
theorem Inv.stack(I:Inv X ag σ H s):s.heap.FunFrames X.base X.stack:=by
 rcases I.ok.stk with e|⟨e,b⟩
 ·rw[e];exact I.funs
 ·rw[e];obtain⟨m,a,_⟩:=I.loc;refine .cons (by rw[I.ok.kind];decide) b a ?_ I.funs;exact Heap.get?_none_of_le (aB I.ok.bsz I.ok.above)
theorem Inv.stkSub(I:Inv X ag σ H s):∀b∈frs X.stack,b∈X.env.locals::X.fs:=λb a=>by
 rcases I.ok.stk with e|⟨e,c⟩
 ·rw[e]at a;exact mC1 _ a
 ·rw[e]at a;unfold frs at a;rw[aC,c]at a;exact a
theorem Inv.stkFree(I:Inv X ag σ H s):∀b∈frs X.stack,H b=Y:=λb a=>by
 rcases aD.mp (I.stkSub b a)with e|a
 ·rw[e];exact I.free
 ·obtain⟨_,o,c,_⟩:=I.ok.funs.mem a;exact I.base.free b o c (I.ok.frf b a) λz=>I.ok.exfs b z a
theorem Inv.step{g':Array GenState}{t':Nat}{d':Drawn}{ch:List cJ}(I:Inv X ag σ H s)(g:∀b∈ch,(b∈X.ex\/X.s₀.heap.objs.size<=b)/\b≠X.env.locals/\(∀x c,X.env.cells.lookup x=some c->c≠b) /\ ∀p∈X.pn++ag,p.1≠b)(keep:∀b o,b≠X.env.locals->b∉X.fs->b∉ch->s.heap.get? b=some o->H b=none->h'.get? b=some o)(slot:∀b o,b≠X.env.locals->b∈X.fs->b∉ch->s.heap.get? b=some o->H b=none -> ∃sl,h'.get? b=some {o with slots:=sl})(free:∀b o,b∉ch->s.heap.get? b=some o->H b=none->H' b=none)(w:∀b o,b∉ch->s.heap.get? b=some o -> ∃o',h'.get? b=some o')(E:∀b xs,H b=some (.tup xs)->H' b=some (.tup xs))(F:∀b o u,H b=some (.frz o u)->H' b=some (.frz o u))(C:∀b ps,H b=some (.tbl ps) -> ∃more,H' b=some (.tbl (ps++more)))(ns:∀m,s.heap.Ns X.env.locals m->h'.Ns X.env.locals m)(G:kM X.prog X.w H' h')(hg:AllBare g'):
  Inv X ag σ H' {s with heap:=h',gens:=g',drawn:=d',toks:=t'}:=by
 have B:∀b o,X.s₀.heap.get? b=Z o->b≠X.env.locals:=λb o e=>nN1 (nL1 (hL1 e) I.ok.above);have t:∀b o,X.s₀.heap.get? b=Z o->b∉X.ex->b∉ch:=λb o e a y=>by
  rcases(g b y).1 with z|z
  ·exact a z
  ·exact absurd (nL1 (hL1 e) z) (ay _)
 have h:∀x c,X.env.cells.lookup x=Z c -> ∀v,s.heap.IsCell c v->h'.IsCell c v:=λx c e v ⟨o,A,am⟩=>by
  have f:c∉ch:=λz=>(g c z).2.2.1 x c e O;by_cases hc:c∈X.fs
  ·obtain⟨sl,q⟩:=slot c o (I.cne x c e) hc f A (I.freeC x c e);exact⟨_,q,am⟩
  ·exact⟨o,keep c o (I.cne x c e) hc f A (I.freeC x c e),am⟩
 refine⟨I.ok,I.os,hg,⟨λb o e n y a=>?_,λb o e n y a=>?_,λb o e n a=>?_,λb o e a=>?_,λb xs e=>E b xs (I.base.tups b xs e),λb o xs e=>F b o xs (I.base.frzs b o xs e),λb ps e=>?_⟩,?_,λx c e=>?_,?_,λx c e=>?_,λp L=>?_,G,I.len⟩
 ·exact keep b o (B b o e) y (t b o e a) (I.base.keep b o e n y a) (I.base.free b o e n a)
 ·obtain⟨sl,j⟩:=I.base.slot b o e n y a;obtain⟨K,D⟩:=slot b _ (B b o e) y (t b o e a) j (I.base.free b o e n a);exact⟨K,D⟩
 ·obtain⟨o',j⟩:=I.base.there b o e a;exact free b o' (t b o e a) j (I.base.free b o e n a)
 ·obtain⟨o',j⟩:=I.base.there b o e a;exact w b o' (t b o e a) j
 ·obtain⟨m1,j⟩:=I.base.tbls b ps e;obtain⟨m2,D⟩:=C b _ j;exact⟨m1++m2,by rw[D,Array.append_assoc]⟩
 ·obtain⟨m,ar,P⟩:=I.loc;refine⟨m,ns m ar,λi x v j D N=>?_⟩;obtain⟨u,r,l⟩:=P i x v j D N;refine⟨u,r,?_⟩;rcases l with l|⟨k,c,e,z⟩
  ·exact .inl l
  ·exact .inr ⟨k,c,e,h x c e _ z⟩
 ·obtain⟨v,z⟩:=I.cell x c e;exact⟨v,h x c e v z⟩
 ·obtain⟨m,⟨o,_,_,A,_⟩,_⟩:=I.loc;exact free _ o (λz=>(g _ z).2.1 O) A I.free
 ·obtain⟨v,o,A,am⟩:=I.cell x c e;exact free c o (λz=>(g c z).2.2.1 x c e O) A (I.freeC x c e)
 ·obtain⟨e,n,ne,ao,d⟩:=I.pin p L;have f:p.1∉ch:=λz=>(g p.1 z).2.2.2 p L O;exact⟨keep p.1 p.2 ne ao f e n,free p.1 p.2 f e n,ne,ao,d⟩
theorem Inv.un{t':Nat}(I:Inv X ag σ H s)(u:Un X.fs [] H H' s.heap h')(d:kM X.prog X.w H' h'):Inv X ag σ H' {s with heap:=h',toks:=t'}:=by
 obtain⟨m,⟨o,es,ep,h,r⟩,_⟩:=id I.loc;obtain⟨sl,j⟩:=u.any h I.free (by simp);exact I.step (g':=s.gens) (d':=s.drawn) (ch:=[]) (λ_ z=>nomatch z) (λb o _ f _ e n=>u.keep b o e n f (by simp)) (λb o _ f _ e n=>u.slot b o e n f (by simp)) (λb o _ e n=>u.free b o e n (by simp)) (λb o _ e=>u.there b o e (by simp)) u.tups u.frzs u.tbls (λl k=>by
  obtain⟨o',c,g,a,i⟩:=k;rw[h]at a;cases a;exact⟨_,c,g,j,i⟩) d I.bare
theorem Inv.call{g':Array GenState}{t':Nat}{d':Drawn}{ch:List cJ}(I:Inv X ag σ H s)(u:Un (frs X.stack) ch H H' s.heap h')(g:kM X.prog X.w H' h')(hg:AllBare g')(a:∀b∈ch,(b∈X.ex\/X.s₀.heap.objs.size<=b)/\b≠X.env.locals/\(∀x c,X.env.cells.lookup x=some c->c≠b) /\ ∀p∈X.pn++ag,p.1≠b):
  Inv X ag σ H' {s with heap:=h',gens:=g',drawn:=d',toks:=t'}:=by
 obtain⟨m,⟨o,es,ep,j,r⟩,_⟩:=id I.loc;obtain⟨sl,i⟩:=u.any j I.free λz=>(a _ z).2.1 O;exact I.step (ch:=ch) a (λb o i k hc e n=>u.keep b o e n (λz=>(aD.mp (I.stkSub b z)).elim i k) hc) (λb o _ _ hc e n=>u.any e n hc) (λb o hc e n=>u.free b o e n hc) (λb o hc e=>u.there b o e hc) u.tups u.frzs u.tbls (λt q=>by
  obtain⟨o',f,h,d,l⟩:=q;rw[j]at d;cases d;exact⟨_,f,h,i,l⟩) g hg
theorem Inv.turned{t':Nat}{it:cJ}(I:Inv X ag σ H s)(k:∀ b o,b≠it->s.heap.get? b=Z o->h'.get? b=Z o)(hn:H it=Y)(d:it≠X.env.locals)(h1:it∈X.ex\/X.s₀.heap.objs.size<=it)(h2:∀x c,X.env.cells.lookup x=Z c->c≠it)(h:∀p∈X.pn++ag,p.1≠it):Inv X ag σ H {s with heap:=h',toks:=t'}:=by
 have a:∀b u,H b=Z u->b≠it:=λb u e z=>by rw[z,hn]at e;cases e
 refine I.step (g':=s.gens) (d':=s.drawn) (ch:=[it]) (λb g=>?_) (λb o _ _ hc e _=>k b o (λz=>hc (by simp[z])) e) (λb o _ _ hc e _=>⟨o.slots,k b o (λz=>hc (by simp[z])) e⟩) (λ_ _ _ _ n=>n)
  (λb o hc e=>⟨o,k b o (λz=>hc (by simp[z])) e⟩) (λ_ _ e=>e) (λ_ _ _ e=>e) (λb ps e=>⟨#[],by rw[e];simp⟩) (λm i=>?_) (λb u e=>?_) I.bare
 ·have e:b=it:=by simpa using g
  subst e;exact⟨h1,d,h2,h⟩
 ·obtain⟨o,es,ep,f,r⟩:=i;exact⟨o,es,ep,k _ o (Ne.symm d) f,r⟩
 ·refine(I.hok b u e).stay (λc v hc q=>k c v ?_ q) (λ_ q=>q) λ_ _ q=>q;rcases hc with z|z
  ·rw[z];exact a b u e
  ·exact a c _ z
theorem Inv.tok(I:Inv X ag σ H s)(t:Nat):Inv X ag σ H {s with toks:=t}:=I.un (h':=s.heap) (t':=t) Un.refl I.hok
theorem Inv.kept{t':Nat}(I:Inv X ag σ H s)(k:∀b u,s.heap.get? b=Z u->h'.get? b=Z u):Inv X ag σ H {s with heap:=h',toks:=t'}:=I.un (Un.kept k) (I.hok.kept k)
theorem Inv.laid{a:cJ}{o:HO}{t':Nat}(I:Inv X ag σ H s)(k:∀ b u,s.heap.get? b=some u->h'.get? b=some u)(hp:s.heap.objs.size<=a)(new:ew X.prog X.w (upd H a o) h' a o):
  Inv X ag σ (upd H a o) {s with heap:=h',toks:=t'}:=I.un (Un.laid k hp (I.hok.fresh hp)) (I.hok.laid k hp new)
theorem Inv.write{x e:cJ}{o:HO}{t':Nat}(I:Inv X ag σ H s)(mu:Hd (H x))(he:e=x\/H e=Z (.own x))(k:∀ b u,b≠e->s.heap.get? b=Z u->h'.get? b=Z u)(a:∃ u,h'.get? e=Z u)(new:ew X.prog X.w (upd H x o) h' x o):Inv X ag σ (upd H x o) {s with heap:=h',toks:=t'}:=I.un (Un.write mu he k a) (I.hok.write mu he k a new)
theorem Inv.pins_of{a:List (cJ×Obj)}(I:Inv X ag σ H s)(h:∀p∈a,s.heap.get? p.1=Z p.2/\H p.1=Y/\p.1≠X.env.locals/\p.1∉X.fs /\ ∀v,p.2.data ≠ .cell v):Inv X a σ H s:=
 ⟨I.ok,I.os,I.bare,I.base,I.loc,I.cell,I.free,I.freeC,λp b=>(aE.mp b).elim (λz=>I.pin p (aF _ z)) (h p),I.hok,I.len⟩
theorem rS{N:List Str}(hN:N.Nodup){i j:Nat}{x:Str}(a:N[i]?=Z x)(b:N[j]?=Z x):i=j:=by
 obtain⟨h1,d⟩:=gE1.mp a;obtain⟨h2,c⟩:=gE1.mp b;exact(List.getElem_inj hN).mp (d.trans c.symm)
theorem wh{ao:Model}{A:cM}{E:cH->cI->Prop}{i:Nat}{x:Str}{v:V}{u:cH}{Q:Unit->cI->Prop}(I:Inv X ag σ H s)(hN:X.N.Nodup)(hi:X.N[i]? = Z x)(hx:uK X.env.scope x)(r:dt v u)(h:∀s',Inv X ag (σ.set i (Z v)) H s'->(∃a,Heap.SameBut a s.heap s'.heap/\(a=X.env.locals\/X.env.cells.lookup x=Z a))->Q () s')(hf:X.fn x=M\/X.env.scope.names.lookup x=Z .local:=by first|exact .inl rfl|exact .inr rfl|assumption):cR ao A (storeName X.env x u) Q E s:=by
 obtain⟨m,aq,hl⟩:=id I.loc;have G:(X.env.scope.kind == .class||(X.env.scope.kind == .module&&X.env.locals != X.env.globals))=J:=by rw[I.ok.kind];rfl
 have w:i<σ.length:=by rw[I.len];exact(gE1.mp hi).1
 have cne:=I.cne;have tracked:∀{a:cJ} {h':cT},(∃o,s.heap.get? a=Z o/\H a=Y)->Heap.SameBut a s.heap h'->kM X.prog X.w H h':=λ{a h'} ha f b ob e=>by
  obtain⟨_,_,l⟩:=ha;refine(I.hok b ob e).stay (λc P hc q=>(f.2 c ?_).trans q) (λ_ q=>q) λ_ _ q=>q;rintro rfl;rcases hc with rfl|hc
  ·rw[l]at e;cases e
  ·rw[l]at hc;cases hc
 rcases hx with B|B
 ·refine wpAny_storeName_local B aq (λh' S f=>?_) G;obtain⟨oL,_,_,U,_⟩:=id aq;refine h _ ⟨I.ok,I.os,I.bare,⟨λb o e n D hx=>?_,λb o e n D hx=>?_,I.base.free,λb o e hx=>?_,I.base.tups,I.base.frzs,I.base.tbls⟩,⟨_,S,λj y v' g t R=>?_⟩,λy c e=>?_,I.free,I.freeC,λp T=>?_,tracked ⟨oL,U,I.free⟩ f,by simpa using I.len⟩ ⟨_,f,.inl O⟩
  ·exact(f.2 b (nN1 (nL1 (hL1 e) I.ok.above))).trans (I.base.keep b o e n D hx)
  ·obtain⟨sl,g⟩:=I.base.slot b o e n D hx;exact⟨sl,(f.2 b (nN1 (nL1 (hL1 e) I.ok.above))).trans g⟩
  ·obtain⟨o',g⟩:=I.base.there b o e hx;exact⟨o',(f.2 b (nN1 (nL1 (hL1 e) I.ok.above))).trans g⟩
  ·by_cases C:j=i
   ·subst C;rw[hi]at g;cases g;rw[aG w]at t;cases t;exact⟨u,r,.inl ⟨B,by simp⟩⟩
   ·rw[gS1 (Ne.symm C)]at t;obtain⟨u',wq,q⟩:=hl j y v' g t R;refine⟨u',wq,?_⟩;rcases q with⟨k,e⟩|⟨k,c,e,z⟩
    ·refine .inl ⟨k,?_⟩;have:y≠x:=λe=>C (rS hN g (e ▸ hi));simp[this,e]
    ·exact .inr ⟨k,c,e,z.sameBut f (cne y c e)⟩
  ·obtain⟨P,z⟩:=I.cell y c e;exact⟨P,z.sameBut f (cne y c e)⟩
  ·obtain⟨e,n,ne,W,d⟩:=I.pin p T;exact⟨(f.2 p.1 ne).trans e,n,ne,W,d⟩
 ·have F:X.fn x=true:=by
   rcases hf with z|z
   ·exact z
   ·rw[z]at B;cases B
  obtain⟨c,hc⟩:=I.ok.has x (.inl B);obtain⟨P,z⟩:=I.cell x c hc;refine wpAny_storeName_cell I.ok.kind B hc z (λh' am f=>?_);obtain⟨oc,N,L⟩:=id z;refine h {s with heap:=h'} ⟨I.ok,I.os,I.bare,⟨λb o e n D hx=>?_,λb o e n D hx=>?_,I.base.free,λb o e hx=>?_,I.base.tups,I.base.frzs,I.base.tbls⟩,⟨m,aq.sameBut f (Ne.symm (cne x c hc)),λj y v' g t R=>?_⟩,λy ar e=>?_,I.free,I.freeC,λp T=>?_,tracked ⟨oc,N,I.freeC x c hc⟩ f,by simpa using I.len⟩ ⟨c,f,.inr hc⟩
  ·exact(f.2 b (nN1 (nL1 (hL1 e) (I.ok.cab x c F hc)))).trans (I.base.keep b o e n D hx)
  ·obtain⟨sl,g⟩:=I.base.slot b o e n D hx;exact⟨sl,(f.2 b (nN1 (nL1 (hL1 e) (I.ok.cab x c F hc)))).trans g⟩
  ·obtain⟨o',g⟩:=I.base.there b o e hx;exact⟨o',(f.2 b (nN1 (nL1 (hL1 e) (I.ok.cab x c F hc)))).trans g⟩
  ·by_cases C:j=i
   ·subst C;rw[hi]at g;cases g;rw[aG w]at t;cases t;exact⟨u,r,.inr ⟨.inl B,c,hc,am⟩⟩
   ·rw[gS1 (Ne.symm C)]at t;obtain⟨u',wq,q⟩:=hl j y v' g t R;refine⟨u',wq,?_⟩;rcases q with q|⟨k,ar,e,z'⟩
    ·exact .inl q
    ·refine .inr ⟨k,ar,e,z'.sameBut f ?_⟩;rintro rfl;exact C (rS hN g (I.ok.inj _ _ _ e hc ▸ hi))
  ·by_cases K:ar=c
   ·subst K;exact⟨_,am⟩
   ·obtain⟨w2,z2⟩:=I.cell y ar e;exact⟨w2,z2.sameBut f K⟩
  ·obtain⟨e,n,ne,W,d⟩:=I.pin p T;refine⟨(f.2 p.1 ?_).trans e,n,ne,W,d⟩;intro q;rw[q,N]at e;have q':oc=p.2:=Option.some.inj e;exact d P (by rw[<- q'];exact L)
theorem jx{ao:Model}{A:cM}{E:cH->cI->Prop}{i:Nat}{x:Str}{v:V}{u:cH}{Q:Unit->cI->Prop}(I:Inv X ag σ H s)(hN:X.N.Nodup)(hi:X.N[i]? = Z x)(hx:uK X.env.scope x)(r:dt v u)(h:∀s',Inv X ag (σ.set i (Z v)) H s'->Q () s')(hf:X.fn x=M\/X.env.scope.names.lookup x=Z .local:=by first|exact .inl rfl|exact .inr rfl|assumption):cR ao A (storeName X.env x u) Q E s:=
 wh I hN hi hx r (λs' a _=>h s' a) hf
theorem Inv.call'{s':cI}{ch:List cJ}(I:Inv X ag σ H s)(ho:s'.os=s.os)(u:Un (frs X.stack) ch H H' s.heap s'.heap)(a:kM X.prog X.w H' s'.heap)(hg:AllBare s'.gens)(d:∀b∈ch,(b∈X.ex\/X.s₀.heap.objs.size<=b)/\b≠X.env.locals/\(∀x c,X.env.cells.lookup x=Z c->c≠b) /\ ∀p∈X.pn++ag,p.1≠b):Inv X ag σ H' s':=by
 obtain⟨h',h,f,g,o'⟩:=s';have e:o'=s.os:=ho;subst e;exact I.call (g':=h) (t':=g) (d':=f) u a hg d
end
abbrev XK:=cH->Option cJ->Hp->Prop
abbrev St:=List (Option V)
abbrev VK:=V->Hp->Prop
abbrev TE:=St->Hp->VK->Prop
abbrev TT:=St->Hp->(Bool->Hp->Prop)->Prop
abbrev TA:=St->Hp->(List V->Hp->Prop)->Prop
structure js where
 nx:St->Hp->Prop
 rt:VK
 bk:St->Hp->Prop:=λ_ _=>False
 ct:St->Hp->Prop:=λ_ _=>False
abbrev TS:=js->St->Hp->Prop
def EP(X:Cx)(ag:List (cJ×Obj))(σ:St)(Q:VK)(u:cH)(s':cI):Prop:=∃v H',Inv X ag σ H' s'/\dt v u/\Q v H'
def TP(X:Cx)(ag:List (cJ×Obj))(σ:St)(Q:Bool->Hp->Prop)(b:Bool)(s':cI):Prop:=∃H',Inv X ag σ H' s'/\Q b H'
def AP(X:Cx)(ag:List (cJ×Obj))(σ:St)(Q:List V->Hp->Prop)(us:List cH)(s':cI):Prop:=∃vs H',Inv X ag σ H' s'/\dM vs us/\Q vs H'
def SP(X:Cx)(ag:List (cJ×Obj))(D:js)(f:Flow)(s':cI):Prop:=
 match f with
 | .next=>∃ σ' H',Inv X ag σ' H' s'/\D.nx σ' H'
 | .brk=>∃ σ' H',Inv X ag σ' H' s'/\D.bk σ' H'
 | .cont=>∃ σ' H',Inv X ag σ' H' s'/\D.ct σ' H'
 | .ret u=>∃v σ' H',Inv X ag σ' H' s'/\dt v u/\D.rt v H'
def PE(X:Cx)(e:Expr)(t:TE):Prop:=
 ∀(ag:List (cJ×Obj)) (s:cI) (σ:St) (H:Hp) (Q:VK),Inv X ag σ H s->t σ H Q->cR (model X.prog X.w) X.A (eval e X.env) (EP X ag σ Q) X.xe s
def PT(X:Cx)(e:Expr)(t:TT):Prop:=
 ∀(ag:List (cJ×Obj)) (s:cI) (σ:St) (H:Hp) (Q:Bool->Hp->Prop),Inv X ag σ H s->t σ H Q->cR (model X.prog X.w) X.A (isTrue e X.env (eval e X.env)) (TP X ag σ Q) X.xe s
def PW(X:Cx)(e:Expr)(t:TT):Prop:=
 ∀(whole:Sem cH) (ag:List (cJ×Obj)) (s:cI) (σ:St) (H:Hp) (Q:Bool->Hp->Prop),Inv X ag σ H s->t σ H Q->cR (model X.prog X.w) X.A (isTrue e X.env whole) (TP X ag σ Q) X.xe s
theorem PW.pt{X:Cx}{e:Expr}{t:TT}(h:PW X e t):PT X e t:=h _
def PA(X:Cx)(es:List Expr)(t:TA):Prop:=
 ∀(pos:Pos) (ag:List (cJ×Obj)) (s:cI) (σ:St) (H:Hp) (Q:List V->Hp->Prop),Inv X ag σ H s->t σ H Q->cR (model X.prog X.w) X.A (spliced (backTo pos (cP es X.env))) (AP X ag σ Q) X.xe s
def PS(X:Cx)(st:cV)(t:TS):Prop:=
 ∀(ag:List (cJ×Obj)) (s:cI) (σ:St) (H:Hp) (D:js),Inv X ag σ H s->t D σ H->cR (model X.prog X.w) X.A (exec st X.env) (SP X ag D) X.xe s
def s9(X:Cx)(st:List cV)(t:TS):Prop:=
 ∀(ag:List (cJ×Obj)) (s:cI) (σ:St) (H:Hp) (D:js),Inv X ag σ H s->t D σ H->cR (model X.prog X.w) X.A (execs st X.env) (SP X ag D) X.xe s
theorem eR{α:Type}{t:Sem α}{Q b:α->cI->Prop}{ao:Model}{A:cM}{E:cH->cI->Prop}{s:cI}(h:cR ao A t Q E s)(c:∀a s,Q a s->b a s):cR ao A t b E s:=wpAny_mono h c λ_ _ x=>x
end L2
namespace L2
open PySem PySem.Spec PyProof.Rows
section
variable{X:Cx}
theorem LM{a b:Expr}{ta tb:TE}(ha:PE X a ta)(hb:PE X b tb){ag:List (cJ×Obj)}{s:cI}{σ:St}{H:Hp}{R:V->V->Hp->Prop}(I:Inv X ag σ H s)(h:ta σ H fun x H1=>tb σ H1 fun y H2=>R x y H2){α:Type}{Q:α->cI->Prop}{f:cH->cH->Sem α}(hf:∀v u e x y H2,Inv X ag σ H2 e->dt x v->dt y u->R x y H2->cR (model X.prog X.w) X.A (f v u) Q X.xe e):
  cR (model X.prog X.w) X.A (eval a X.env) (λv d=>cR (model X.prog X.w) X.A (eval b X.env) (λu c=>cR (model X.prog X.w) X.A (f v u) Q X.xe c) X.xe d) X.xe s:=by
 refine eR (ha ag s σ H _ I h) λv m ⟨x,H1,i,g,l⟩=>?_;refine eR (hb ag m σ H1 _ i l) λu e ⟨y,H2,j,r2,k⟩=>?_;exact hf v u e x y H2 j g r2 k
def Jz(i:Nat):TE:=fun σ H Q=>∃v,σ[i]?=Z (Z v)/\Q v H
def tC(v:V):TE:=λ_ H Q=>Q v H
theorem Fb {i:Nat}{x:Str}{pos:Pos}(hN:X.N[i]?=Z x)(hv:Vis X.env.scope x)(hd:(x == ("__debug__":Str))=J:=by decide)(hcd:(x == ("__classdict__":Str))=J:=by decide):PE X (.Name x pos) (Jz i):=by
 intro ag s σ H Q I h;obtain⟨v,e,h⟩:=h;obtain⟨m,f,g⟩:=I.loc;obtain⟨u,r,l⟩:=g i x v hN e hv;have d:EP X ag σ Q u s:=⟨v,H,I,r,h⟩;rcases l with⟨b,j⟩|⟨b,c,hc,a⟩
 ·exact wpAny_Name (wpAny_loadName_local I.ok.kind b f j d) hd
 ·rcases b with b|b
  ·exact wpAny_Name (wpAny_loadName_cell I.ok.kind b hc a d) hd
  ·exact wpAny_Name (wpAny_loadName_free I.ok.kind b hc a d hcd) hd
theorem Fj{i j pos}:PE X (.Constant (.int i) j pos) (tC (.int i)):=λ_ _ _ H _ I h=>wpAny_Constant_int ⟨.int i,H,I.tok _,⟨_,O⟩,h⟩
theorem H0{b j pos}:PE X (.Constant (.bool b) j pos) (tC (.bl b)):=λ_ _ _ H _ I h=>Constant_bool ⟨.bl b,H,I,O,h⟩
theorem Fh{j pos}:PE X (.Constant .none j pos) (tC .non):=λ_ _ _ H _ I h=>Constant_none ⟨.non,H,I,O,h⟩
theorem Fd{x j pos}:PE X (.Constant (.str x) j pos) (tC (.str x)):=λ_ _ _ H _ I h=>Calls.Constant_str ⟨.str x,H,I.tok _,⟨_,O⟩,h⟩
def Gl(X:Cx)(x:Str):Prop:=X.env.kindOf x=Z .globalImplicit
theorem vx {E:cH->cI->Prop}{ag:List (cJ×Obj)}{s:cI}{σ:St}{H:Hp}{x:Str}{u:cH}{pos:Pos}{Q:cH->cI->Prop}(I:Inv X ag σ H s)(hg:Gl X x)(hm:X.mg x=some u)(h:Q u s)
  (hd:(x == ("__debug__":Str))=J:=by decide):cR (model X.prog X.w) X.A (eval (.Name x pos) X.env) Q E s:=
 Calls.Name_function_global I.ok.kind hg (Calls.loadGlobal_global (by rw[I.ok.glob];exact I.mod.glob.keeps I.bk) hm h) hd
theorem lI {E:cH->cI->Prop}{ag:List (cJ×Obj)}{s:cI}{σ:St}{H:Hp}{x:Str}{u:cH}{pos:Pos}{Q:cH->cI->Prop}(I:Inv X ag σ H s)(hg:Gl X x)(hm:X.mg x=none)(hv:bootBuiltins x=some u)(h:Q u s)
  (hn:x≠"__name__":=by decide) (hd:(x == ("__debug__":Str))=J:=by decide):cR (model X.prog X.w) X.A (eval (.Name x pos) X.env) Q E s:=by
 obtain⟨a,h1,h2⟩:=I.mod.blt;exact Calls.Name_function_global I.ok.kind hg (Calls.loadGlobal_builtin (by rw[I.ok.glob];exact I.mod.glob.keeps I.bk) hm (by rw[I.ok.blt];exact h1.keeps I.bk) ((h2 x hn).trans hv) h) hd
theorem BJ {x:Str}{v:V}{u:cH}{pos:Pos}(hg:Gl X x)(hm:X.mg x=Z u)(r:dt v u)(hd:(x == ("__debug__":Str))=J:=by decide):PE X (.Name x pos) (tC v):=
 λ_ _ _ H _ I h=>vx I hg hm ⟨v,H,I,r,h⟩ hd
theorem BO {x:Str}{v:V}{u:cH}{pos:Pos}(hg:Gl X x)(hm:X.mg x=Y)(hv:bootBuiltins x=Z u)(r:dt v u)(hn:x≠"__name__":=by decide)(hd:(x == ("__debug__":Str))=J:=by decide):PE X (.Name x pos) (tC v):=
 λ_ _ _ H _ I h=>lI I hg hm hv ⟨v,H,I,r,h⟩ hn hd
variable{a b:Expr}{ta tb:TE}{pos:Pos}
def tB(t:TE):TT:=fun σ H Q=>t σ H λx H1=>∃c,x = .bl c/\Q c H1
variable{tA tB':TT}{rest:List Expr}
def Le(t u:TT):TT:=fun σ H Q=>t σ H λc H1=>if c=M then Q M H1 else u σ H1 Q
def JE(t:TT):TT:=fun σ H Q=>t σ H λc H1=>Q (!c) H1
theorem EV(ha:PT X a tA):PW X (.BoolOp .Or [a] pos) tA:=by
 intro d ag s σ H Q I h;refine isTrue_or (eR (ha ag s σ H Q I h) λc b e=>?_);cases c with
 |false=>exact isTrue_or_nil e
 |true=>exact e
theorem HP(ha:PT X a tA)(hb:PW X (.BoolOp .Or (b::rest) pos) tB'):PW X (.BoolOp .Or (a::b::rest) pos) (Le tA tB'):=by
 intro g ag s σ H Q I h;refine isTrue_or (eR (ha ag s σ H _ I h) λc f ⟨H1,e,d⟩=>?_);cases c with
 |true=>exact⟨H1,e,d⟩
 |false=>exact hb g ag f σ H1 Q e d
theorem EZ(ha:PT X a tA):PT X (.UnaryOp .Not a pos) (JE tA):=by
 intro ag s σ H Q I h;exact isTrue_not (ha ag s σ H (λc H1=>Q (!c) H1) I h)
def HD(ta tb:TE):TE:=fun σ H Q=>ta σ H λx H1=>∃c,x = .bl c/\if c=M then tb σ H1 Q else Q (.bl J) H1
def Hv(ta:TE):TE:=fun σ H Q=>ta σ H λx H1=>∃c,x = .bl c/\Q (.bl (!c)) H1
theorem Ff{op}{t:TE}(h:PE X a t):PE X (.BoolOp op [a] pos) t:=λag s σ H Q I b=>BoolOp_one (h ag s σ H Q I b)
theorem Fk(ha:PE X a ta)(hb:PE X (.BoolOp .And (b::rest) pos) tb):PE X (.BoolOp .And (a::b::rest) pos) (HD ta tb):=by
 intro ag s σ H Q I h;refine BoolOp_and (eR (ha ag s σ H _ I h) λv f ⟨x,H1,e,g,d⟩=>?_);obtain⟨c,rfl,d⟩:=d;cases g;refine wpAny_truthy_bool ?_;cases c with
 |true=>exact hb ag f σ H1 Q e d
 |false=>exact⟨.bl J,H1,e,O,d⟩
theorem Fg(ha:PE X a ta):PE X (.UnaryOp .Not a pos) (Hv ta):=by
 intro ag s σ H Q I h;refine UnaryOp_ (eR (ha ag s σ H _ I h) λv f ⟨x,H1,e,d,b⟩=>?_);obtain⟨c,rfl,b⟩:=b;cases d;exact not_of (wpAny_truthy_bool ⟨.bl (!c),H1,e,O,b⟩)
def Lg(t:TT)(ta tb:TE):TE:=fun σ H Q=>t σ H λc H1=>if c=M then ta σ H1 Q else tb σ H1 Q
theorem yF{c:Expr}(hc:PT X c tA)(ha:PE X a ta)(hb:PE X b tb):PE X (.IfExp c a b pos) (Lg tA ta tb):=by
 intro ag s σ H Q I h;refine wpAny_IfExp (eR (hc ag s σ H _ I h) λd e ⟨H1,g,f⟩=>?_);cases d with
 |true=>exact ha ag e σ H1 Q g f
 |false=>exact hb ag e σ H1 Q g f
end
end L2
namespace L2
open PySem PySem.Spec PyProof.Rows
def lv(K:Fg1)(H:Hp)(a:cJ)(xs:List V):Prop:=
 Rd H a (.lst xs) \/
  ∃(o:Obj) (its:Array cH) (n:Nat),K.lookup a=Z o/\o.cls = .type "list"/\o.dict=Y/\o.data = .seq its n/\its.size<=cQ/\dM xs its.toList
def jt(K:Fg1)(H:Hp)(a:cJ)(xs:List V):Prop:=
 Rd H a (.tup xs) \/
  ∃(o:Obj) (its:Array cH) (n:Nat),K.lookup a=Z o/\o.cls = .type "tuple"/\o.data = .seq its n/\its.size<=cQ/\dM xs its.toList
def Kn:cH->Option V
 | .none=>Z .non
 | .bool b=>Z (.bl b)
 | .int i _=>Z (.int i)
 | .str x _=>Z (.str x)
 | .bytes b _=>Z (.byt b)
 | .float b _=>Z (.flt b)
 | .ref a=>Z (.ref a)
 | .type n=>Z (.ty n)
 |_=>Y
theorem dt.abs{x:V}{u:cH}(r:dt x u):Kn u=Z x:=by
 cases x with
 |non=>cases r;rfl
 |bl _=>cases r;rfl
 |int _=>obtain⟨t,rfl⟩:=r;rfl
 |str _=>obtain⟨t,rfl⟩:=r;rfl
 |byt _=>obtain⟨t,rfl⟩:=r;rfl
 |flt _=>obtain⟨t,rfl⟩:=r;rfl
 |ref _=>cases r;rfl
 |ty _=>cases r;rfl
theorem dt.inj{x y:V}{u:cH}(r:dt x u)(q:dt y u):x=y:=Option.some.inj (r.abs.symm.trans q.abs)
theorem dM.inj:∀{xs ys:List V} {us:List cH},dM xs us->dM ys us->xs=ys:=by
 intro xs ys us h g
 induction h generalizing ys with
 |nil=>cases g;rfl
 |cons r t ih=>cases g with
  |cons a b=>rw[r.inj a,ih b]
section
variable{X:Cx}{ag:List (cJ×Obj)}{σ:St}{H:Hp}{s:cI}{a:cJ}{xs ys:List V}
theorem lv.of{K:Fg1}(h:H a=Z (.lst xs)):lv K H a xs:=.inl (.inl h)
theorem jt.of{K:Fg1}(h:H a=Z (.tup xs)):jt K H a xs:=.inl (.inl h)
theorem Inv.list(I:Inv X ag σ H s)(h:lv X.K H a xs):∃b:List cH,dM xs b/\PlainL s.heap a b.toArray/\xs.length<=cQ:=by
 rcases h with h|⟨o,b,n,f,hc,c,d,g,r⟩
 ·obtain⟨z,b,n,r,e⟩:=h.ok I.hok;exact⟨b,r,⟨_,n,e,O,O,O⟩,z⟩
 ·refine⟨b.toList,r,⟨o,n,I.kIn a o f,hc,c,by simpa using d⟩,?_⟩;have e:=r.length;simp only[aH]at e;lia
theorem Inv.tuple(I:Inv X ag σ H s)(h:jt X.K H a xs):∃b:List cH,dM xs b/\IsTup s.heap a b.toArray/\xs.length<=cQ:=by
 rcases h with h|⟨o,b,n,d,hc,c,f,r⟩
 ·obtain⟨z,b,r,p⟩:=h.ok I.hok;exact⟨b,r,p,z⟩
 ·refine⟨b.toList,r,⟨o,I.kIn a o d,hc,n,by simpa using c⟩,?_⟩;have e:=r.length;simp only[aH]at e;lia
theorem Inv.list_inj(I:Inv X ag σ H s)(h:lv X.K H a xs)(h':lv X.K H a ys):xs=ys:=by
 obtain⟨b,r,⟨o,n,e,_,_,d⟩,_⟩:=I.list h;obtain⟨its',i,⟨o',j,f,_,_,c⟩,_⟩:=I.list h';rw[e]at f;cases f;rw[d]at c;injection c with g _;have:b=its':=by simpa using congrArg Array.toList g
 subst this;exact r.inj i
theorem Inv.tuple_inj(I:Inv X ag σ H s)(h:jt X.K H a xs)(h':jt X.K H a ys):xs=ys:=by
 obtain⟨b,r,⟨o,e,_,n,d⟩,_⟩:=I.tuple h;obtain⟨its',i,⟨o',f,_,j,c⟩,_⟩:=I.tuple h';rw[e]at f;cases f;rw[d]at c;injection c with g _;have:b=its':=by simpa using congrArg Array.toList g
 subst this;exact r.inj i
end
abbrev Cx.wish(X:Cx)(E:cH->cI->Prop):Cx:={X with xe:=E}
abbrev Cx.nox(X:Cx):Cx:=X.wish λ_ _=>False
theorem Cx.Ok.wish{X:Cx}(ok:X.Ok)(E:cH->cI->Prop):(X.wish E).Ok:=
 ⟨ok.mod,ok.kind,ok.glob,ok.blt,ok.above,ok.inj,ok.has,ok.cab,ok.hd,ok.frames,ok.stk,ok.exf,ok.bs,ok.bsz,ok.noex,ok.exfs,ok.funs,ok.frf⟩
theorem Cx.Ok.unwish{X:Cx}{E:cH->cI->Prop}(ok:(X.wish E).Ok):X.Ok:=
 ⟨ok.mod,ok.kind,ok.glob,ok.blt,ok.above,ok.inj,ok.has,ok.cab,ok.hd,ok.frames,ok.stk,ok.exf,ok.bs,ok.bsz,ok.noex,ok.exfs,ok.funs,ok.frf⟩
section
variable{X:Cx}{ag:List (cJ×Obj)}{σ:St}{H:Hp}{s:cI}{E:cH->cI->Prop}
theorem Inv.wish(I:Inv X ag σ H s)(E:cH->cI->Prop):Inv (X.wish E) ag σ H s:=⟨I.ok.wish E,I.os,I.bare,I.base,I.loc,I.cell,I.free,I.freeC,I.pin,I.hok,I.len⟩
theorem Inv.unwish(I:Inv (X.wish E) ag σ H s):Inv X ag σ H s:=⟨I.ok.unwish,I.os,I.bare,I.base,I.loc,I.cell,I.free,I.freeC,I.pin,I.hok,I.len⟩
theorem SP.unwish{D:js}{f:Flow}{s':cI}(h:SP (X.wish E) ag D f s'):SP X ag D f s':=by
 cases f with
 |next=>obtain⟨a,H',I,q⟩:=h;exact⟨a,H',I.unwish,q⟩
 |brk=>obtain⟨a,H',I,q⟩:=h;exact⟨a,H',I.unwish,q⟩
 |cont=>obtain⟨a,H',I,q⟩:=h;exact⟨a,H',I.unwish,q⟩
 |ret u=>obtain⟨v,a,H',I,r,q⟩:=h;exact⟨v,a,H',I.unwish,r,q⟩
theorem s9.nox{st:List cV}{t:TS}(h:s9 X.nox st t):s9 X st t:=λag s σ H D I a=>
 wpAny_mono (h ag s σ H D (I.wish _) a) (λ_ _ q=>q.unwish) λ_ _ z=>False.elim z
end
section
variable{X:Cx}{st:cV}{rest:List cV}{t u:TS}{e:Expr}{te:TE}{pos:Pos}
def Hw:TS:=λD σ H=>D.nx σ H
def JB(t u:TS):TS:=λD σ H=>t {D with nx:=u D} σ H
theorem Bz:s9 X [] Hw:=λ_ _ σ H _ I h=>wpAny_execs_nil ⟨σ,H,I,h⟩
theorem yu(h1:PS X st t)(h2:s9 X rest u):s9 X (st::rest) (JB t u):=by
 intro ag s σ H D I h;refine wpAny_execs_cons (eR (h1 ag s σ H {D with nx:=u D} I h) λf c q=>?_);cases f with
 |next=>
  obtain⟨a,H',b,q⟩:=q;exact h2 ag c a H' D b q
 |ret v=>exact q
 |brk=>exact q
 |cont=>exact q
theorem By(h1:PS X st t):s9 X [st] t:=by
 intro ag s σ H D I h;refine wpAny_execs_cons (eR (h1 ag s σ H D I h) λf a q=>?_);cases f with
 |next=>exact wpAny_execs_nil q
 |ret v=>exact q
 |brk=>exact q
 |cont=>exact q
theorem Inv.quiet{ag:List (cJ×Obj)}{σ:St}{H:Hp}{s:cI}(I:Inv X ag σ H s):interactive X.env=J:=by simp[interactive,I.ok.kind]
def Hz(te:TE):TS:=λD σ H=>te σ H λ_ H1=>D.nx σ H1
theorem BA(he:PE X e te)(hs:swapsWith e Y pos.line X.env=pure J:=by rfl):PS X (.Expr e pos) (Hz te):=by
 intro ag s σ H D I h;exact wpAny_Expr_any (eR (he ag s σ H _ I h) λv c ⟨x,H1,b,d,a⟩=>⟨σ,H1,b,a⟩) I.quiet hs
def JC(te:TE):TS:=λD σ H=>te σ H D.rt
theorem E2(he:PE X e te):PS X (.Return (Z e) pos) (JC te):=by
 intro ag s σ H D I h;exact wpAny_Return_some (eR (he ag s σ H _ I h) λv d ⟨x,H1,c,a,b⟩=>⟨x,σ,H1,c,a,b⟩)
def JJ(c:TT)(t u:TS):TS:=λD σ H=>c σ H λb H1=>if b=M then t D σ H1 else u D σ H1
theorem HR{c:Expr}{a b:List cV}{tc:TT}(hc:PT X c tc)(ha:s9 X a t)(hb:s9 X b u):PS X (.If c a b pos) (JJ tc t u):=by
 intro ag s σ H D I h;refine wpAny_If (eR (hc ag s σ H _ I h) λd e ⟨H1,g,f⟩=>?_);cases d with
 |true=>exact ha ag e σ H1 D g f
 |false=>exact hb ag e σ H1 D g f
end
abbrev TG:=V->St->Hp->(St->Hp->Prop)->Prop
abbrev D3:=List V->St->Hp->(St->Hp->Prop)->Prop
def PG(X:Cx)(target:Expr)(t:TG):Prop:=
 ∀(ag:List (cJ×Obj)) (s:cI) (σ:St) (H:Hp) (v:V) (u:cH) (Q:St->Hp->Prop),Inv X ag σ H s->dt v u->t v σ H Q ->
  cR (model X.prog X.w) X.A (assign target X.env u) (λ_ s'=>∃ σ' H',Inv X ag σ' H' s'/\Q σ' H') X.xe s
def G9(X:Cx)(ts:List Expr)(t:D3):Prop:=
 ∀(ag:List (cJ×Obj)) (s:cI) (σ:St) (H:Hp) (vs:List V) (us:List cH) (Q:St->Hp->Prop),Inv X ag σ H s->dM vs us->t vs σ H Q ->
  cR (model X.prog X.w) X.A (assignInOrder ((assignEach ts X.env).map (·.2)) us) (λ_ s'=>∃ σ' H',Inv X ag σ' H' s'/\Q σ' H') X.xe s
abbrev G6:=V->V->V->Hp->(Hp->Prop)->Prop
def uJ(X:Cx)(t:G6):Prop:=
 ∀(ag:List (cJ×Obj)) (s:cI) (σ:St) (H:Hp) (o i v:V) (ov iv u:cH) (Q:Hp->Prop),Inv X ag σ H s->dt o ov->dt i iv->dt v u->t o i v H Q ->
  cR (model X.prog X.w) X.A (setItem ov iv u) (λ_ s'=>∃H',Inv X ag σ H' s'/\Q H') X.xe s
abbrev Kq:=V->V->Hp->VK->Prop
def Jv(X:Cx)(op:Operator)(t:Kq):Prop:=
 ∀(ag:List (cJ×Obj)) (s:cI) (σ:St) (H:Hp) (x y:V) (v u:cH) (Q:VK),Inv X ag σ H s->dt x v->dt y u->t x y H Q ->
  cR (model X.prog X.w) X.A (inplaceOp op v u) (EP X ag σ Q) X.xe s
section
variable{X:Cx}{pos:Pos}
def vH(i:Nat):TG:=λv σ H Q=>Q (σ.set i (Z v)) H
theorem u7{i:Nat}{x:Str}(hN:X.N.Nodup)(hi:X.N[i]?=Z x)(hx:uK X.env.scope x)(hf:X.fn x=M\/X.env.scope.names.lookup x=Z .local:=by first|exact .inl rfl|exact .inr rfl|assumption):PG X (.Name x pos) (vH i):=by
 intro ag s σ H v u Q I r h;exact wpAny_assign_Name (jx I hN hi hx r (λs' a=>⟨_,H,a,h⟩) hf)
def Kg:D3:=λvs σ H Q=>vs=[]/\Q σ H
def IK(t:TG)(u:D3):D3:=λvs σ H Q=>∃v r,vs=v::r/\t v σ H fun σ' H'=>u r σ' H' Q
theorem BH:G9 X [] Kg:=by
 intro ag s σ H vs a Q I r h;obtain⟨e,h⟩:=h;subst e;cases r;exact assignInOrder_nil ⟨σ,H,I,h⟩
theorem yD{e:Expr}{es:List Expr}{t:TG}{u:D3}(h1:PG X e t)(h2:G9 X es u)(hs:(assignEach (e::es) X.env).map (·.2)=assign e X.env::(assignEach es X.env).map (·.2):=by rfl):G9 X (e::es) (IK t u):=by
 intro ag s σ H vs j Q I r h;obtain⟨v,i,c,h⟩:=h;subst c;cases r with
 |cons r g=>
  rw[hs];refine assignInOrder_cons (eR (h1 ag s σ H _ _ _ I r h) λ_ f ⟨a,H1,b,d⟩=>?_);exact h2 ag f a H1 _ _ Q b g d
def gTup(K:Fg1)(n:Nat)(t:D3):TG:=λv σ H Q=>∃a xs,v = .ref a/\jt K H a xs/\xs.length=n/\t xs σ H Q
theorem E9{es:List Expr}{k:Nat}{t:D3}{n:Nat}(hc:X.calm=M)(h:G9 X es t)(hn:(assignEach es X.env).length=n:=by rfl)(hst:(assignEach es X.env).findIdx? (·.1)=Y:=by rfl):PG X (.Tuple es k pos) (gTup X.K n t):=by
 intro ag s σ H v u Q I r c;obtain⟨a,xs,i,f,p,c⟩:=c;subst i;cases r;obtain⟨j,d,m,q⟩:=I.tuple f;refine assign_Tuple_tuple (I.ok.hd hc) m (by simp[hn,<- p,d.length]) hst λh' l=>?_;have g:Inv X ag σ H {s with heap:=h'}:=I.kept (t':=s.toks) λb o e=>l b o (nN1 (hL1 e)) e;exact h ag _ σ H xs _ Q g (by simpa using d) c
def gSub(to ti:TE)(t:G6):TG:=λv σ H Q=>to σ H λo H1=>ti σ H1 λi H2=>t o i v H2 λH3=>Q σ H3
theorem Fa{o i:Expr}{to c:TE}{t:G6}(ho:PE X o to)(hi:PE X i c)(hs:uJ X t)(ha:∀v,assign (.Subscript o i pos) X.env v=(do
   let a<-holding [v] (eval o X.env)
   let b<-holding [v,a] (eval i X.env)
   standAt pos
   holding [v,a,b] (setItem a b v)
   release [v,a,b] []):=by intro _;rfl):PG X (.Subscript o i pos) (gSub to c t):=by
 intro ag s σ H v u Q I r h;rw[ha];refine wB1 (wpAny_holding (eR (ho ag s σ H _ I h) λa p ⟨x,H1,f,e,n⟩=>?_));refine wB1 (wpAny_holding (eR (hi ag p σ H1 _ f n) λb m ⟨y,H2,g,r2,j⟩=>?_));refine wB1 (wpAny_standAt (wB1 (wpAny_holding (eR (hs ag m σ H2 x y v a b u _ g e r2 r j) λ_ q ⟨d,k,l⟩=>?_))));exact wpAny_release ⟨σ,d,k,l⟩
def xX(te:TE)(g:TG):TS:=λD σ H=>te σ H λx H1=>g x σ H1 D.nx
theorem E6{tg e:Expr}{te:TE}{g:TG}(he:PE X e te)(hg:PG X tg g)(hs:swapsWithSole [tg] e pos.line X.env=pure J:=by rfl)(hw:swappedStores [tg] e X.env=pure Y:=by rfl)(h1:(assignEach [tg] X.env).map (·.2)=[assign tg X.env]:=by rfl):PS X (.Assign [tg] e pos) (xX te g):=by
 intro ag s σ H D I h;refine wpAny_Assign_stores (eR (he ag s σ H _ I h) λv d ⟨x,H1,b,a,c⟩=>?_) hs hw;rw[h1];exact eR (hg ag d σ H1 x v _ b a c) λ_ f q=>q
theorem E1{i:Nat}{x:Str}{e:Expr}{te:TE}{pos':Pos}(hN:X.N.Nodup)(hi:X.N[i]? = some x)(hx:uK X.env.scope x)(he:PE X e te)(hs:swapsWith e (some (.Name x pos')) pos.line X.env=pure false:=by rfl)(hf:X.fn x=true\/X.env.scope.names.lookup x=some .local:=by first | exact .inl rfl | exact .inr rfl | assumption):
  PS X (.Assign [.Name x pos'] e pos) (xX te (vH i)):=by
 intro ag s σ H D I h;refine wpAny_Assign_Name (eR (he ag s σ H _ I h) λv g ⟨y,H1,b,a,d⟩=>?_) hs;exact jx b hN hi hx a (λf c=>⟨_,H1,c,d⟩) hf
def JD(i j:Nat)(ta:TA):TS:=λD σ H=>ta σ H λvs H1=>∃v w,vs=[v,w]/\D.nx ((σ.set i (Z v)).set j (Z w)) H1
theorem E3{i j:Nat}{x y:Str}{a b:Expr}{ta:TA}{k f pt:Pos}{kt k2 pt2}(hc:X.calm=true)(hN:X.N.Nodup)(hi:X.N[i]? = some x)(t:X.N[j]? = some y)(n:i≠j)(hx:X.env.scope.names.lookup x=some .local)(hy:X.env.scope.names.lookup y=some .local)(ha:PA X [a,b] ta)(hw:swappedStores [.Tuple [.Name x k,.Name y f] kt pt] (.Tuple [a,b] k2 pt2) X.env=pure (some [x,y]))(hs:swapsWithSole [.Tuple [.Name x k,.Name y f] kt pt] (.Tuple [a,b] k2 pt2) pos.line X.env=pure false:=by rfl):
  PS X (.Assign [.Tuple [.Name x k,.Name y f] kt pt] (.Tuple [a,b] k2 pt2) pos) (JD i j ta):=by
 intro ag s σ H D I h;rw[exec_Assign_arm];refine wB1 (wpAny_standAt ?_);rw[hs];refine wB1 (wP1 ?_);rw[aj (by decide)];refine wB1 (Tuple_ (eR (ha _ ag s σ H _ I h) λB d ⟨vs,H1,G,K,m⟩=>?_));obtain⟨v,w,E,m⟩:=m;subst E;obtain⟨c,u2,rfl,A,l⟩:∃c u2,B=[c,u2]/\dt v c/\dt w u2:=by
  cases K with
  |cons p q=>
   cases q with
   |cons F z=>
    cases z;exact⟨_,_,O,p,F⟩
 refine wO1 ?_ (by show 2<=cQ;decide);have C:Inv X ag σ H1 {d with heap:=d.heap.push {cls:=.type "tuple",data:=.seq [c,u2].toArray}}:=G.kept (t':=d.toks) λb o e=>hP1 _ e;rw[hw];refine wB1 (wP1 ?_);show cR (model X.prog X.w) X.A (do rule "assign.swapped-stores";let items<-unpackItems (.ref d.heap.objs.size) 2 Y;assignInOrder [λv=>bindName X.env y v,λv=>bindName X.env x v] items.reverse;pure Flow.next) _ _ _;refine wB1 (wpAny_rule (wB1 (unpackItems_tuple (items:= #[c,u2]) (I.ok.hd hc) (IsTup.new d.heap _) λh' g=>?_)));have u:=C.kept (h':=h') (t':=d.toks) λb o e=>g b o (nN1 (hL1 e)) e;show cR _ _ (assignInOrder [λv=>bindName X.env y v,λv=>bindName X.env x v] [u2,c] >>= λ_=>pure Flow.next) _ _ _;refine wB1 (assignInOrder_cons (wpAny_bindName (jx u hN t (.inl hy) l (λao am=>?_) (.inr hy))));refine assignInOrder_cons (wpAny_bindName (jx am hN hi (.inl hx) A (λL r=>assignInOrder_nil (wP1 ?_)) (.inr hx)));rw[List.set_comm _ _ (Ne.symm n)]at r;exact⟨_,H1,r,m⟩
def JK(i:Nat)(te:TE)(ti:Kq):TS:=λD σ H=>∃x,σ[i]?=Z (Z x)/\te σ H λy H1=>ti x y H1 λz H2=>D.nx (σ.set i (Z z)) H2
theorem E5{i:Nat}{x:Str}{e:Expr}{te:TE}{op:Operator}{j:Kq}{pos':Pos}(hN:X.N.Nodup)(hi:X.N[i]? = some x)(hx:uK X.env.scope x)(he:PE X e te)(ho:Jv X op j)(hf:X.fn x=true\/X.env.scope.names.lookup x=some .local:=by first | exact .inl rfl | exact .inr rfl | assumption):
  PS X (.AugAssign (.Name x pos') op e pos) (JK i te j):=by
 intro ag s σ H D I h;obtain⟨v,t,h⟩:=h;obtain⟨m,p,A⟩:=I.loc;have g:Vis X.env.scope x:=by rcases hx with k|k;exact .inl k;exact .inr (.inl k)
 obtain⟨u,r,l⟩:=A i x v hi t g;refine wpAny_AugAssign_Name ?_;have n:cR (model X.prog X.w) X.A (eval e X.env) (λw d=>cR (model X.prog X.w) X.A (inplaceOp op u w) (λr f=>cR (model X.prog X.w) X.A (storeName X.env x r) (λ_=>SP X ag D .next) X.xe f) X.xe d) X.xe s:=by
  refine eR (he ag s σ H _ I h) λw am ⟨y,H1,C,F,E⟩=>?_;refine eR (ho ag am σ H1 v y u w _ C r F E) λz ao ⟨L,H2,q,r2,G⟩=>?_;exact jx q hN hi hx r2 (λK o=>⟨_,H2,o,G⟩) hf
 rcases l with⟨a,B⟩|⟨a,c,hc,b⟩
 ·exact wpAny_loadName_local I.ok.kind a p B n
 ·rcases a with a|a
  ·exact wpAny_loadName_cell I.ok.kind a hc b n
  ·rcases hx with k|k
   ·have:X.env.scope.names.lookup x=Z .free:=a;rw[k]at this;cases this
   ·have:X.env.scope.names.lookup x=Z .free:=a;rw[k]at this;cases this
def xS(c:TT)(tb:TS):TS:=λD σ H=>∃W:Nat->St->Hp->Prop,(∃m,W m σ H) /\ ∀m σ H,W m σ H ->
 c σ H λb H1=>if b=M then∃N:St->Hp->Prop,(∀ σ' H',N σ' H' -> ∃m',m'<m/\W m' σ' H')/\tb {D with nx:=N,ct:=N,bk:=D.nx} σ H1 else D.nx σ H1
theorem yv{c:Expr}{e:List cV}{tc:TT}{tb:TS}(hp:PassesOwn (model X.prog X.w) X.A X.env X.xe)(hc:PT X c tc)(hb:s9 X e tb):PS X (.While c e [] pos) (xS tc tb):=by
 intro ag s σ H D I h;obtain⟨W,⟨w,y⟩,i⟩:=h;refine wpAny_While (codeAny_whileLoop (λn s'=>∃j H',Inv X ag j H' s'/\W n j H') ?_ w ⟨σ,H,I,y⟩);rintro n A ⟨d,H1,x,B⟩;refine wpAny_passesOwn hp (eR (hc ag A d H1 _ x (i n d H1 B)) λb z ⟨H2,u,l⟩=>?_);cases b with
 |true=>
  obtain⟨N,t,l⟩:=l;rw[ak O];refine wpAny_passesOwn hp (eR (hb ag z d H2 _ u l) λf C k=>?_);cases f with
  |next=>
   obtain⟨a,g,m,o⟩:=k;obtain⟨q,p,r⟩:=t a g o;exact⟨q,p,a,g,m,r⟩
  |cont=>
   obtain⟨a,g,m,o⟩:=k;obtain⟨q,p,r⟩:=t a g o;exact⟨q,p,a,g,m,r⟩
  |brk=>exact k
  |ret v=>exact k
 |false=>
  rw[aj aI];exact wpAny_execs_nil ⟨d,H2,u,l⟩
end
structure It where
 go:Nat->Hp->Prop
 yld:Nat->Hp->V->Hp->Prop
 stop:Nat->Hp->Prop
def kK(X:Cx)(ag:List (cJ×Obj))(H:Hp)(b:cJ):Prop:=
 H b=Y/\b≠X.env.locals/\b∉X.fs/\(b∈X.ex\/X.s₀.heap.objs.size<=b)/\(∀x c,X.env.cells.lookup x=Z c->c≠b) /\ ∀p∈X.pn++ag,p.1≠b
theorem Inv.fpOk{X:Cx}{ag:List (cJ×Obj)}{σ:St}{H H':Hp}{s:cI}{b:cJ}(I:Inv X ag σ H s)(hb:s.heap.objs.size<=b)(hn:H' b=Y):kK X ag H' b:=by
 refine⟨hn,nG1 (nL1 I.lt hb),I.nofs hb,.inr (aB I.sz hb),λx c e z=>?_,λp a z=>?_⟩
 ·obtain⟨v,q⟩:=I.cell x c e;exact absurd (nL1 q.lt (by rw[z];exact hb)) (ay _)
 ·exact absurd (nL1 (hL1 (I.pin p a).1) (by rw[z];exact hb)) (ay _)
structure xc (P:cK)(w:cN)(K:Fg1)(tg:Expr)(am:It)(fp:List cJ)(it:cJ)(tn:Nat->cT->Prop):Prop where
 mem:it∈fp
 obj:∀i h,tn i h -> ∀b∈fp,∃o,h.get? b=some o /\ ∀v,o.data ≠ .cell v
 keep:∀i h h',tn i h->(∀b∈fp,∀o,h.get? b=some o->h'.get? b=some o)->tn i h'
 item:∀(X:Cx),X.prog=P->X.w=w->X.K=K->X.calm=true -> ∀(i:Nat) (ag:List (cJ×Obj)) (s:cI) (σ:St) (H:Hp) (E:cH->cI->Prop),Inv X ag σ H s->(∀b∈fp,kK X ag H b)->tn i s.heap->am.go i H ->
  cR (model P w) X.A (pyNext (.ref it)) (λr s1=>∃u,r=some u /\
   cR (model P w) X.A (letOwnedTupleGo tg (.ref it) u) (λ_ s2=>∃x H',Inv X ag σ H' s2/\dt x u/\am.yld i H x H'/\tn (i+1) s2.heap /\ ∀b∈fp,H' b=none) E s1) E s
 done:∀(X:Cx),X.prog=P->X.w=w->X.K=K->X.calm=true -> ∀(i:Nat) (ag:List (cJ×Obj)) (s:cI) (σ:St) (H:Hp) (E:cH->cI->Prop),Inv X ag σ H s->(∀b∈fp,kK X ag H b)->tn i s.heap->am.stop i H ->
  cR (model P w) X.A (pyNext (.ref it)) (λr s1=>r=none/\Inv X ag σ H s1) E s
 self:∀(A:cM) (i:Nat) (s:cI) (Q:cH->cI->Prop) (E:cH->cI->Prop),tn i s.heap->Q (.ref it) s->cR (model P w) A (pyIter (.ref it)) Q E s
abbrev TI:=St->Hp->(It->Hp->Prop)->Prop
def K5(X:Cx)(ag:List (cJ×Obj))(σ:St)(tg:Expr)(R:It->Hp->Prop)(itv:cH)(s2:cI):Prop:=
 ∃(it:cJ) (fp:List cJ) (tn:Nat->cT->Prop) (am:It) (H':Hp),itv = .ref it/\Inv X ag σ H' s2/\xc X.prog X.w X.K tg am fp it tn/\tn 0 s2.heap/\(∀b∈fp,kK X ag H' b)/\R am H'
def PI(X:Cx)(tg iter:Expr)(wi:TI):Prop:=
 ∀(ag:List (cJ×Obj)) (s:cI) (σ:St) (H:Hp) (R:It->Hp->Prop),Inv X ag σ H s->wi σ H R ->
  cR (model X.prog X.w) X.A (eval iter X.env) (λv s1=>cR (model X.prog X.w) X.A (pyIter v) (K5 X ag σ tg R) X.xe s1) X.xe s
theorem zG {ao:Model}{A:cM}{E:cH->cI->Prop}{s:cI}{tg:Expr}{it:cJ}{u:cH}{o:Obj}{n:String}{vs:Array cH}{Q:Unit->cI->Prop}(ho:s.heap.get? it=some o)(hc:o.cls = .type n)(hd:o.data = .fields vs)
   (hn:["enumerate","zip","dict_itemiterator","dict_reverseitemiterator","odict_iterator","itertools.zip_longest","itertools.pairwise"].contains n=J) (a:Q () s):cR ao A (letOwnedTupleGo tg (.ref it) u) Q E s:=by
 unfold letOwnedTupleGo;cases tg <;> first
   |exact wP1 a
   | (cases u<;>first
       |exact wP1 a
       | (refine wB1 (wpAny_load ho ?_)
          rw[hc,hd];show cR ao A (if(["enumerate","zip","dict_itemiterator","dict_reverseitemiterator","odict_iterator","itertools.zip_longest","itertools.pairwise"].contains n&&vs[0]? == Z (rawInt _))=M then _ else _) Q E s;rw[aj (by intro h;rw[hn,Bool.false_and]at h;cases h)];exact wP1 a))
def K8(K:Fg1)(a:cJ):It:=
 ⟨λi H=>∃xs x,lv K H a xs/\xs[i]?=Z x,λi H x H'=>H'=H /\ ∀xs,lv K H a xs->xs[i]?=Z x,λi H=>∃xs,lv K H a xs/\xs.length<=i⟩
def K7(K:Fg1)(a:cJ):It:=
 ⟨λi H=>∃xs x,jt K H a xs/\xs[i]?=Z x,λi H x H'=>H'=H /\ ∀xs,jt K H a xs->xs[i]?=Z x,λi H=>∃xs,jt K H a xs/\xs.length<=i⟩
def Jc(lo:Int)(n:Nat):It:=⟨λi _=>i<n,λi H x H'=>H'=H/\x = .int (lo+i),λi _=>n<=i⟩
theorem wf{P:cK}{w:cN}{K:Fg1}{tg:Expr}(a it:cJ):xc P w K tg (K8 K a) [it] it (λi h=>h.IsListIter it a i) where
 mem:=by simp
 obj:=λi h st b f=>by
  have e:b=it:=by simpa using f
  subst e;obtain⟨o,e,c,d⟩:=st;exact⟨o,e,λv z=>by rw[d]at z;cases z⟩
 keep:=λi h h' st k=>st.at λo e=>k it (by simp) o e
 item:=by
  intro X C t D hc i ag s σ H E I j st r;subst C t D;obtain⟨xs,x,l,A⟩:=r;obtain⟨q,n,p,Q⟩:=I.list l;obtain⟨u,am,S⟩:=n.get A;obtain⟨m,B,N,y,F,G⟩:=j it (by simp);refine wpAny_pyNext_list_item st p.isList (x:=u) (by simpa using am) λh' g R=>?_;have ao:Inv X ag σ H {s with heap:=h'}:=I.turned (t':=s.toks) (λb o f e=>(R.2 b f).trans e) m B y F G;obtain⟨o,e,c,d⟩:=id g;exact⟨u,O,zG (s:={s with heap:=h'}) e c d (by decide) ⟨x,H,ao,S,⟨O,λys ar=>by rw[I.list_inj ar l];exact A⟩,g,λb f=>(j b f).1⟩⟩
 done:=by
  intro X C t D hc i ag s σ H E I j st r;subst C t D;obtain⟨xs,l,A⟩:=r;obtain⟨q,n,p,Q⟩:=I.list l;obtain⟨m,B,N,y,F,G⟩:=j it (by simp);have T:=n.length;exact wpAny_pyNext_list_end (I.ok.hd hc) st p.isList (by simp;lia) λh' L=>⟨O,I.turned (t':=s.toks) (λb o f e=>L b o f e) m B y F G⟩
 self:=λ_ _ _ _ _ st h=>wpAny_pyIter_listiter st h
theorem tH{P:cK}{w:cN}{K:Fg1}{tg:Expr}(a it:cJ):xc P w K tg (K7 K a) [it] it (λi h=>h.IsTupleIter it a i) where
 mem:=by simp
 obj:=λi h st b g=>by
  have e:b=it:=by simpa using g
  subst e;obtain⟨o,e,c,d⟩:=st;exact⟨o,e,λv z=>by rw[d]at z;cases z⟩
 keep:=λi h h' st k=>st.at λo e=>k it (by simp) o e
 item:=by
  intro X C t D hc i ag s σ H E I l st r;subst C t D;obtain⟨xs,x,m,A⟩:=r;obtain⟨f,q,p,Q⟩:=I.tuple m;obtain⟨u,am,S⟩:=q.get A;obtain⟨n,B,N,y,F,G⟩:=l it (by simp);refine wpAny_pyNext_tuple_item st (show s.heap.IsTuple a f.toArray from p) (x:=u) (by simpa using am) λh' j R=>?_;have ao:Inv X ag σ H {s with heap:=h'}:=I.turned (t':=s.toks) (λb o g e=>(R.2 b g).trans e) n B y F G;obtain⟨o,e,c,d⟩:=id j;exact⟨u,O,zG (s:={s with heap:=h'}) e c d (by decide) ⟨x,H,ao,S,⟨O,λys ar=>by rw[I.tuple_inj ar m];exact A⟩,j,λb g=>(l b g).1⟩⟩
 done:=by
  intro X C t D hc i ag s σ H E I l st r;subst C t D;obtain⟨xs,m,A⟩:=r;obtain⟨f,q,p,Q⟩:=I.tuple m;obtain⟨n,B,N,y,F,G⟩:=l it (by simp);have T:=q.length;exact wpAny_pyNext_tuple_end (I.ok.hd hc) st (show s.heap.IsTuple a f.toArray from p) (by simp;lia) λh' L=>⟨O,I.turned (t':=s.toks) (λb o g e=>L b o g e) n B y F G⟩
 self:=λ_ _ _ _ _ st h=>wpAny_pyIter_tupleiter st h
theorem tI{P:cK}{w:cN}{K:Fg1}{tg:Expr}(it:cJ)(lo:Int)(n:Nat):xc P w K tg (Jc lo n) [it] it (λi h=>IsRangeIter h it (lo+(i:Nat)*1) ((n:Int)-(i:Nat)) 1) where
 mem:=by simp
 obj:=λi h st b a=>by
  have e:b=it:=by simpa using a
  subst e;exact⟨_,st,λv z=>by
   have A:Data.fields _=Data.cell v:=z;cases A⟩
 keep:=λi h h' st k=>k it (by simp) _ st
 item:=by
  intro X u g f hc i ag s σ H E I d st q;subst u g f;obtain⟨j,r,D,l,m,p⟩:=d it (by simp);have W:=Walks.range (prog:=X.prog) (w:=X.w) (I.ok.hd hc) it lo 1 n;refine W.item i s _ _ q st λv h' tk x c C=>?_;obtain⟨t,rfl⟩:=x;have y:Inv X ag σ H {s with heap:=h',toks:=tk}:=I.turned (λb o a e=>C b o (by simpa using a) e) j r l m p;refine⟨_,O,zG (s:={s with heap:=h',toks:=tk}) (n:="range_iterator") c O O (by decide) ⟨.int (lo+i),H,y,⟨t,?_⟩,⟨O,O⟩,c,λb a=>(d b a).1⟩⟩;rw[Int.mul_one]
 done:=by
  intro X u g f hc i ag s σ H E I d st q;subst u g f;obtain⟨j,r,D,l,m,p⟩:=d it (by simp);exact wpAny_pyNext_range_end (I.ok.hd hc) st (by have:n<=i:=q;lia) λh' B=>⟨O,I.turned (t':=s.toks) (λb o a e=>B b o a e) j r l m p⟩
 self:=λ_ _ _ _ _ st h=>wpAny_pyIter_rangeiter st h
end L2
namespace L2
open PySem PySem.Spec PyProof.Rows
section
variable{X:Cx}{tg:Expr}
def IH(K:Fg1)(tl:TE):TI:=fun σ H R=>tl σ H λx H1=>∃a,x = .ref a/\(∃xs,lv K H1 a xs)/\R (K8 K a) H1
def Ke(K:Fg1)(tl:TE):TI:=fun σ H R=>tl σ H λx H1=>∃a,x = .ref a/\(∃xs,jt K H1 a xs)/\R (K7 K a) H1
theorem BF{l:Expr}{tl:TE}(m:PE X l tl):PI X tg l (IH X.K tl):=by
 intro ag s σ H R I h;refine eR (m ag s σ H _ I h) λv d ⟨x,H1,c,g,k⟩=>?_;obtain⟨a,e,⟨xs,f⟩,q⟩:=k;subst e;cases g;obtain⟨j,n,p,r⟩:=c.list f;refine wpAny_pyIter_list p.isList ?_;refine⟨d.heap.objs.size,[d.heap.objs.size],_,_,H1,O,c.kept (t':=d.toks) λb o e=>hP1 _ e,wf a _,⟨_,hS1 _ O,O,O⟩,λb i=>?_,q⟩;have e:b=d.heap.objs.size:=by simpa using i
 subst e;exact c.fpOk (nR1 _) (c.hok.fresh (nR1 _))
theorem E8{l:Expr}{tl:TE}(m:PE X l tl):PI X tg l (Ke X.K tl):=by
 intro ag s σ H R I h;refine eR (m ag s σ H _ I h) λv c ⟨x,H1,d,i,k⟩=>?_;obtain⟨a,e,⟨xs,g⟩,q⟩:=k;subst e;cases i;obtain⟨f,n,p,r⟩:=d.tuple g;refine wpAny_pyIter_tuple (show c.heap.IsTuple a f.toArray from p) ?_;refine⟨c.heap.objs.size,[c.heap.objs.size],_,_,H1,O,d.kept (t':=c.toks) λb o e=>hP1 _ e,tH a _,⟨_,hS1 _ O,O,O⟩,λb j=>?_,q⟩;have e:b=c.heap.objs.size:=by simpa using j
 subst e;exact d.fpOk (nR1 _) (d.hok.fresh (nR1 _))
theorem rp{ag:List (cJ×Obj)}{σ:St}{H:Hp}{s:cI}{R:It->Hp->Prop}{E:cH->cI->Prop}{lo hi:Int}{t u v:Tok}{tk:Nat}(I:Inv X ag σ H s)(h1: -(2^62)<=lo)(h2:lo<2^62)(h: -(2^62)<=hi)(g:hi<2^62)(q:R (Jc lo (hi-lo).toNat) H):cR (model X.prog X.w) X.A (pyIter (.ref s.heap.objs.size)) (K5 X ag σ tg R) E {s with heap:=s.heap.push {cls:=.type "range",data:=.fields #[.int lo t,.int hi u,.int 1 v]},toks:=tk}:=by
 refine wpAny_pyIter_range (IsRange.new ..) (small_one h1 h2 h g) ?_;have a:Inv X ag σ H {s with heap:=s.heap.push {cls:=.type "range",data:=.fields #[.int lo t,.int hi u,.int 1 v]},toks:=tk}:=I.kept λb o e=>hP1 _ e;refine⟨(s.heap.push {cls:=.type "range",data:=.fields #[.int lo t,.int hi u,.int 1 v]}).objs.size,[(s.heap.push {cls:=.type "range",data:=.fields #[.int lo t,.int hi u,.int 1 v]}).objs.size],_,_,H,O,
  a.kept (t':=tk) λb o e=>hP1 _ e,tI _ lo (hi-lo).toNat,?_,λb d=>?_,q⟩
 ·have c:lo+((0:Nat):Int)*1=lo:=by simp
  have f:(((hi-lo).toNat:Nat):Int)-((0:Nat):Int)=Builtin.Range.rangeSize lo hi 1:=by rw[rangeSize_one];split<;>lia
  show IsRangeIter _ _ (lo+((0:Nat):Int)*1) ((((hi-lo).toNat:Nat):Int)-((0:Nat):Int)) 1;rw[c,f];exact hS1 _ O
 ·have e:b=(s.heap.push {cls:=.type "range",data:=.fields #[.int lo t,.int hi u,.int 1 v]}).objs.size:=by simpa using d
  subst e;exact a.fpOk (nR1 _) (a.hok.fresh (nR1 _))
def IF(ta:TA):TI:=fun σ H R=>ta σ H λvs H1=>∃j:Int,vs=[.int j] /\ -(2^62)<=j/\j<2^62/\R (Jc 0 j.toNat) H1
def IE(ta:TA):TI:=fun σ H R=>ta σ H λvs H1=>∃i j:Int,vs=[.int i,.int j]/\(-(2^62)<=i/\i<2^62 /\ -(2^62)<=j/\j<2^62)/\R (Jc i (j-i).toNat) H1
theorem wu {a:Expr}{ta:TA}{p pos:Pos}(hg:Gl X "range")(hm:X.mg "range"=Y)(ha:PA X [a] ta)(hs:cP [a] X.env=[(J,eval a X.env)]:=by rfl):PI X tg (.Call (.Name "range" p) [a] [] pos) (IF ta):=by
 intro ag s σ H R I h;refine Call_ (lI I hg hm boot_range (PyProof.Rows.callWith_type1 (eR (ha pos ag s σ H _ I h) λi k ⟨vs,H1,d,c,b⟩=>?_) hs O));obtain⟨j,e,b,f,q⟩:=b;subst e;cases c with
 |cons r g=>
  cases g;obtain⟨t,rfl⟩:=r;exact call_range_1 (rp d (by lia) (by lia) b f (by simpa using q))
theorem wt {a b:Expr}{ta:TA}{p pos:Pos}(hg:Gl X "range")(hm:X.mg "range"=none)(ha:PA X [a,b] ta)(hs:cP [a,b] X.env=[(false,eval a X.env),(false,eval b X.env)]:=by rfl)(hs2:cP [b] X.env=[(false,eval b X.env)]:=by rfl):
  PI X tg (.Call (.Name "range" p) [a,b] [] pos) (IE ta):=by
 intro ag s σ H R I h;refine Call_ (lI I hg hm boot_range (PyProof.Rows.callWith_type1 (eR (ha pos ag s σ H _ I h) λu v ⟨vs,H1,k,g,c⟩=>?_) (by rw[hs,hs2]) (by rw[hs2];rfl)));obtain⟨i,j,e,⟨c,l,n,f⟩,q⟩:=c;subst e;cases g with
 |cons r d=>
  cases d with
  |cons m d=>
   cases d;obtain⟨t,rfl⟩:=r;obtain⟨o,rfl⟩:=m;exact call_range_2 (rp k c l n f q)
def Hy(wi:TI)(g:TG)(tb:TS):TS:=λD σ H=>wi σ H λam H1=>∃W:Nat->Nat->St->Hp->Prop,(∃m,W 0 m σ H1) /\ ∀i m σ H,W i m σ H ->
 (am.stop i H/\D.nx σ H)\/(am.go i H /\ ∃N:St->Hp->Prop,(∀ σ' H',N σ' H' -> ∃m',m'<m/\W (i+1) m' σ' H') /\ ∀x H',am.yld i H x H'->g x σ H' fun σ2 H2=>tb {D with nx:=N,ct:=N,bk:=D.nx} σ2 H2)
def nv(fp:List cJ)(h:cT):List (cJ×Obj):=fp.filterMap λb=>(h.get? b).map λo=>(b,o)
theorem i1{a:List cJ}{h:cT}{b:cJ}{o:Obj}(hb:b∈a)(e:h.get? b=Z o):(b,o)∈nv a h:=List.mem_filterMap.mpr ⟨b,hb,by rw[e];rfl⟩
theorem wx{a:List cJ}{h:cT}{p:cJ×Obj}(hp:p∈nv a h):p.1∈a/\h.get? p.1=Z p.2:=by
 obtain⟨b,d,e⟩:=List.mem_filterMap.mp hp;cases q:h.get? b with
 |none=>rw[q]at e;cases e
 |some o=>
  rw[q]at e;have c:(b,o)=p:=Option.some.inj e;subst c;exact⟨d,q⟩
theorem Inv.pinned{ag:List (cJ×Obj)}{σ:St}{H:Hp}{s:cI}{a:List cJ}(I:Inv X ag σ H s)(hf:∀b∈a,kK X ag H b)(ho:∀b∈a,∃o,s.heap.get? b=Z o /\ ∀v,o.data ≠ .cell v):Inv X (ag++nv a s.heap) σ H s:=
 I.pins_of λp h=>(aE.mp h).elim (λz=>I.pin p (mA1 _ z)) λz=>by
  obtain⟨c,e⟩:=wx z;obtain⟨g,i,j,_⟩:=hf p.1 c;obtain⟨o,f,d⟩:=ho p.1 c;rw[e]at f;cases f;exact⟨e,g,i,j,d⟩
theorem Inv.unpinned{ag pl:List (cJ×Obj)}{σ:St}{H:Hp}{s:cI}(I:Inv X (ag++pl) σ H s):Inv X ag σ H s:=I.pins_of λp a=>I.pin p (mA1 _ (aF _ a))
theorem E4{iter:Expr}{w:List cV}{S:TI}{g:TG}{tb:TS}{pos:Pos}(hp:PassesOwn (model X.prog X.w) X.A X.env X.xe)(hc:X.calm=M)(hi:PI X tg iter S)(hg:PG X tg g)(hb:s9 X w tb)(hs:∀x,foldedSetIterable iter X.env x=pure x:=by intro _;rfl):PS X (.For tg iter w [] pos) (Hy S g tb):=by
 intro ag s σ H D I h;refine wpAny_For (eR (hi ag s σ H _ I h) λv s1 h1=>eR h1 λitv s2 h2=>?_) hs;obtain⟨it,E,tn,am,H2,e,I2,T,K,wq,W,⟨m0,w0⟩,B⟩:=h2;subst e
 -- what stays M of the iterator's objects through the loop
 have k:∀{H':Hp},(∀b∈E,H' b=Y) -> ∀b∈E,kK X ag H' b:=λhn b hb=>⟨hn b hb,(wq b hb).2⟩;refine codeAny_forLoop_any (λn s'=>∃i q H',Inv X ag q H' s'/\tn i s'.heap/\(∀b∈E,H' b=Y)/\W i n q H') ?_ m0 ⟨0,σ,H2,I2,K,λb hb=>(wq b hb).1,w0⟩;rintro n aq ⟨i,c,G,R,F,z,w3⟩;rcases B i n c G w3 with⟨A,qn⟩|⟨go,N,hN,step⟩
 ·refine wpAny_passesOwn hp (eR (T.done X O O O hc i ag aq c G X.xe R (k z) F A) λr s4 ⟨L,I4⟩=>?_);subst L;exact wpAny_execs_nil ⟨c,G,I4,qn⟩
 ·refine wpAny_passesOwn hp (eR (T.item X rfl rfl rfl hc i ag aq c G X.xe R (k z) F go) fun r s4 ⟨u,L,h4⟩=>?_);subst L;refine wpAny_passesOwn hp (eR h4 fun _ V ⟨x,U,I5,r5,y5,y,ar⟩=>?_);have Q:=I5.pinned (k ar) (T.obj _ _ y);refine wpAny_passesOwn hp (eR (hg _ V c U x u _ Q r5 (step x U y5)) fun _ s6 ⟨ao,H6,I6,q6⟩=>?_);refine wpAny_passesOwn hp (eR (hb _ s6 ao H6 _ I6 q6) fun f P t=>?_);have p:∀ {a:St} {l:Hp},Inv X (ag++nv E V.heap) a l P->N a l -> ∃ m,m<n /\ ∃ i q H',Inv X ag q H' P/\tn i P.heap/\(∀ b∈E,H' b=none)/\W i m q H':=fun {a l} j C=>by
   obtain⟨m',hm,w7⟩:=hN a l C;refine⟨m',hm,i+1,a,l,j.unpinned,T.keep _ _ _ y λb hb o e=>(j.pin (b,o) (mA1 _ (mA1 _ (i1 hb e)))).1,λb hb=>?_,w7⟩;obtain⟨o,e,d⟩:=T.obj _ _ y b hb;exact(j.pin (b,o) (mA1 _ (mA1 _ (i1 hb e)))).2.1
  cases f with
  |next=>obtain⟨a,l,j,C⟩:=t;exact p j C
  |cont=>obtain⟨a,l,j,C⟩:=t;exact p j C
  |brk=>obtain⟨a,l,j,t⟩:=t;exact⟨a,l,j.unpinned,t⟩
  |ret v=>obtain⟨x7,a,l,j,r7,t⟩:=t;exact⟨x7,a,l,j.unpinned,r7,t⟩
end
end L2
namespace L2
open PySem PySem.Spec PyProof.Rows
abbrev R2:=V->V->Hp->VK->Prop
def fJ(X:Cx)(f:cH->cH->Sem cH)(r:R2):Prop:=
 ∀(ag:List (cJ×Obj)) (s:cI) (σ:St) (H:Hp) (x y:V) (v u:cH) (Q:VK),Inv X ag σ H s->dt x v->dt y u->r x y H Q ->
  cR (model X.prog X.w) X.A (f v u) (EP X ag σ Q) X.xe s
def Hh(X:Cx)(f:cH->Sem cH)(r:V->Hp->VK->Prop):Prop:=
 ∀(ag:List (cJ×Obj)) (s:cI) (σ:St) (H:Hp) (x:V) (v:cH) (Q:VK),Inv X ag σ H s->dt x v->r x H Q ->
  cR (model X.prog X.w) X.A (f v) (EP X ag σ Q) X.xe s
def eK(X:Cx)(f:cH)(r:List V->Hp->VK->Prop):Prop:=
 ∀(ag:List (cJ×Obj)) (s:cI) (σ:St) (H:Hp) (xs:List V) (us:List cH) (Q:VK),Inv X ag σ H s->dM xs us->r xs H Q ->
  cR (model X.prog X.w) X.A (call f us) (EP X ag σ Q) X.xe s
def Kp(X:Cx)(r:V->Hp->(Bool->Hp->Prop)->Prop):Prop:=
 ∀(ag:List (cJ×Obj)) (s:cI) (σ:St) (H:Hp) (x:V) (v:cH) (Q:Bool->Hp->Prop),Inv X ag σ H s->dt x v->r x H Q ->
  cR (model X.prog X.w) X.A (truthy v) (TP X ag σ Q) X.xe s
def Hu(r:R2)(ta tb:TE):TE:=fun σ H Q=>ta σ H λx H1=>tb σ H1 λy H2=>r x y H2 Q
def KA(r:V->Hp->VK->Prop)(ta:TE):TE:=fun σ H Q=>ta σ H λx H1=>r x H1 Q
def rI(C:Int->Int->Prop)(g:Int->Int->V):R2:=λx y H Q=>∃i j,x = .int i/\y = .int j/\C i j/\Q (g i j) H
def Bq(g:Int->Int->V):R2:=λx y H Q=>∃i j,x = .int i/\y = .int j/\Q (g i j) H
def rU(g:Int->V):V->Hp->VK->Prop:=λx H Q=>∃i,x = .int i/\Q (g i) H
section
variable{X:Cx}{a b c:Expr}{ta tb tc:TE}{pos:Pos}
theorem GW(ha:PE X a ta)(hb:PE X b tb){ag:List (cJ×Obj)}{s:cI}{σ:St}{H:Hp}{R:V->V->Hp->Prop}(I:Inv X ag σ H s)(h:ta σ H fun x H1=>tb σ H1 fun y H2=>R x y H2){Q:cH->cI->Prop}{f:cH->cH->Sem cH}(hf:∀v u e x y H2,Inv X ag σ H2 e->dt x v->dt y u->R x y H2->cR (model X.prog X.w) X.A (f v u) Q X.xe e):
  cR (model X.prog X.w) X.A (eval a X.env) (λv d=>cR (model X.prog X.w) X.A (eval b X.env) (λu c=>cR (model X.prog X.w) X.A (f v u) Q X.xe c) X.xe d) X.xe s:=by
 refine eR (ha ag s σ H _ I h) λv m ⟨x,H1,i,g,l⟩=>?_;refine eR (hb ag m σ H1 _ i l) λu e ⟨y,H2,j,r2,k⟩=>?_;exact hf v u e x y H2 j g r2 k
theorem HW{op:Operator}{r:R2}(ho:fJ X (binaryOp op) r)(ha:PE X a ta)(hb:PE X b tb):PE X (.BinOp a op b pos) (Hu r ta tb):=by
 intro ag s σ H Q I h;exact wpAny_BinOp (GW ha hb I h λv u e x y H2 d f c q=>ho ag e σ H2 x y v u Q d f c q)
theorem HV{op:UnaryOp}{r:V->Hp->VK->Prop}(ho:Hh X (unaryOp op) r)(ha:PE X a ta):PE X (.UnaryOp op a pos) (KA r ta):=by
 intro ag s σ H Q I h;exact UnaryOp_ (eR (ha ag s σ H _ I h) λv b ⟨x,H1,e,c,d⟩=>ho ag b σ H1 x v Q e c d)
theorem Jl{f:cH->cH->Sem cH}{C:Int->Int->Prop}{g:Int->Int->Int}(a:∀(i j:Int) (t u:Tok) (s:cI) (Q:cH->cI->Prop) (E:cH->cI->Prop),C i j->Q (.int (g i j) s.toks) {s with toks:=s.toks+1}->cR (model X.prog X.w) X.A (f (.int i t) (.int j u)) Q E s):
  fJ X f (rI C λi j=>.int (g i j)):=by
 intro ag s σ H x y v u Q I c b h;obtain⟨i,j,rfl,rfl,hc,q⟩:=h;obtain⟨t,rfl⟩:=c;obtain⟨d,rfl⟩:=b;exact a i j t d s _ _ hc ⟨.int (g i j),H,I.tok _,⟨_,O⟩,q⟩
theorem Fx{f:cH->cH->Sem cH}{g:Int->Int->Int}(a:∀(i j:Int) (t u:Tok) (s:cI) (Q:cH->cI->Prop) (E:cH->cI->Prop),Q (.int (g i j) s.toks) {s with toks:=s.toks+1}->cR (model X.prog X.w) X.A (f (.int i t) (.int j u)) Q E s):
  fJ X f (Bq λi j=>.int (g i j)):=by
 intro ag s σ H x y v u Q I c b h;obtain⟨i,j,rfl,rfl,q⟩:=h;obtain⟨t,rfl⟩:=c;obtain⟨d,rfl⟩:=b;exact a i j t d s _ _ ⟨.int (g i j),H,I.tok _,⟨_,O⟩,q⟩
theorem Fy{f:cH->cH->Sem cH}{g:Int->Int->Bool}(a:∀(i j:Int) (t u:Tok) (s:cI) (Q:cH->cI->Prop) (E:cH->cI->Prop),Q (.bool (g i j)) s->cR (model X.prog X.w) X.A (f (.int i t) (.int j u)) Q E s):
  fJ X f (Bq λi j=>.bl (g i j)):=by
 intro ag s σ H x y v u Q I c b h;obtain⟨i,j,rfl,rfl,q⟩:=h;obtain⟨t,rfl⟩:=c;obtain⟨d,rfl⟩:=b;exact a i j t d s _ _ ⟨.bl (g i j),H,I,O,q⟩
def Jf(i j:Int):Prop:=0<j/\j<1073741824
def Je(i j:Int):Prop:=0<=j/\j<=1000000/\i.natAbs<2^64
theorem Fw:fJ X (binaryOp .Add) (Bq λi j=>.int (i+j)):=Fx λ_ _ _ _ _ _ _ q=>add_int q
theorem Fp:fJ X (binaryOp .Sub) (Bq λi j=>.int (i-j)):=Fx λ_ _ _ _ _ _ _ q=>sub_int q
theorem BS:fJ X (binaryOp .FloorDiv) (rI Jf λi j=>.int (i/j)):=Jl λi j _ _ _ _ _ hc q=>by
 have h1:(0:Int)<j:=hc.1;have h2:j<1073741824:=hc.2;exact floordiv_int (by lia) (by rw[Int.fdiv_eq_ediv_of_nonneg i (by lia)];exact q) (.inl (PyProof.noPylong_small (by lia)))
theorem Ft:fJ X (binaryOp .Mod) (rI (λ_ j=>0<j) λi j=>.int (i%j)):=Jl λi j _ _ _ _ _ hc q=>by
 have h1:(0:Int)<j:=hc;exact mod_int' (by lia) (by rw[Int.fmod_eq_emod_of_nonneg i (by lia)];exact q)
theorem Fs:fJ X (binaryOp .Pow) (rI Je λi j=>.int (i^j.toNat)):=Jl λ_ _ _ _ _ _ _ hc q=>pow_int_small hc.1 hc.2.1 hc.2.2 q
theorem CF:fJ X (inplaceOp .Add) (Bq λi j=>.int (i+j)):=Fx λ_ _ _ _ _ _ _ q=>iadd_int q
theorem Lc{f:cH->Sem cH}{g:Int->Int}(a:∀(i:Int) (t:Tok) (s:cI) (Q:cH->cI->Prop) (E:cH->cI->Prop),Q (.int (g i) s.toks) {s with toks:=s.toks+1}->cR (model X.prog X.w) X.A (f (.int i t)) Q E s):
  Hh X f (rU λi=>.int (g i)):=by
 intro ag s σ H x v Q I b h;obtain⟨i,rfl,q⟩:=h;obtain⟨t,rfl⟩:=b;exact a i t s _ _ ⟨.int (g i),H,I.tok _,⟨_,O⟩,q⟩
theorem Eh:Hh X (unaryOp .USub) (rU λi=>.int (-i)):=Lc λ_ _ _ _ _ q=>neg_int q
theorem GE{ag:List (cJ×Obj)}{σ:St}{H:Hp}{s:cI}{Q:VK}{k k':Bool}(I:Inv X ag σ H s)(q:Q (.bl k) H)(e:k=k'):EP X ag σ Q (.bool k') s:=by
 subst e;exact⟨.bl k,H,I,O,q⟩
theorem H9:fJ X (compareOp .LtE) (Bq λi j=>.bl (decide (i<=j))):=Fy λ_ _ _ _ _ _ _ q=>le_int q
theorem Ia:fJ X (compareOp .Gt) (Bq λi j=>.bl (decide (j<i))):=Fy λ_ _ _ _ _ _ _ q=>gt_int q
theorem Ib:fJ X (compareOp .GtE) (Bq λi j=>.bl (decide (j<=i))):=Fy λ_ _ _ _ _ _ _ q=>ge_int q
theorem Fu:fJ X (compareOp .Is) (λx y H Q=>y = .non/\Q (.bl (decide (x = .non))) H):=by
 intro ag s σ H x y v u Q I a b h;obtain⟨rfl,q⟩:=h;cases b;refine is_none_gen (GE I q ?_);cases x<;>first
  |(cases a;rfl)
  |(obtain⟨t,rfl⟩:=a;rfl)
theorem yQ(b:Expr){op:CmpOp}(h:op ≠ .In:=by decide)(h2:op ≠ .NotIn:=by decide):behindInMarks op b=J:=by
 have c:(op == CmpOp.In)=J:=by cases op<;>first|rfl|exact absurd rfl h
 have a:(op == CmpOp.NotIn)=J:=by cases op<;>first|rfl|exact absurd rfl h2
 cases b<;>simp[behindInMarks,c,a]
theorem BM{op:CmpOp}{r:R2}(ho:fJ X (compareOp op) r)(ha:PE X a ta)(hb:PE X b tb)(hm:behindInMarks op b=J):PE X (.Compare a [op] [b] pos) (Hu r ta tb):=by
 intro ag s σ H Q I h;exact wpAny_Compare1 (GW ha hb I h λv u e x y H2 d f c q=>ho ag e σ H2 x y v u Q d f c q) hm
def Dv(t:TE):TT:=fun σ H Q=>t σ H λx H'=>∃k,x = .bl k/\Q k H'
theorem Bx{op:CmpOp}{r:R2}(ho:fJ X (compareOp op) r)(ha:PE X a ta)(hb:PE X b tb)(hm:behindInMarks op b=J):PT X (.Compare a [op] [b] pos) (Dv (Hu r ta tb)):=by
 intro ag s σ H Q I h;refine wpAny_isTrue_Compare1 (eR (ha ag s σ H _ I h) λv p ⟨x,H1,g,f,o⟩=>eR (hb ag p σ H1 _ g o) λu n ⟨y,H2,i,r2,j⟩=>
  eR (ho ag n σ H2 x y v u _ i f r2 j) λc t ⟨z,d,l,q,k,e,m⟩=>?_) hm
 subst e;cases q;exact wpAny_truthy_bool ⟨d,l,m⟩
def tJ(r r':R2)(ta tb tc:TE):TE:=fun σ H Q=>ta σ H λx H1=>tb σ H1 λy H2=>r x y H2 λz H3=>∃k,z = .bl k /\
 (if k=M then tc σ H3 λw' H4=>r' y w' H4 Q else Q (.bl J) H3)
theorem yI{op op':CmpOp}{r j:R2}(ho:fJ X (compareOp op) r)(ho':fJ X (compareOp op') j)(ha:PE X a ta)(hb:PE X b tb)(hc:PE X c tc)(hm:lastMarks [op,op'] [b,c]=J:=by with_unfolding_all rfl):PE X (.Compare a [op,op'] [b,c] pos) (tJ r j ta tb tc):=by
 intro ag s σ H Q I h;refine Compare_chain (eR (ha ag s σ H _ I h) λv am ⟨x,H1,t,C,A⟩=>chain_link (eR (hb ag am σ H1 _ t A) λu G ⟨y,H2,n,r2,E⟩=>
  eR (ho ag G σ H2 x y v u _ n C r2 E) λd p ⟨z,i,f,q,k,e,g⟩=>?_)) hm
 subst e;cases q;refine wpAny_truthy_bool ?_;cases k with
 |false=>exact ite_ff ⟨.bl J,i,f,O,g⟩
 |true=>exact ite_tt (chain_last (eR (hc ag p σ i _ f g) λF o ⟨D,l,w,m,B⟩=>ho' ag o σ l y D u F Q w r2 m B))
theorem yt{op op':CmpOp}{r j:R2}(ho:fJ X (compareOp op) r)(ho':fJ X (compareOp op') j)(ha:PE X a ta)(hb:PE X b tb)(hc:PE X c tc)(hm:lastMarks [op,op'] [b,c]=J:=by with_unfolding_all rfl):PT X (.Compare a [op,op'] [b,c] pos) (Dv (tJ r j ta tb tc)):=by
 intro ag s σ H Q I h;refine isTrue_chain (eR (ha ag s σ H _ I h) λv R ⟨x,H1,F,L,am⟩=>test_link (eR (hb ag R σ H1 _ F am) λu P ⟨y,H2,t,r2,N⟩=>
  eR (ho ag P σ H2 x y v u _ t L r2 N) λd A ⟨z,i,f,D,k,e,g⟩=>?_)) hm
 subst e;cases D;refine wpAny_truthy_bool ?_;cases k with
 |false=>
  obtain⟨W,n,l⟩:=g;cases n;exact ite_ff ⟨i,f,l⟩
 |true=>
  refine ite_tt (test_last (eR (hc ag A σ i _ f g) λar w ⟨ao,o,G,p,K⟩=>eR (ho' ag w σ o y ao u ar _ G r2 p K) λT U ⟨S,q,C,E,V,B,m⟩=>?_));subst B;cases E;exact wpAny_truthy_bool ⟨q,C,m⟩
def AN(K:Fg1)(x:V)(H:Hp)(k:Bool):Prop:=
 match x with
 | .non=>k=J
 | .bl b=>k=b
 | .int i=>k=(i != 0)
 | .str y=>y.length<=cQ/\k=((y.length:Int) != 0)
 | .byt y=>y.size<=cQ/\k=((y.size:Int) != 0)
 | .ref p=>(∃xs,lv K H p xs/\k = !xs.isEmpty)\/(∃xs,jt K H p xs/\k = !xs.isEmpty) \/ ∃kvs,H p=Z (.dK kvs)/\k = !kvs.isEmpty
 |_=>False
theorem ug{κ:Type}{kvs:List (κ×V)}{vs:List (κ×cH)}(r:KV kvs vs):(!vs.isEmpty) = !kvs.isEmpty:=by
 cases r<;>rfl
theorem nT{xs:List V}{its:List cH}(r:dM xs its):(!its.toArray.isEmpty) = !xs.isEmpty:=by
 cases r<;>simp
theorem lH:(cQ:Nat)<2^63:=by rw[sizeLine_eq];decide
theorem xL:Kp X (λx H Q=>∃k,AN X.K x H k/\Q k H):=by
 intro ag s σ H x v Q I d h;obtain⟨k,e,q⟩:=h;have u:=lH;have o:cQ=16777216:=sizeLine_eq;cases x with
 |non=>
  cases d;have a:k=J:=e;subst a;exact truthy_none ⟨H,I,q⟩
 |bl b=>
  cases d;have a:k=b:=e;subst a;exact wpAny_truthy_bool ⟨H,I,q⟩
 |int i=>
  obtain⟨t,rfl⟩:=d;have a:k=(i != 0):=e;subst a;exact PySem.P.truthy_int ⟨H,I,q⟩
 |str y=>
  obtain⟨t,rfl⟩:=d;obtain⟨l,a⟩:y.length<=cQ/\k=((y.length:Int) != 0):=e;subst a;exact PySem.P.truthy_str (by lia) ⟨H,I.tok _,q⟩
 |byt y=>
  obtain⟨t,rfl⟩:=d;obtain⟨l,a⟩:y.size<=cQ/\k=((y.size:Int) != 0):=e;subst a;exact PySem.W.truthy_bytes (by lia) ⟨H,I.tok _,q⟩
 |ref p=>
  cases d;have a:(∃xs,lv X.K H p xs/\k = !xs.isEmpty)\/(∃xs,jt X.K H p xs/\k = !xs.isEmpty) \/ ∃kvs,H p=Z (.dK kvs)/\k = !kvs.isEmpty:=e;rcases a with⟨xs,f,a⟩|⟨xs,f,a⟩|⟨kvs,f,a⟩
  ·subst a;obtain⟨g,r,pl,j⟩:=I.list f;have c:=r.length;exact wpAny_truthy_list pl.isList (by simp only[aJ];lia) ⟨H,I.tok _,by rw[nT r];exact q⟩
  ·subst a;obtain⟨g,r,pl,j⟩:=I.tuple f;have c:=r.length;exact truthy_tuple pl (by simp only[aJ];lia) ⟨H,I.tok _,by rw[nT r];exact q⟩
  ·subst a;obtain⟨j,n,vs,r,m⟩:kvs.length<=cQ/\(p == sysModules)=false /\ ∃vs,KV kvs vs/\s.heap.DictOf (eJ X.prog X.w) p vs:=I.hok p _ f;have c:kvs.length=vs.length:=Paired.length r;exact wpAny_truthy_dict n m (by lia) ⟨H,I.tok _,by rw[ug r];exact q⟩
 |_=>exact(show False from e).elim
theorem yr(ha:PE X a ta)(he:∀ b,isTrue a X.env b=(do let v<-b;standAt a.pos;holding [v] (truthy v))):
  PT X a (fun σ H Q=>ta σ H λx H'=>∃k,AN X.K x H' k/\Q k H'):=by
 intro ag s σ H Q I h;exact isTrue_plain (eR (ha ag s σ H _ I h) λv f ⟨x,H1,d,c,e⟩=>xL ag f σ H1 x v Q d c e) (he _)
theorem tV:fJ X (binaryOp .Add) (λx y H Q=>∃i j,x = .str i/\y = .str j/\i.length+j.length<=cQ/\Q (.str (i++j)) H):=by
 intro ag s σ H x y v u Q I b a h;obtain⟨i,j,rfl,rfl,d,q⟩:=h;obtain⟨t,rfl⟩:=b;obtain⟨c,rfl⟩:=a;exact add_str (λc tk=>⟨.str (i++j),H,I.tok _,⟨_,O⟩,q⟩) d
theorem hQ{x:V}{us:List cH}(r:dM [x] us):∃u,us=[u]/\dt x u:=by
 cases r with
 |cons a r2=>cases r2;exact⟨_,O,a⟩
theorem xB{x y:V}{us:List cH}(r:dM [x,y] us):∃u w',us=[u,w']/\dt x u/\dt y w':=by
 cases r with
 |cons b r2=>
  cases r2 with
  |cons c a=>cases a;exact⟨_,_,O,b,c⟩
theorem w9(hc:X.calm=M):eK X (.builtin "max") (λxs H Q=>∃i j,xs=[.int i,.int j]/\Q (.int (if j>i then j else i)) H):=by
 intro ag s σ H xs c Q I r h;obtain⟨i,j,rfl,q⟩:=h;obtain⟨u,b,rfl,⟨t,rfl⟩,⟨d,rfl⟩⟩:=xB r;refine max_two_ints (I.ok.hd hc) λh' tk k=>⟨_,H,I.kept k,?_,q⟩;by_cases a:j>i
 ·rw[ak a,ak a];exact⟨_,O⟩
 ·rw[aj a,aj a];exact⟨_,O⟩
theorem w8(hc:X.calm=M):eK X (.builtin "min") (λxs H Q=>∃i j,xs=[.int i,.int j]/\Q (.int (if j<i then j else i)) H):=by
 intro ag s σ H xs c Q I r h;obtain⟨i,j,rfl,q⟩:=h;obtain⟨u,b,rfl,⟨t,rfl⟩,⟨d,rfl⟩⟩:=xB r;refine min_two_ints (I.ok.hd hc) λh' tk k=>⟨_,H,I.kept k,?_,q⟩;by_cases a:j<i
 ·rw[ak a,ak a];exact⟨_,O⟩
 ·rw[aj a,aj a];exact⟨_,O⟩
theorem pw:eK X (.type "int") (λxs H Q=>(∃i,xs=[.int i]/\Q (.int i) H) \/ ∃k,xs=[.bl k]/\Q (.int (if k then 1 else 0)) H):=by
 intro ag s σ H xs b Q I r h;rcases h with⟨i,rfl,q⟩|⟨k,rfl,q⟩
 ·obtain⟨u,rfl,t,rfl⟩:=hQ r;exact call_int_int ⟨.int i,H,I,⟨_,O⟩,q⟩
 ·obtain⟨u,rfl,a⟩:=hQ r;cases a;exact call_int_bool ⟨.int (if k then 1 else 0),H,I.tok _,⟨_,O⟩,q⟩
theorem n9:eK X (.type "bool") (λxs H Q=>(∃i,xs=[.int i]/\Q (.bl (i != 0)) H) \/ ∃k,xs=[.bl k]/\Q (.bl k) H):=by
 intro ag s σ H xs b Q I r h;rcases h with⟨i,rfl,q⟩|⟨k,rfl,q⟩
 ·obtain⟨u,rfl,t,rfl⟩:=hQ r;exact call_bool_int ⟨.bl (i != 0),H,I,O,q⟩
 ·obtain⟨u,rfl,a⟩:=hQ r;cases a;exact call_bool_bool ⟨.bl k,H,I,O,q⟩
theorem qv:eK X (.type "str") (λxs H Q=>∃i,xs=[.int i]/\i.natAbs.log2<1920/\Q (.str (toString i)) H):=by
 intro ag s σ H xs b Q I r h;obtain⟨i,rfl,a,q⟩:=h;obtain⟨u,rfl,t,rfl⟩:=hQ r;exact PySem.P.str_of_int a ⟨.str _,H,I.tok _,⟨_,O⟩,q⟩
end
end L2
namespace L2
open PySem PySem.Spec PyProof.Rows
structure Hc (h:cT)(x dx C:cJ)(mA:Str->Option cH):Prop where
 obj:h.get? x=some (PySem.W.instObj C dx)
 ns:h.Ns1 dx mA
 ne:dx≠x
theorem wD{h:cT}{dx:cJ}{mA:Str->Option cH}(n:h.Ns1 dx mA):∃c,h.get? dx=Z c /\ ∀name,PySem.W.lookIn name c=Z (mA name):=by
 obtain⟨o,es,ep,g,d,f,_,k⟩:=n;refine⟨o,g,λname=>?_⟩;have e:=k name;unfold nsFind findBy at e;rw[<- Array.find?_toList]at e;unfold PySem.W.lookIn;rw[d];dsimp only;split
 ·rename_i y q;rw[q]at e;exact congrArg Z e
 ·rename_i q;rw [q] at e;have a:es.toList.any (·.refKey)=false:=by
   rw[List.any_eq_false];intro y j;obtain⟨z,t,b⟩:=f y (Array.mem_toList_iff.mp j);simp[DictEntry.refKey,b]
  have i:¬ es.toList.any (·.refKey)=M:=by rw[a];exact aI
  rw[aj i];exact congrArg Z e
theorem Hc.look{h:cT}{x dx C:cJ}{mA:Str->Option cH}(I:Hc h x dx C mA):∃a,PySem.W.InstAt h x (PySem.W.instObj C dx) C (Z a) /\ ∀name,PySem.W.lookIn name a=Z (mA name):=
 let ⟨a,ho,hl⟩:=wD I.ns
 ⟨a,⟨I.obj,O,O,ho⟩,hl⟩
section
variable{prog:cK}{w:cN}{A:cM}{E:cH->cI->Prop}{s:cI}{K:Fg1}{x dx C f:cJ}{mA:Str->Option cH}{name:Str}{v:cH}
end
theorem lX.some_of{v:V}{o:Option cH}(r:lX (Z v) o):∃u,o=Z u/\dt v u:=by
 cases o with
 |none=>exact(show False from r).elim
 |some u=>exact⟨u,O,r⟩
section
variable{P:cK}{w:cN}{H H':Hp}{h h':cT}{a C dx:cJ}{fs fs':List (Str×V)}
theorem CG(b:kM P w H h)(e:H a=Z (.ins C dx fs)):∃mA,Hc h a dx C mA/\(∀f,lX (fs.lookup f) (mA f))/\PySem.Within mA (fs.map (·.1))/\fs.length<=1000/\H dx=Z (.own a):=by
 obtain⟨d,z,ne,c,mA,n,r,q⟩:=(show ew P w H h a (.ins C dx fs)from b a _ e);exact⟨mA,⟨c,n,ne⟩,r,q,z,d⟩
end
structure Kx (K:Fg1)(C:cJ):Prop where
 pg:PySem.W.plainGet K C Str.empty=true
 hd:PySem.W.hasDictIn K C=true
 po:PySem.W.plainOver K C=true
 sa:PySem.W.findIn K (.ref C) "__setattr__"=some (some (.builtin "object.__setattr__"))
theorem Kx.get{K:Fg1}{C:cJ}(c:Kx K C)(f:Str):PySem.W.plainGet K C f=M:=c.pg
structure Con (K:Fg1)(C:cJ)(f:Str)(v:V)(u:cH):Prop where
 at_:PySem.W.findIn K (.ref C) f=some (some u)
 rel:dt v u
 get:PySem.W.specialIn K u "__get__"=some none
 cp:PySem.W.copiedNames.contains f=false
section
variable{X:Cx}{ag:List (cJ×Obj)}{σ:St}{H:Hp}{s:cI}{a C dx:cJ}{fs:List (Str×V)}{f:Str}{v:V}{A:cM}{E:cH->cI->Prop}
end
section
variable{X:Cx}{o e value:Expr}{f:Str}{pos pos' tpos:Pos}{ta tv:TE}
end
section
variable{X:Cx}{ag:List (cJ×Obj)}{σ:St}{H:Hp}{s:cI}{A:cM}{E:cH->cI->Prop}{Q:cH->cI->Prop}{c:cH}{b:Bool}
inductive mP (K:Fg1)(H:Hp):V->cH->Prop where
 |non:mP K H .non (.type "NoneType")
 |bl (x:Bool):mP K H (.bl x) (.type "bool")
 |int (i:Int):mP K H (.int i) (.type "int")
 |str (x:Str):mP K H (.str x) (.type "str")
 |flt (x:UInt64):mP K H (.flt x) (.type "float")
 |lst {a:cJ} {xs:List V} (e:H a=some (.lst xs)):mP K H (.ref a) (.type "list")
 |frz {a:cJ} {o:Obj} {xs:List V} (e:H a=some (.frz o (.lst xs))):mP K H (.ref a) (.type "list")
 |tup {a:cJ} {xs:List V} (e:H a=some (.tup xs)):mP K H (.ref a) (.type "tuple")
 |dK {a:cJ} {kvs:List (Key×V)} (e:H a=some (.dK kvs)):mP K H (.ref a) (.type "dict")
 |dT {a:cJ} {kvs:List (List Key×V)} (e:H a=some (.dT kvs)):mP K H (.ref a) (.type "dict")
 | ins {a C dx:cJ} {fs:List (Str×V)} (e:H a=some (.ins C dx fs)) (cl:Kx K C) (ha:PySem.W.findIn K (.ref C) "__class__"=some (some (.builtin "object.__class__")))
   (hn:PySem.W.specialIn K (.builtin "object.__class__") "__get__"=some (some (.builtin "getset_descriptor.__get__"))) (htk:PySem.W.takesIn K (.builtin "object.__class__")=some true)
   (hm:PySem.W.mroIn K C (.type "object")=some true):mP K H (.ref a) (.ref C)
theorem iP{x:V}{u t:cH}(I:Inv X ag σ H s)(d:dt x u)(ty:mP X.K H x t)(e:PySem.W.kitOne X.K t c=some b)(h:∀ tk,Q (.bool b) {s with toks:=tk}):
  cR (model X.prog X.w) A (call (.builtin "isinstance") [u,c]) Q E s:=by
 cases ty with
 |non=>cases(show u=Value.none from d);exact PySem.W.kia_one PySem.W.kitx_none I.kIn True.intro e (λz=>nomatch z) h
 |bl y=>cases(show u=Value.bool y from d);exact PySem.W.kia_one PySem.W.kitx_bool I.kIn True.intro e (λz=>nomatch z) h
 |int i=>obtain⟨t,q⟩:=(show∃t,u=Value.int i t from d);cases q;exact PySem.W.kia_one PySem.W.kitx_int I.kIn True.intro e (λz=>nomatch z) h
 |str y=>obtain⟨t,q⟩:=(show∃t,u=Value.str y t from d);cases q;exact PySem.W.kia_one PySem.W.kitx_str I.kIn True.intro e (λz=>nomatch z) h
 |flt y=>obtain⟨t,q⟩:=(show∃t,u=Value.float y t from d);cases q;exact PySem.W.kia_one PySem.W.kitx_float I.kIn True.intro e (λz=>nomatch z) h
 | @lst a xs f=>
  cases(show u=Value.ref a from d);obtain⟨_,_,n,_,h1⟩:=(show ew X.prog X.w H s.heap a (.lst xs)from I.hok a _ f);exact PySem.W.kia_one PySem.W.kitx_list I.kIn ⟨_,h1,O⟩ e (λz=>nomatch z) h
 | @frz a l xs f=>
  cases(show u=Value.ref a from d);obtain⟨_,_,_,n,_,h1⟩:=(show ew X.prog X.w H s.heap a (.frz l (.lst xs))from I.hok a _ f);exact PySem.W.kia_one PySem.W.kitx_list I.kIn ⟨_,h1,O⟩ e (λz=>nomatch z) h
 | @tup a xs f=>
  cases(show u=Value.ref a from d);obtain⟨_,_,_,p⟩:=(show ew X.prog X.w H s.heap a (.tup xs)from I.hok a _ f);obtain⟨o,h1,h2,_⟩:=p;exact PySem.W.kia_one PySem.W.kitx_tuple I.kIn ⟨o,h1,h2⟩ e (λz=>nomatch z) h
 | @dK a kvs f=>
  cases(show u=Value.ref a from d);obtain⟨_,_,vs,_,p⟩:=(show ew X.prog X.w H s.heap a (.dK kvs)from I.hok a _ f);obtain⟨o,es,ep,h1,h2,_⟩:=p;exact PySem.W.kia_one PySem.W.kitx_dict I.kIn ⟨o,h1,h2.1⟩ e (λz=>nomatch z) h
 | @dT a kvs f=>
  cases(show u=Value.ref a from d);obtain⟨_,_,xs,_,o,es,ep,h1,h2,_⟩:=(show ew X.prog X.w H s.heap a (.dT kvs)from I.hok a _ f);exact PySem.W.kia_one PySem.W.kitx_dict I.kIn ⟨o,h1,h2.1⟩ e (λz=>nomatch z) h
 | @ins a C dx fs f j m k g r=>
  cases(show u=Value.ref a from d);obtain⟨mA,ar,_⟩:=CG I.hok f;obtain⟨v,am,_⟩:=ar.look;exact PySem.W.kia_one (PySem.W.kitx_own (j.get _) j.hd m k g r) I.kIn am e (λz=>nomatch z) h
end
end L2
namespace L2
open PySem PySem.Spec PyProof.Rows
structure gf (k:Nat)(A:cM):Prop where
 hd:A.handled=none
 dp:A.depth+3*k+5<recursionLimit
 un:A.units+16*k+200<cLine
 gd:A.guards=some []
theorem gf.mono{j k:Nat}{A:cM}(r:gf k A)(h:j<=k):gf j A:=⟨r.hd,by have:=r.dp;lia,by have:=r.un;lia,r.gd⟩
theorem gf.deeper{k:Nat}{A:cM}(r:gf (k+1) A)(env:Env):gf k (A.deeper env):=
 ⟨r.hd,by have:=r.dp;show A.depth+1+3*k+5<_;lia,by have:=r.un;show A.units+3+16*k+200<_;lia,r.gd⟩
theorem gf.depth{k:Nat}{A:cM}(r:gf k A):A.depth<recursionLimit:=by have:=r.dp;lia
theorem gf.units{k:Nat}{A:cM}(r:gf k A):A.units+64<cLine:=by have:=r.un;lia
def JF:TA:=λ_ H Q=>Q [] H
def HB(ta:TE)(tr:TA):TA:=fun σ H Q=>ta σ H λx H1=>tr σ H1 λxs H2=>Q (x::xs) H2
section
variable{X:Cx}{e:Expr}{es:List Expr}{te:TE}{t:TA}{pos:Pos}
theorem lC:PA X [] JF:=λ_ _ _ _ H Q I h=>Calls.spliced_nil ⟨[],H,I,.nil,h⟩
theorem iZ(ha:PE X e te)(hr:PA X es t)(hs:cP (e::es) X.env=(J,eval e X.env)::cP es X.env:=by rfl):PA X (e::es) (HB te t):=by
 intro pos ag s σ H Q I h;rw[hs];show cR _ _ (spliced ((J,eval e X.env)::backTo pos (cP es X.env))) _ _ s;refine Calls.spliced_cons (eR (ha ag s σ H _ I h) λu g ⟨x,H1,b,a,f⟩=>?_);exact eR (hr pos ag g σ H1 _ b f) λj i ⟨xs,H2,c,r2,d⟩=>⟨x::xs,H2,c,.cons a r2,d⟩
def JA(t:TA):TE:=fun σ H Q=>t σ H λxs H1=>xs.length<=cQ /\ ∀p,H1 p=Y->Q (.ref p) (upd H1 p (.tup xs))
def JI(t:TA):TE:=fun σ H Q=>t σ H λxs H1=>xs.length<=cQ /\ ∀p,H1 p=Y->Q (.ref p) (upd H1 p (.lst xs))
theorem Fc{x1}(h:PA X es t):PE X (.Tuple es x1 pos) (JA t):=by
 intro ag s σ H Q I d;refine wpAny_Tuple_spliced (eR (h pos ag s σ H _ I d) λf a ⟨xs,H1,c,r,z,q⟩=>⟨by rw[<- r.length];exact z,?_⟩);have g:H1 a.heap.objs.size=Y:=c.hok.fresh (nR1 _);refine⟨.ref a.heap.objs.size,upd H1 a.heap.objs.size (.tup xs),c.laid (t':=a.toks) (λb u e=>hP1 _ e) (nR1 _) ?_,O,q _ g⟩;exact⟨z,f,r,⟨_,hS1 _ O,O,_,O⟩⟩
theorem Fi(h:PA X es t):PE X (.List es pos) (JI t):=by
 intro ag s σ H Q I d;refine wpAny_List_spliced (eR (h pos ag s σ H _ I d) λf a ⟨xs,H1,c,r,z,q⟩=>⟨by rw[<- r.length];exact z,?_⟩);have g:H1 a.heap.objs.size=Y:=c.hok.fresh (nR1 _);refine⟨.ref a.heap.objs.size,upd H1 a.heap.objs.size (.lst xs),c.laid (t':=a.toks) (λb u e=>hP1 _ e) (nR1 _) ?_,O,q _ g⟩;exact⟨z,f,0,r,hS1 _ O⟩
end
abbrev Sp:=List V->Hp->VK->XK->Prop
abbrev xm:=List Env->Hp->cI->XK->cH->cI->Prop
structure Dq (P:cK)(w:cN)(K:Fg1)(mg:Str->Option cH)(base:cT)(A:cM)(outer:List Env)(s:cI)(H:Hp):Prop where
 frames:A.frames=some outer
 mod:Mod K mg base
 bs:∀b o,base.get? b=some o->s.heap.get? b=some o/\H b=none
 bsz:base.objs.size<=s.heap.objs.size
 funs:s.heap.FunFrames base outer
 frf:∀b∈frs outer,H b=none
 hok:kM P w H s.heap
 bare:AllBare s.gens
def CE(outer:List Env)(P:cK)(w:cN)(H:Hp)(s:cI)(Q:VK)(u:cH)(s':cI):Prop:=
 ∃v H',s'.os=s.os/\AllBare s'.gens/\Un (frs outer) [] H H' s.heap s'.heap/\kM P w H' s'.heap/\dt v u/\Q v H'
def CR(CX:xm)(outer:List Env)(P:cK)(w:cN)(H:Hp)(s:cI)(Q:VK)(E:XK)(r:Result)(s':cI):Prop:=
 match r with
 | .ok (.ret u)=>CE outer P w H s Q u s'
 | .ok _=>False
 | .error e=>CX outer H s E e s'
structure lY (P:cK)(w:cN)(K:Fg1)(mg:Str->Option cH)(base:cT)(CX:xm)(k:Nat)(f:cJ)(fd:cU)(ps:List Str)(sp:Sp):Prop where
 len:∀vs H Q E,sp vs H Q E->vs.length=ps.length
 run:∀(A:cM) (outer:List Env) (s:cI) (H:Hp) (args:Args) (us:List cH) (vs:List V) (Q:VK) (E:XK),gf k A->Dq P w K mg base A outer s H->BindsTo s fd args (ps.zip us)->dM vs us->sp vs H Q E ->
  cS (model P w) A (.call (.ref f) args) (CR CX outer P w H s Q E) s
section
variable{X:Cx}{ag:List (cJ×Obj)}{σ:St}{H:Hp}{s s':cI}
theorem Inv.env0(I:Inv X ag σ H s):Dq X.prog X.w X.K X.mg X.base X.A X.stack s H:=
 ⟨I.ok.frames,I.ok.mod,I.bs,aB I.ok.bsz I.sz,I.stack,I.stkFree,I.hok,I.bare⟩
theorem Inv.after{Q:VK}{u:cH}(I:Inv X ag σ H s)(h:CE X.stack X.prog X.w H s Q u s'):EP X ag σ Q u s':=by
 obtain⟨v,H',f,a,un,c,r,q⟩:=h;obtain⟨i,g,d,t,e⟩:=s';obtain rfl:e=s.os:=f;exact⟨v,H',I.call (h':=i) (g':=g) (d':=d) (t':=t) (ch:=[]) un c a (λb z=>absurd z (by simp)),r,q⟩
end
def HC(sp:Sp)(dvs:List V)(E:XK)(t:TA):TE:=fun σ H Q=>t σ H λvs H1=>sp (vs++dvs) H1 Q E
def jP(K:Fg1)(fd:cU)(ps:List Str)(ds:List cH):Prop:=
 ∀(s:cI) (us:List cH),K.In s.heap->(us++ds).length=ps.length->BindsTo s fd ⟨us,[]⟩ (ps.zip (us++ds))
theorem jP.all{K:Fg1}{fd:cU}{ps:List Str}(h:∀a:List cH,a.length=ps.length->bindArgs fd ⟨a,[]⟩=pure (ps.zip a)):jP K fd ps []:=λs a _ b=>by
 rw[aK]at b ⊢;exact .of_eq (h a b)
def uI(CX:xm)(X:Cx)(E:XK):Prop:=∀(ag:List (cJ×Obj)) (σ:St) (H:Hp) (s:cI) (e:cH) (s':cI),Inv X ag σ H s->CX X.stack H s E e s'->X.xe e s'
section
variable{X:Cx}{CX:xm}{k:Nat}{f C:cJ}{fd:cU}{ps:List Str}{sp:Sp}{dvs:List V}{ds:List cH}{E:XK}{x m:Str}{p pos apos:Pos}{e o:Expr}{es:List Expr}{ta:TE}{t:TA}
theorem EJ{ag:List (cJ×Obj)}{σ:St}{H:Hp}{s:cI}{Q:VK}{us:List cH}{vs:List V}(F:lY X.prog X.w X.K X.mg X.base CX k f fd ps sp)(hr:gf k X.A)(hb:jP X.K fd ps ds)(hd:dM dvs ds)(hx:uI CX X E)(I:Inv X ag σ H s)(r:dM vs us)(h:sp (vs++dvs) H Q E):cR (model X.prog X.w) X.A (call (.ref f) us) (EP X ag σ Q) X.xe s:=by
 have r2:dM (vs++dvs) (us++ds):=r.append hd;have b:(us++ds).length=ps.length:=by rw[<- r2.length];exact F.len _ _ _ _ h
 refine wpAny_call (codeAny_mono (F.run X.A X.stack s H ⟨us,[]⟩ (us++ds) (vs++dvs) Q E hr I.env0 (hb s us I.kIn b) r2 h) λr s' a=>?_);cases r with
 |error e=>exact hx ag σ H s e s' I a
 |ok c=>
  cases c with
  |ret u=>exact I.after a
  |next=>exact False.elim a
  |brk=>exact False.elim a
  |cont=>exact False.elim a
theorem BN (F:lY X.prog X.w X.K X.mg X.base CX k f fd ps sp)(hr:gf k X.A)(hg:Gl X x)(hm:X.mg x=some (.ref f))(hk:wK1 X.K (.ref f)=true)(hb:jP X.K fd ps ds)(hd:dM dvs ds)(hx:uI CX X E)
  (ha:PA X (e::es) t) (hdb:(x == ("__debug__":Str))=J:=by decide) (he:cP (e::es) X.env=(J,eval e X.env)::cP es X.env:=by rfl) (hpl:(backTo pos (cP es X.env)).any (·.1)=J:=by rfl):
  PE X (.Call (.Name x p) (e::es) [] pos) (HC sp dvs E t):=by
 intro ag s σ H Q I h;refine wpAny_Call_Name_kw (vx I hg hm ?_ hdb);refine PySem.W.callWith_K (h₀:=X.base) I.ok.mod.kin hk (eR (ha pos ag s σ H _ I h) λc b ⟨vs,H1,a,r,q⟩=>⟨a.kIn,?_⟩) he hpl;exact EJ F hr hb hd hx a r q
end
section
variable{X:Cx}{CX:xm}{k:Nat}{f C:cJ}{fd:cU}{ps ks:List Str}{sp:Sp}{E:XK}{x m:Str}{p pos apos kpos:Pos}{e o:Expr}{es:List Expr}{kws:List Keyword}{te ta:TE}{t tk:TA}{nm:Option Str}
variable{g:List cH->List cH->List cH}{gV:List V->List V->List V}
end
structure gH (N P:List Str)(sc:cW):Prop where
 kind:sc.kind = .function
 co:sc.isCoroutine=false
 gen:sc.isGenerator=false
 nd:N.Nodup
 pre:N.take P.length=P
 par:∀x∈P,sc.names.lookup x=some .local\/sc.names.lookup x=some .cell
 nofree:∀y∈sc.names,y.2 ≠ .free
theorem py{kindOf:Str->Option NameKind}{x:Str}:∀{binds:List (Str×cH)} {m:Str->Option cH},(∀v,(x,v)∉binds)->bindL kindOf binds m x=m x
 |[],_,_=>rfl
 |(n,v)::r,m,h=>by
  unfold bindL;rw[py λw a=>h w (mC1 _ a)];split
  ·have:x≠n:=by rintro rfl;exact h v mS1
   simp[this]
  ·rfl
theorem pA{kindOf:Str->Option NameKind}{x:Str}:∀{binds:List (Str×cH)} {m:Str->Option cH},(∀v,(x,v)∉binds)->bindC kindOf binds m x=m x
 |[],_,_=>rfl
 |(n,v)::r,m,h=>by
  unfold bindC;rw[pA λw a=>h w (mC1 _ a)];split
  ·rfl
  ·have:x≠n:=by rintro rfl;exact h v mS1
   simp[this]
theorem pz{kindOf:Str->Option NameKind}{x:Str}{v:cH}:∀ {P:List Str} {vs:List cH} {i:Nat} {m:Str->Option cH},P.Nodup->P[i]? = some x->vs[i]? = some v->kindOf x=some .local ->
  bindL kindOf (P.zip vs) m x=Z v
 |[],_,_,_,_,h,_,_=>by simp at h
 |_::_,[],_,_,_,_,h,_=>by simp at h
 |p::P,w::vs,0,m,nd,h1,h2,hk=>by
  simp at h1 h2;subst h1;subst h2;show bindL kindOf ((p,w)::P.zip vs) m p=_;unfold bindL;rw[py λv a=>(aL.mp nd).1 (List.of_mem_zip a).1,ak hk];simp
 |p::P,w::vs,i+1,m,nd,h1,h2,hk=>by
  show bindL kindOf ((p,w)::P.zip vs) m x=_;unfold bindL;exact pz (i:=i) (aL.mp nd).2 (by simpa using h1) (by simpa using h2) hk
theorem pB{kindOf:Str->Option NameKind}{x:Str}{v:cH}:∀ {P:List Str} {vs:List cH} {i:Nat} {m:Str->Option cH},P.Nodup->P[i]? = some x->vs[i]? = some v->kindOf x≠some .local ->
  bindC kindOf (P.zip vs) m x=Z v
 |[],_,_,_,_,h,_,_=>by simp at h
 |_::_,[],_,_,_,_,h,_=>by simp at h
 |p::P,w::vs,0,m,nd,h1,h2,hk=>by
  simp at h1 h2;subst h1;subst h2;show bindC kindOf ((p,w)::P.zip vs) m p=_;unfold bindC;rw[pA λv a=>(aL.mp nd).1 (List.of_mem_zip a).1,aj hk];simp
 |p::P,w::vs,i+1,m,nd,h1,h2,hk=>by
  show bindC kindOf ((p,w)::P.zip vs) m x=_;unfold bindC;exact pB (i:=i) (aL.mp nd).2 (by simpa using h1) (by simpa using h2) hk
def start(N:List Str)(vs:List V):St:=vs.map Z++aM (N.length-vs.length) Y
def mO(CX:xm)(P:cK)(w:cN)(K:Fg1)(mg:Str->Option cH)(base:cT)(N:List Str)(qual:Str)(scope:cW)(f:cJ)(cd:cH)(A:cM)(outer:List Env)(s:cI)(H:Hp)(E:XK):Cx where
 prog:=P
 w:=w
 K:=K
 mg:=mg
 base:=base
 A:=A.deeper (envOfC qual scope s.heap.objs.size f cd)
 N:=N
 s₀:=s
 H₀:=H
 env:=envOfC qual scope s.heap.objs.size f cd
 outer:=outer
 stack:=envOfC qual scope s.heap.objs.size f cd::outer
 ex:=[]
 calm:=M
 fn:=λ_=>M
 pn:=[]
 xe:=λe s'=>cR (model P w) (A.deeper (envOfC qual scope s.heap.objs.size f cd)) (leaving (envOfC qual scope s.heap.objs.size f cd) e) (λ_ s''=>CX outer H s E e s'') (λe' s''=>CX outer H s E e' s'') s'
theorem sG{a:cW}{n:Nat}{x:Str}(h:a.names.lookup x=Z .cell):∃c,(cellsFrom n a.names []).lookup x=Z c:=by
 have q:=PySem.W.cellsFrom_some a.names n [] (.inl h);exact aN.mp q
theorem wH{CX:xm}{P:cK}{w:cN}{K:Fg1}{mg:Str->Option cH}{base:cT}{N ps:List Str}{g:Str}{scope:cW}{f:cJ}{B:cH}{A:cM}{d:List Env}{s s1:cI}{H:Hp}{E:XK}{us:List cH}{vs:List V}(S:gH N ps scope)(hd:A.handled=none)(j:Dq P w K mg base A d s H)(L:vs.length=ps.length)(r:dM vs us)(x:InCallC s s.heap.objs.size (bindL (envOfC g scope s.heap.objs.size f B).kindOf (ps.zip us) fun _=>none) (cellsFrom (s.heap.objs.size+1) scope.names []) (bindC (envOfC g scope s.heap.objs.size f B).kindOf (ps.zip us) fun _=>none) s1):
  Inv (mO CX P w K mg base N g scope f B A d s H E) [] (start N vs) H s1:=by
 have I:ps.length<=N.length:=by have:=congrArg List.length S.pre;rw[aO]at this;lia
 obtain⟨h1,tk,rfl,C⟩:=x.done;have l:∀b:cJ,b∉(mO CX P w K mg base N g scope f B A d s H E).ex:=λb z=>absurd (show b∈([]:List cJ)from z) (by simp);refine⟨⟨j.mod,S.kind,O,O,nR1 _,λy z c h1 h2=>?_,λy m=>?_,λy c _ h=>?_,λ_=>hd,Around.frames_deeper j.frames,.inr ⟨O,O⟩,λb z=>absurd z (l b),j.bs,j.bsz,λb _ _=>l b,λb z=>absurd z (l b),j.funs,j.frf⟩,
  rfl,j.bare,Un.kept C,⟨_,x.toInCall.ns,λi y v h1 h2 am=>?_⟩,λy c h=>⟨_,x.cell y c h⟩,j.hok.fresh (nR1 _),λy c h=>?_,λp t=>absurd (show p∈([]:List (cJ×Obj))from t) (by simp),j.hok.kept C,?_⟩
 ·exact name_of_addr x.apart (PySem.mem_of_lookup h1) (PySem.mem_of_lookup h2)
 ·have m:scope.names.lookup y=Z .cell\/scope.names.lookup y=Z .free:=m;rcases m with m|m
  ·exact sG m
  ·exact absurd O (S.nofree _ (PySem.mem_of_lookup m))
 ·exact Nat.le_of_lt (x.above y c (PySem.mem_of_lookup h))
 ·have hi:i<vs.length:=by
   unfold start at h2;by_cases hi:i<vs.length
   ·exact hi
   ·rw[gR1 (by simpa using hi)]at h2;rw[aP]at h2;split at h2<;>cases h2
  have F:vs[i]?=Z v:=by
   unfold start at h2;rw[gL1 (by simpa using hi),gP1]at h2;cases e:vs[i]? with
   |none=>rw[e]at h2;cases h2
   |some a=>rw[e]at h2;cases h2;rfl
  obtain⟨u,D,G⟩:=r.get F;have t:ps[i]?=Z y:=by
   rw[<- S.pre,aQ (by lia)];exact h1
  have o:ps.Nodup:=by rw[<- S.pre];exact S.nd.sublist (List.take_sublist _ _)
  refine⟨u,G,?_⟩;rcases S.par y (gM1 t)with k|k
  ·exact .inl ⟨k,pz o t D k⟩
  ·obtain⟨c,e⟩:=sG (n:=s.heap.objs.size+1) k;refine .inr ⟨.inl k,c,e,?_⟩;have q:=x.cell y c e;rw[pB o t D (by show scope.names.lookup y≠_;rw[k];decide)]at q;exact q
 ·exact j.hok.fresh (Nat.le_of_lt (x.above y c (PySem.mem_of_lookup h)))
 ·unfold start;show _=N.length;rw[lA1,lM1,lR1];lia
theorem IL{CX:xm}{P:cK}{w:cN}{K:Fg1}{mg:Str->Option cH}{base:cT}{k:Nat}{f:cJ}{name c:Str}{params:Arguments}{g:List cV}{scope:cW}{T kV z ao d ct oc:cH}{L od:Option cJ}{C:Array (Option cH)}{N ps:List Str}{sp:Sp}(U:K.lookup f=some ⟨oc,od,.func (wF1 name c params g scope T kV z ao L d ct),C⟩)(hcd:wC1 K d c=true)(S:gH N ps scope)(len:∀vs H Q E,sp vs H Q E->vs.length=ps.length)(i:∀(A:cM) (a:List Env) (s:cI) (H:Hp) (vs:List V) (Q:VK) (E:XK),gf k (A.deeper (envOfC c scope s.heap.objs.size f d))->sp vs H Q E ->
   ∃t,s9 (mO CX P w K mg base N c scope f d A a s H E) g t/\t {nx:=λ_ H'=>Q .non H',rt:=Q} (start N vs) H):
  lY P w K mg base CX (k+1) f (wF1 name c params g scope T kV z ao L d ct) ps sp:=by
 refine⟨len,λA a s H R X vs Q E D B hb r m=>?_⟩;have hl:=len _ _ _ _ m;have ar:K.In s.heap:=B.mod.kin.keeps λb o e=>(B.bs b o e).1;have G:s.heap.NoLimit:=B.mod.nolimit.keeps λb o e=>(B.bs b o e).1;have j:∀y∈ps.zip X,scope.names.lookup y.1=Z .local\/(scope.names.lookup y.1=Z .cell/\((cellsFrom (s.heap.objs.size+1) scope.names []).lookup y.1).isSome=M):=λ⟨n,v⟩ hy=>by
  rcases S.par n (List.of_mem_zip hy).1 with q|q
  ·exact .inl q
  ·exact .inr ⟨q,PySem.W.cellsFrom_some _ _ _ (.inl q)⟩
 refine codeAny_call_function D.depth (ar _ _ U) O S.co S.gen O (PySem.W.codeRec_of ar hcd) (hb _ _ _ _ ?_);refine wpAny_newFunctionEnv_cells S.kind j λenv W s1 x=>?_;subst W;refine⟨G.keeps x.toInCall.keep,codeAny_func ?_⟩;obtain⟨t,aq,hq⟩:=i A a s H vs Q E (D.deeper _) m;have I:Inv (mO CX P w K mg base N c scope f d A a s H E) [] (start N vs) H s1:=wH S D.hd B hl r x;refine wpAny_mono (aq [] s1 (start N vs) H _ I hq) (λwq s' l=>?_) λe s' l=>l;have p:∀{h:St} {H':Hp} {v:V} {u:cH},Inv (mO CX P w K mg base N c scope f d A a s H E) [] h H' s'->dt v u->Q v H'->CE a P w H s Q u s':=
  λ{h H' v u} am F q=>⟨v,H',am.os,am.bare,am.base,am.hok,F,q⟩
 cases wq with
 |ret u=>
  obtain⟨v,h,H',am,F,q⟩:=l;exact p am F q
 |next=>
  obtain⟨h,H',am,q⟩:=l;exact p (v:=V.non) (u:=Value.none) am O q
 |brk=>
  obtain⟨_,_,_,q⟩:=l;exact False.elim q
 |cont=>
  obtain⟨_,_,_,q⟩:=l;exact False.elim q
end L2
namespace L2
open PySem PySem.Spec PyProof.Rows
section
variable{X:Cx}{x:Str}{p pos:Pos}{e:Expr}{es:List Expr}{t:TA}{id T:String}{r:List V->Hp->VK->Prop}
def KC(r:List V->Hp->VK->Prop)(t:TA):TE:=fun σ H Q=>t σ H λvs H1=>r vs H1 Q
theorem k0 (hc:eK X (.builtin id) r)(hg:Gl X x)(hm:X.mg x=none)(hv:bootBuiltins x=some (.builtin id))(ha:PA X (e::es) t)(hn:x≠"__name__":=by decide)(hdb:(x == ("__debug__":Str))=false:=by decide)
  (he:cP (e::es) X.env=(J,eval e X.env)::cP es X.env:=by rfl) (hpl:(backTo pos (cP es X.env)).any (·.1)=J:=by rfl):PE X (.Call (.Name x p) (e::es) [] pos) (KC r t):=by
 intro ag s σ H Q I h;refine wpAny_Call_Name_kw (lI I hg hm hv ?_ hn hdb);exact PyProof.Rows.callWith_builtin1 (eR (ha pos ag s σ H _ I h) λc f ⟨vs,H1,b,a,d⟩=>hc ag f σ H1 vs c Q b a d) he hpl
theorem lB (hc:eK X (.type T) r)(hg:Gl X x)(hm:X.mg x=none)(hv:bootBuiltins x=some (.type T))(ha:PA X (e::es) t)(hn:x≠"__name__":=by decide)(hdb:(x == ("__debug__":Str))=false:=by decide)
  (he:cP (e::es) X.env=(J,eval e X.env)::cP es X.env:=by rfl) (hpl:(backTo pos (cP es X.env)).any (·.1)=J:=by rfl):PE X (.Call (.Name x p) (e::es) [] pos) (KC r t):=by
 intro ag s σ H Q I h;refine wpAny_Call_Name_kw (lI I hg hm hv ?_ hn hdb);exact PyProof.Rows.callWith_type1 (eR (ha pos ag s σ H _ I h) λc f ⟨vs,H1,b,a,d⟩=>hc ag f σ H1 vs c Q b a d) he hpl
end
end L2
namespace HT
open PySem PyProof.Rows
section
open PySem.SeqAt
open PySem.AutoSeq1 (wpAny_loadPart')
open PySem.MeetsSeq PySem.MeetsSeq2 PySem.MeetsSeq3
end
section
variable{prog:cK}{w:cN}{A:cM}{E:cH->cI->Prop}{s:cI}
theorem C8 {t b:cJ}{vs ws:List cH}{Q:cH->cI->Prop}(ht:IsTup s.heap t vs.toArray)(hb:IsTup s.heap b ws.toArray)(hv:vs≠[])
  (h1:ws=[]->Q (.ref t) s) (h2:ws≠[]->Q (.ref s.heap.objs.size) {s with heap:=s.heap.push {cls:=.type "tuple",data:=.seq (vs++ws).toArray}})
  (hsz:vs.length+ws.length<=cQ):cR (model prog w) A (binaryOp .Add (.ref t) (.ref b)) Q E s:=by
 obtain⟨⟨cls,dd,data,sl⟩,i,hc,n,k⟩:=id ht;obtain⟨⟨l,f,j,g⟩,a,d,m,c⟩:=id hb;simp only at hc k d c;subst hc k d c;have e:vs.toArray++ws.toArray=(vs++ws).toArray:=by simp
 by_cases h:ws=[]
 ·exact concat_meets ⟨_,i,rfl⟩ ⟨_,a,rfl⟩ noFill_tuple_add seq_tuple_add PySem.F.slot_tuple_add PySem.F.entry_tuple_add (PySem.F.args_tuple_add_2 _ _)
   (tuple_addW1 t b vs.toArray ws.toArray n m dd f sl g (by simpa using hv) (by simp[h])) ⟨i,a,h1 h⟩
 ·refine concat_meets ⟨_,i,rfl⟩ ⟨_,a,rfl⟩ noFill_tuple_add seq_tuple_add PySem.F.slot_tuple_add PySem.F.entry_tuple_add (PySem.F.args_tuple_add_2 _ _)
   (tuple_addW2 t b vs.toArray ws.toArray n m dd f sl g (by simpa using hv) (by simpa using h) (by rw[aJ,aJ];exact hsz)) ⟨i,a,?_⟩
  rw[e];exact h2 h
def sIx(n d:Nat):Option Int->Nat
 |none=>d
 |some v=>if v<0 then(v+(n:Int)).toNat else min v.toNat n
theorem yd(n d:Nat):sIx n d Y=d:=rfl
theorem Bk(n d k:Nat):sIx n d (Z (k:Int))=min k n:=by
 show(if(k:Int)<0 then((k:Int)+(n:Int)).toNat else min (k:Int).toNat n)=min k n;rw[aj (by lia),Int.toNat_natCast]
theorem EI(n d:Nat)(hd:d<=n)(o:Option Int):sIx n d o<=n:=by
 cases o with
 |none=>exact hd
 |some v=>
  show(if v<0 then(v+(n:Int)).toNat else min v.toNat n)<=n;by_cases a:v<0
  ·rw[ak a];lia
  ·rw[aj a];exact Nat.min_le_right _ _
theorem vW(v:Int)(n d:Nat):(if v<0 then max (v+(n:Int)) 0 else min v (n:Int))=((sIx n d (Z v):Nat):Int):=by
 show(if v<0 then max (v+(n:Int)) 0 else min v (n:Int))=(((if v<0 then(v+(n:Int)).toNat else min v.toNat n):Nat):Int);by_cases a:v<0
 ·simp only[ak a];lia
 ·simp only[aj a];lia
theorem uC(lo hi:Option Int)(n:Nat):Builtin.Slice.sliceAdjust lo hi 1 (n:Int)=(((sIx n 0 lo:Nat):Int),((sIx n n hi:Nat):Int)):=by
 have h1:¬ ((1:Int)<0):=by lia
 unfold Builtin.Slice.sliceAdjust;simp only[h1,if_false];refine Prod.ext ?_ ?_
 ·cases lo with
  |none=>rfl
  |some v=>exact vW v n 0
 ·cases hi with
  |none=>rfl
  |some v=>exact vW v n n
theorem tQ(i j:Nat):Builtin.Slice.slicePlaces (i:Int) (j:Int) 1=j-i:=by
 unfold Builtin.Slice.slicePlaces;have h1:(1:Int)>0:=by lia
 simp only[h1,if_true,Int.ediv_one];split<;>lia
theorem hU{v:cH}{o:Option Int}{Q:Option Int->cI->Prop}(p:IsPart v o)(h:Q o s):cR (model prog w) A (Builtin.Slice.slicePartIndex v) Q E s:=by
 cases p with
 |none=>exact slicePart_none h
 |int i t=>exact slicePart_int h
theorem iF{sl:cJ}{d c:cH}{lo hi:Option Int}{n:Nat}{Q:Int×Int×Nat->cI->Prop}(hs:s.heap.IsSliceOf sl d c .none)(pl:IsPart d lo)(f:IsPart c hi)(h:Q (((sIx n 0 lo:Nat):Int),1,sIx n n hi-sIx n 0 lo) s):cR (model prog w) A (Builtin.Slice.sliceApplied (.ref sl) (pure (n:Int))) Q E s:=by
 obtain⟨g,a,e,b⟩:=id hs;unfold Builtin.Slice.sliceApplied Builtin.Slice.sliceFields;refine wB1 (wB1 (wpAny_field a b (x:=d) O (wB1 (wpAny_field a b (x:=c) O (wB1 (wpAny_field a b (x:=.none) O (wP1 ?_)))))));refine wB1 (slicePart_none ?_);show cR _ _ (if((1:Int) == 0)=M then _ else _) _ _ s;rw[aj (by decide)];refine wB1 (hU pl (wB1 (hU f (wB1 (wP1 ?_)))));show cR _ _ (match Builtin.Slice.sliceAdjust lo hi 1 (n:Int)with|(lo,hi)=>pure (lo,(1:Int),Builtin.Slice.slicePlaces lo hi 1)) _ _ s;rw[uC lo hi n];show cR _ _ (pure (((sIx n 0 lo:Nat):Int),(1:Int),Builtin.Slice.slicePlaces ((sIx n 0 lo:Nat):Int) ((sIx n n hi:Nat):Int) 1)) _ _ s;rw[tQ];exact wP1 h
theorem yC(xs:Array cH)(i k:Nat):((af k).filterMap λ(m:Nat)=>xs[((i:Int)+(m:Int)*1).toNat]?).toArray=((xs.toList.drop i).take k).toArray:=by
 have e:(λ(m:Nat)=>xs[((i:Int)+(m:Int)*1).toNat]?)=λm=>xs[i+m]?:=by
  funext m
  have:((i:Int)+(m:Int)*1).toNat=i+m:=by lia
  rw[this]
 rw[e];have:=pick_run xs i k;rw[aR]at this;have a:((λx=>xs[x]?)∘λx=>i+x)=λm=>xs[i+m]?:=rfl;rw[a]at this;rw[this]
theorem lg {t sl:cJ}{items:Array cH}{g f:cH}{lo hi:Option Int}{Q:cH->cI->Prop}(ht:IsTup s.heap t items)(hs:s.heap.IsSliceOf sl g f .none)(pl:IsPart g lo)(j:IsPart f hi)
  (hw:¬ (sIx items.size 0 lo=0/\sIx items.size items.size hi=items.size))
  (h:Q (.ref s.heap.objs.size) {s with heap:=s.heap.push {cls:=.type "tuple",data:=.seq ((items.toList.drop (sIx items.size 0 lo)).take (sIx items.size items.size hi-sIx items.size 0 lo)).toArray}})
  (hsz:items.size<=cQ):cR (model prog w) A (getItem (.ref t) (.ref sl)) Q E s:=by
 have a:sizeOk (.seq ((items.toList.drop (sIx items.size 0 lo)).take (sIx items.size items.size hi-sIx items.size 0 lo)).toArray):=by
  show((items.toList.drop (sIx items.size 0 lo)).take (sIx items.size items.size hi-sIx items.size 0 lo)).toArray.size<=cQ;rw[aJ,aO,List.length_drop,aH];omega
 have n:sIx items.size items.size hi<=items.size:=EI _ _ (nR1 _) hi;obtain⟨i,d,b,k⟩:=id hs;have c:s.TypeIs (.ref sl) "slice":=⟨i,d,b⟩;unfold getItem
 try with_reducible refine wpAny_holding ?_
 first|refine wB1 (wP1 ?_)|skip
 refine wB1 (wpAny_sequenceKey ht.typeIs (by decide) ?_);refine wB1 (wpAny_callSpecial?_slot (name:=Str.ofString "__getitem__") ht.typeIs PyProof.Rows.slot_tuple_getitem
  (wE1 PyProof.Rows.slot_tuple_getitem ht.typeIs entry_tuple_getitem ?_ (args_tuple_getitem _ _)))
 show cR _ _ (Builtin.Tuple.tupleItemsOf (.ref t) >>= _) _ _ s;refine wB1 (tupleItemsOf_ ht ?_);refine wB1 (wpAny_typeOf c ?_);rw[ak (by decide)];refine wB1 (iF hs pl j ?_);have e:¬ ((((sIx items.size 0 lo:Nat):Int) == 0&&(1:Int) == 1&&(sIx items.size items.size hi-sIx items.size 0 lo) == items.size)=M):=by
  intro q;rw[bA1,bA1]at q;have o:((sIx items.size 0 lo:Nat):Int)=0:=eq_of_beq q.1.1;have l:sIx items.size items.size hi-sIx items.size 0 lo=items.size:=eq_of_beq q.2;exact hw ⟨by omega,by omega⟩
 show cR _ _ (if(((sIx items.size 0 lo:Nat):Int) == 0&&(1:Int) == 1&&(sIx items.size items.size hi-sIx items.size 0 lo) == items.size)=M then _ else _) _ _ s;rw[aj e,yC]
 first
  |exact wB1 (m:=Builtin.Tuple.tupleExact _) (wO1 (wP1 ⟨_,rfl,wP1 h⟩) a)
  |exact wB1 (m:=Builtin.Tuple.tupleExact _) (wO1 (wB1 (wP1 (wP1 ⟨_,rfl,wP1 h⟩))) a)
  |exact wB1 (wB1 (m:=Builtin.Tuple.tupleExact _) (wO1 (wP1 (wP1 ⟨_,rfl,wP1 h⟩)) a))
  |exact wB1 (wB1 (m:=Builtin.Tuple.tupleExact _) (wO1 (wP1 ⟨_,rfl,wP1 h⟩) a))
end
end HT
namespace L2
open PySem PySem.Spec PyProof.Rows
abbrev TO:=St->Hp->(Option Int->Hp->Prop)->Prop
def PO(X:Cx)(e:Option Expr)(t:TO):Prop:=
 ∀(ag:List (cJ×Obj)) (s:cI) (σ:St) (H:Hp) (Q:Option Int->Hp->Prop),Inv X ag σ H s->t σ H Q ->
  cR (model X.prog X.w) X.A (evalPart e X.env) (λu s'=>∃o H',Inv X ag σ H' s'/\IsPart u o/\Q o H') X.xe s
def Bd:TO:=λ_ H Q=>Q Y H
def Ht(t:TE):TO:=fun σ H Q=>t σ H λx H1=>∃i,x = .int i/\Q (Z i) H1
section
variable{X:Cx}{e:Expr}{te:TE}{lo hi:Option Expr}{tl th:TO}{pos p2:Pos}
theorem BE:PO X Y Bd:=by
 intro ag s σ H Q I h;rw[evalPart_none];exact wP1 ⟨Y,H,I,.none,h⟩
theorem BD(h:PE X e te):PO X (Z e) (Ht te):=by
 intro ag s σ H Q I b;rw[evalPart_some];refine eR (h ag s σ H _ I b) λu f ⟨x,H1,c,a,d⟩=>?_;obtain⟨i,rfl,q⟩:=d;obtain⟨t,rfl⟩:=a;exact⟨Z i,H1,c,.int i t,q⟩
def AW(X:Cx)(r:V->Option Int->Option Int->Hp->VK->Prop):Prop:=
 ∀(ag:List (cJ×Obj)) (s:cI) (σ:St) (H:Hp) (x:V) (v vl vu:cH) (lo hi:Option Int) (sl:cJ) (Q:VK),Inv X ag σ H s->dt x v->s.heap.IsSliceOf sl vl vu .none->IsPart vl lo->IsPart vu hi->r x lo hi H Q ->
  ∃T id,typeLookup (.type T) "__getitem__"=pure (Z (.builtin id))/\s.TypeIs v T/\cR (model X.prog X.w) X.A (getItem v (.ref sl)) (EP X ag σ Q) X.xe s
theorem AW.or{r e:V->Option Int->Option Int->Hp->VK->Prop}(h:AW X r)(h':AW X e):AW X (λx lo hi H Q=>r x lo hi H Q\/e x lo hi H Q):=by
 intro ag s σ H x v d b lo hi sl Q I f a pl c q;rcases q with q|q
 ·exact h ag s σ H x v d b lo hi sl Q I f a pl c q
 ·exact h' ag s σ H x v d b lo hi sl Q I f a pl c q
def Ld(r:V->Option Int->Option Int->Hp->VK->Prop)(te:TE)(tl th:TO):TE:=fun σ H Q=>te σ H λx H1=>tl σ H1 λl H2=>th σ H2 λu H3=>r x l u H3 Q
theorem yE{r:V->Option Int->Option Int->Hp->VK->Prop}(hr:AW X r)(he:PE X e te)(p:PO X lo tl)(i:PO X hi th):PE X (.Subscript e (.Slice lo hi Y p2) pos) (Ld r te tl th):=by
 intro ag s σ H Q I h;refine Subscript_ (eR (he ag s σ H _ I h) λv D ⟨x,H1,t,z,y⟩=>?_);refine wpAny_Slice (eR (p ag D σ H1 _ t y) λc C ⟨l,H2,m,pl,A⟩=>eR (i ag C σ H2 _ m A) λd a ⟨u,f,g,B,j⟩=>?_);rw[evalPart_none];refine wP1 ?_;have w:Inv X ag σ f {a with heap:=a.heap.push {cls:=.type "slice",data:=.fields #[c,d,.none]}}:=g.kept (t':=a.toks) λb E q=>hP1 _ q;obtain⟨T,id,n,k,o⟩:=hr ag {a with heap:=a.heap.push {cls:=.type "slice",data:=.fields #[c,d,.none]}} σ f x v c d l u a.heap.objs.size Q w z (Heap.IsSliceOf.new ..) pl B j;show cR (model X.prog X.w) X.A (subscriptTail e (.Slice lo hi Y p2) v (.ref a.heap.objs.size)) (EP X ag σ Q) X.xe {a with heap:=a.heap.push {cls:=.type "slice",data:=.fields #[c,d,.none]}};exact tail_any (ops:=[.ref a.heap.objs.size,v]) k n o (by with_unfolding_all rfl)
def sE(xs:List V)(lo hi:Option Int):List V:=(xs.drop (HT.sIx xs.length 0 lo)).take (HT.sIx xs.length xs.length hi-HT.sIx xs.length 0 lo)
theorem mq(xs:List V)(lo hi:Option Int):(sE xs lo hi).length<=xs.length:=by
 unfold sE;rw[aO,List.length_drop];lia
def JS(K:Fg1):V->Option Int->Option Int->Hp->VK->Prop:=λx lo hi H Q=>∃a xs,x = .ref a/\jt K H a xs /\
 ¬ (HT.sIx xs.length 0 lo=0/\HT.sIx xs.length xs.length hi=xs.length) /\ ∀p,H p=Y->Q (.ref p) (upd H p (.tup (sE xs lo hi)))
theorem Ez:AW X (JS X.K):=by
 intro ag s σ H x v p m lo hi sl Q I l g pl j h;obtain⟨a,xs,rfl,k,i,q⟩:=h;cases l;obtain⟨d,r,e,f⟩:=I.tuple k;have c:d.toArray.size=xs.length:=by rw[aJ];exact r.length.symm
 refine⟨"tuple",_,PyProof.Rows.slot_tuple_getitem.lookup,e.typeIs,?_⟩;refine HT.lg e g pl j (by rw[c];exact i) ?_ (by rw[c];exact f);rw[c];refine⟨.ref s.heap.objs.size,_,I.laid (t':=s.toks) (o:=.tup (sE xs lo hi)) (λb n q=>hP1 _ q) (nR1 _) ?_,O,q _ (I.hok.fresh (nR1 _))⟩;exact⟨aB (mq xs lo hi) f,_,(r.drop (HT.sIx xs.length 0 lo)).take (HT.sIx xs.length xs.length hi-HT.sIx xs.length 0 lo),IsTup.new _ _⟩
def HN(K:Fg1):R2:=λx y H Q=>∃a b xs ys,x = .ref a/\y = .ref b/\jt K H a xs/\jt K H b ys/\xs≠[]/\xs.length+ys.length<=cQ /\
 (ys=[]->Q (.ref a) H)/\(ys≠[] -> ∀p,H p=Y->Q (.ref p) (upd H p (.tup (xs++ys))))
theorem dM.nil_iff{xs:List V}{us:List cH}(r:dM xs us):us=[]↔xs=[]:=by
 cases r with
 |nil=>simp
 |cons _ _=>simp
theorem BU:fJ X (binaryOp .Add) (HN X.K):=by
 intro ag s σ H x y v u Q I p f h;obtain⟨a,b,xs,ys,rfl,rfl,l,j,m,e,n,g⟩:=h;cases p;cases f;obtain⟨k,c,i,_⟩:=I.tuple l;obtain⟨d,r2,p2,_⟩:=I.tuple j;refine HT.C8 i p2 (λz=>m (c.nil_iff.mp z)) (λz=>⟨.ref a,H,I,O,n (r2.nil_iff.mp z)⟩) (λz=>?_) (by rw[<- c.length,<- r2.length];exact e);refine⟨.ref s.heap.objs.size,_,I.laid (t':=s.toks) (o:=.tup (xs++ys)) (λb r q=>hP1 _ q) (nR1 _) ?_,O,g (λw=>z (r2.nil_iff.mpr w)) _ (I.hok.fresh (nR1 _))⟩;exact⟨by rw[lA1];exact e,_,c.append r2,IsTup.new _ _⟩
end
end L2
namespace L2
open PySem PySem.Spec PyProof.Rows
def sX(n:Nat)(i:Int):Option Nat:=if 0<=i then(if i<n then Z i.toNat else Y)else if-(n:Int)<=i then Z (i+n).toNat else Y
def pE{α:Type}(xs:List α)(i:Int):Option α:=(sX xs.length i).bind λj=>xs[j]?
theorem vB{n:Nat}{i:Int}{j:Nat}(h:sX n i=Z j):seqIndex? i n=Z j/\j<n /\ -(n:Int)<=i/\i<n:=by
 unfold sX at h;by_cases a:0<=i
 ·rw[ak a]at h;by_cases h1:i<n
  ·rw[ak h1]at h;have e:i.toNat=j:=Option.some.inj h;exact⟨by rw[seqIndex_of a h1,e],by lia,by lia,h1⟩
  ·rw[aj h1]at h;cases h
 ·rw[aj a]at h;by_cases h1: -(n:Int)<=i
  ·rw[ak h1]at h;have e:(i+n).toNat=j:=Option.some.inj h;exact⟨by rw[seqIndex_neg (by lia) h1,e],by lia,h1,by lia⟩
  ·rw[aj h1]at h;cases h
theorem vZ{α:Type}{xs:List α}{i:Int}{v:α}(h:pE xs i=Z v):∃j,seqIndex? i xs.length=Z j/\xs[j]?=Z v/\j<xs.length /\ -(xs.length:Int)<=i/\i<xs.length:=by
 unfold pE at h;cases e:sX xs.length i with
 |none=>rw[e]at h;cases h
 |some j=>
  rw[e]at h;obtain⟨h1,h2,b,a⟩:=vB e;exact⟨j,h1,h,h2,b,a⟩
theorem Dg{α:Type}{xs:List α}{j:Nat}{v:α}(h:xs[j]?=Z v):pE xs (j:Int)=Z v:=by
 have a:j<xs.length:=(gE1.mp h).1;have e:sX xs.length (j:Int)=Z j:=by
  unfold sX;rw[ak (by lia),ak (by lia)];simp
 unfold pE;rw[e];exact h
theorem AB{α:Type}(xs:List α)(v:α):pE (xs++[v]) (-1)=Z v:=by
 have a:(xs++[v]).length=xs.length+1:=by simp
 have e:sX (xs++[v]).length (-1)=Z xs.length:=by
  unfold sX;rw[a,aj (by decide),ak (by lia)]
  congr 1
  lia
 unfold pE;rw[e];show(xs++[v])[xs.length]?=Z v;simp
def na(b:Expr):Prop:=∀o i,subscripted b J o i=operate [o,i] (getItem o i)
def D4(X:Cx)(r:R2):Prop:=
 ∀(value slice:Expr) (ag:List (cJ×Obj)) (s:cI) (σ:St) (H:Hp) (x y:V) (v u:cH) (Q:VK),Inv X ag σ H s->dt x v->dt y u->r x y H Q ->
  subscripted slice J v u=operate [v,u] (getItem v u)->cR (model X.prog X.w) X.A (subscriptTail value slice v u) (EP X ag σ Q) X.xe s
def He(X:Cx)(id:String)(r:V->List V->Hp->VK->Prop):Prop:=
 ∀(ag:List (cJ×Obj)) (s:cI) (σ:St) (H:Hp) (x:V) (xs:List V) (v:cH) (us:List cH) (Q:VK),Inv X ag σ H s->dt x v->dM xs us->r x xs H Q ->
  cR (model X.prog X.w) X.A (call (.builtin id) (v::us)) (EP X ag σ Q) X.xe s
section
variable{X:Cx}{a b:Expr}{ta tb:TE}{pos:Pos}
theorem HX{r:R2}(hr:D4 X r)(ha:PE X a ta)(hb:PE X b tb)(hs:na b):PE X (.Subscript a b pos) (Hu r ta tb):=by
 intro ag s σ H Q I h;exact Subscript_ (GW ha hb I h λv u e x y H2 d f c q=>hr a b ag e σ H2 x y v u Q d f c q (hs _ _))
def JW(K:Fg1):R2:=λx y H Q=>∃p xs i v,x = .ref p/\y = .int i/\lv K H p xs/\pE xs i=Z v/\Q v H
def JV(K:Fg1):R2:=λx y H Q=>∃p xs i v,x = .ref p/\y = .int i/\jt K H p xs/\pE xs i=Z v/\Q v H
theorem Cy:D4 X (JW X.K):=by
 intro value e ag s σ H x y v u Q I B l h f;obtain⟨p,xs,i,z,rfl,rfl,m,A,q⟩:=h;cases B;obtain⟨t,rfl⟩:=l;obtain⟨d,r,pl,F⟩:=I.list m;obtain⟨j,h1,h2,E,o,n⟩:=vZ A;obtain⟨w,k,b⟩:=r.get h2;have C:=r.length;have D:=lH;have a:EP X ag σ Q w s:=⟨z,H,I,b,q⟩;by_cases g:0<=i
 ·have c:i.toNat=j:=by
   rw[seqIndex_of g n]at h1;exact Option.some.inj h1
  exact item_listR pl.isList g (by lia) (by rw[c];simpa using k) a f
 ·have c:(i+(d.toArray.size:Int)).toNat=j:=by
   rw[seqIndex_neg (by lia) o]at h1;rw[aJ,<- C];exact Option.some.inj h1
  exact subscriptTail_builtinR (x:=w) pl.isList.typeIs slot_list_getitem.lookup
   (wpAny_getItem_list_neg (Q:=λr s'=>r=w/\EP X ag σ Q r s') pl.isList (by lia) (by rw[aJ]<;>lia) (by lia) (by rw[c];simpa using k) ⟨O,a⟩) f
theorem ix_tup:D4 X (JV X.K):=by
 intro value c ag s σ H x y v u Q I m d h e;obtain⟨p,xs,i,z,rfl,rfl,f,l,q⟩:=h;cases m;obtain⟨t,rfl⟩:=d;obtain⟨k,r,pl,D⟩:=I.tuple f;obtain⟨j,h1,h2,C,B,o⟩:=vZ l;obtain⟨w,g,a⟩:=r.get h2;have n:=r.length;have A:=lH;have b:EP X ag σ Q w s:=⟨z,H,I,a,q⟩;exact subscriptTail_builtinR (x:=w) pl.typeIs slot_tuple_getitem.lookup
  (getItem_tuple (j:=j) (Q:=λr s'=>r=w/\EP X ag σ Q r s') pl (by lia) (by lia) (by rw[aJ,<- n];exact h1) (by simpa using g) ⟨O,b⟩) e
theorem ua(its:List cH)(n j:Nat)(u:cH):Obj.mapSeq (·.setIfInBounds j u) {cls:=.type "list",data:=.seq its.toArray n}={cls:=.type "list",data:=.seq (its.set j u).toArray n}:=by
 simp[Obj.mapSeq]
theorem Inv.lst{ag:List (cJ×Obj)}{σ:St}{H:Hp}{s:cI}{p:cJ}{xs:List V}(I:Inv X ag σ H s)(h:H p=some (.lst xs)):
  ∃(its:List cH) (n:Nat),dM xs its/\s.heap.get? p=Z {cls:=.type "list",data:=.seq its.toArray n}/\xs.length<=cQ:=by
 obtain⟨z,its,n,r,e⟩:=I.hok p _ h;exact⟨its,n,r,e,z⟩
theorem Inv.lstUpd {ag:List (cJ×Obj)}{σ:St}{H:Hp}{s:cI}{p:cJ}{xs ys:List V}{its its':List cH}{n n':Nat}{f:Obj->Obj}(I:Inv X ag σ H s)(h:H p=some (.lst xs))
  (ho:s.heap.get? p=Z {cls:=.type "list",data:=.seq its.toArray n}) (hf:f {cls:=.type "list",data:=.seq its.toArray n}={cls:=.type "list",data:=.seq its'.toArray n'}) (r:dM ys its') (hz:ys.length<=cQ) (t:Nat):
  Inv X ag σ (upd H p (.lst ys)) {s with heap:=s.heap.update p f,toks:=t}:=by
 have e:(s.heap.update p f).get? p=Z {cls:=.type "list",data:=.seq its'.toArray n'}:=by
  rw[hW1 f ho (by rw[hf]<;>rfl),hf]
 refine I.write (x:=p) (e:=p) (by rw[h];trivial) (.inl O) (λb u a q=>(Heap.get?_update_other _ _ (Ne.symm a)).trans q) ⟨_,e⟩ ?_;exact⟨hz,its',n',r,e⟩
def HL:V->V->V->Hp->(Hp->Prop)->Prop:=λo i v H Q=>∃p xs k j,o = .ref p/\i = .int k/\H p=Z (.lst xs)/\sX xs.length k=Z j/\Q (upd H p (.lst (xs.set j v)))
theorem x9:uJ X HL:=by
 intro ag s σ H o i v B D u Q I w z y h;obtain⟨p,xs,k,j,rfl,rfl,g,x,q⟩:=h;cases w;obtain⟨t,rfl⟩:=z;obtain⟨a,n,r,c,A⟩:=I.lst g;obtain⟨h1,h2,m,l⟩:=vB x;have d:=r.length;have C:=lH;have e:Inv X ag σ (upd H p (.lst (xs.set j v))) {s with heap:=s.heap.update p (Obj.mapSeq (·.setIfInBounds j u))}:=
  I.lstUpd g c (ua a n j u) (r.set y j) (by rw[aS];exact A) s.toks
 by_cases f:0<=k
 ·have b:k.toNat=j:=by
   rw[seqIndex_of f l]at h1;exact Option.some.inj h1
  exact PySem.W.ki_setAt c f (by lia) (by rw[aJ,<- d];exact l) (by rw[b];exact⟨_,e,q⟩)
 ·have b:(k+(a.toArray.size:Int)).toNat=j:=by
   rw[seqIndex_neg (by lia) m]at h1;rw[aJ,<- d];exact Option.some.inj h1
  exact PySem.W.ki_setBack c (by lia) (by rw[aJ,<- d];exact m) (by lia) (by rw[b];exact⟨_,e,q⟩)
theorem pP(lo hi:Option Int)(n:Nat):(sliceBounds lo hi Y n).1=((HT.sIx n 0 lo:Nat):Int)/\(sliceBounds lo hi Y n).2.1=((HT.sIx n n hi:Nat):Int)/\(sliceBounds lo hi Y n).2.2=1:=by
 refine⟨?_,?_,O⟩
 ·cases lo with
  |none=>simp[sliceBounds,HT.sIx]
  |some i=>
   simp only[sliceBounds,HT.sIx,Option.getD_none,show(1:Int)>0 by decide,if_true];by_cases h:i<0
   ·simp only[h,if_true]<;>lia
   ·simp only[h,if_false]<;>lia
 ·cases hi with
  |none=>simp[sliceBounds,HT.sIx]
  |some i=>
   simp only[sliceBounds,HT.sIx,Option.getD_none,show(1:Int)>0 by decide,if_true];by_cases h:i<0
   ·simp only[h,if_true]<;>lia
   ·simp only[h,if_false]<;>lia
theorem oD(its:List cH)(lo hi:Option Int):slicePick its.toArray lo hi Y=((its.drop (HT.sIx its.length 0 lo)).take (HT.sIx its.length its.length hi-HT.sIx its.length 0 lo)).toArray:=by
 obtain⟨h1,h2,a⟩:=pP lo hi its.toArray.size;unfold slicePick;rw[h1,h2,a];simp only[sliceRange_one,pick_run,aJ]<;>rfl
def JT(K:Fg1):V->Option Int->Option Int->Hp->VK->Prop:=λx lo hi H Q=>∃a xs,x = .ref a/\lv K H a xs /\ ∀p,H p=Y->Q (.ref p) (upd H p (.lst (sE xs lo hi)))
theorem Bi:AW X (JT X.K):=by
 intro ag s σ H x v n l lo hi sl Q I j e pl f h;obtain⟨a,xs,rfl,i,q⟩:=h;cases j;obtain⟨g,r,d,k⟩:=I.list i;have c:=r.length;refine⟨"list",_,slot_list_getitem.lookup,d.isList.typeIs,?_⟩;refine wpAny_getItem_list_slice d.isList e pl f .none (by simp) ?_ (by rw[aJ]<;>lia);rw[oD,<- c];refine⟨.ref s.heap.objs.size,_,I.laid (t':=s.toks) (o:=.lst (sE xs lo hi)) (λb m q=>hP1 _ q) (nR1 _) ?_,O,q _ (I.hok.fresh (nR1 _))⟩;exact⟨aB (mq xs lo hi) k,_,0,(r.drop (HT.sIx xs.length 0 lo)).take (HT.sIx xs.length xs.length hi-HT.sIx xs.length 0 lo),hS1 _ O⟩
def ji:V->Bool
 | .non=>M
 | .bl _=>M
 | .int _=>M
 | .str _=>M
 |_=>J
def sY:V->V->Bool
 | .non,.non=>M
 | .bl a,.bl b=>a == b
 | .bl a,.int b=>(if a then 1 else 0) == b
 | .int a,.bl b=>a == (if b then 1 else 0)
 | .int a,.int b=>a == b
 | .str a,.str b=>a == b
 |_,_=>J
theorem kG{A:cM}{s:cI}{y x:V}{u v:cH}(e:dt y u)(c:dt x v)(f:ji y=M)(fx:ji x=M):SeqAt.EqAt A s u v (sY y x):=by
 cases y with
 |non=>
  cases e;cases x with
  |non=>cases c;exact SeqAt.EqAt.same _
  |bl b=>cases c;exact SeqAt.EqAt.none_bool b
  |int b=>obtain⟨t,rfl⟩:=c;exact SeqAt.EqAt.none_int b t
  |str b=>obtain⟨t,rfl⟩:=c;exact SeqAt.EqAt.none_str b t
  |_=>exact absurd (show J=M from fx) aI
 |bl a=>
  cases e;cases x with
  |non=>cases c;exact SeqAt.EqAt.bool_none a
  |bl b=>cases c;exact SeqAt.EqAt.bool_bool a b
  |int b=>obtain⟨t,rfl⟩:=c;exact SeqAt.EqAt.bool_int a b t
  |str b=>obtain⟨t,rfl⟩:=c;exact SeqAt.EqAt.bool_str a b t
  |_=>exact absurd (show J=M from fx) aI
 |int a=>
  obtain⟨d,rfl⟩:=e;cases x with
  |non=>cases c;exact SeqAt.EqAt.int_none a d
  |bl b=>cases c;exact SeqAt.EqAt.int_bool a d b
  |int b=>obtain⟨t,rfl⟩:=c;exact SeqAt.EqAt.int_int a d b t
  |str b=>obtain⟨t,rfl⟩:=c;exact SeqAt.EqAt.int_str a d b t
  |_=>exact absurd (show J=M from fx) aI
 |str a=>
  obtain⟨d,rfl⟩:=e;cases x with
  |non=>cases c;exact SeqAt.EqAt.str_none a d
  |bl b=>cases c;exact SeqAt.EqAt.str_bool a d b
  |int b=>obtain⟨t,rfl⟩:=c;exact SeqAt.EqAt.str_int a d b t
  |str b=>obtain⟨t,rfl⟩:=c;exact SeqAt.EqAt.str_str a d b t
  |_=>exact absurd (show J=M from fx) aI
 |_=>exact absurd (show J=M from f) aI
theorem qy:eK X (.builtin "len") (λxs H Q=>∃p ys,xs=[.ref p]/\(lv X.K H p ys\/jt X.K H p ys)/\Q (.int ys.length) H):=by
 intro ag s σ H xs i Q I r h;obtain⟨p,ys,rfl,b,q⟩:=h;obtain⟨u,rfl,e⟩:=hQ r;cases e;have g:=lH;rcases b with b|b
 ·obtain⟨c,d,pl,f⟩:=I.list b;have a:=d.length;exact Calls.call_len_list pl.isList (by simp only[aJ]<;>lia) ⟨.int ys.length,H,I.tok _,⟨s.toks+1,by rw[aJ,a]⟩,q⟩
 ·obtain⟨c,d,pl,f⟩:=I.tuple b;have a:=d.length;exact len_tuple pl (by simp only[aJ]<;>lia) ⟨.int ys.length,H,I.tok _,⟨s.toks+1,by rw[aJ,a]⟩,q⟩
theorem qx:eK X (.builtin "len") (λxs H Q=>∃z,xs=[.str z]/\z.length<=cQ/\Q (.int z.length) H):=by
 intro ag s σ H xs b Q I r h;obtain⟨z,rfl,c,q⟩:=h;obtain⟨u,rfl,t,rfl⟩:=hQ r;have a:=lH;exact len_str (by lia) ⟨.int z.length,H,I.tok _,⟨_,O⟩,q⟩
theorem qw:eK X (.type "list") (λxs H Q=>∃p ys,xs=[.ref p]/\(lv X.K H p ys\/jt X.K H p ys) /\ ∀l,H l=Y->Q (.ref l) (upd H l (.lst ys))):=by
 intro ag s σ H xs w Q I r h;obtain ⟨p,ys,rfl,f,q⟩:=h;obtain ⟨u,rfl,v⟩:=hQ r;cases v;have i:∀ (a:List cH),dM ys a->ys.length<=cQ -> ∀ (h':cT) (d:Nat),(∀ b o',s.heap.get? b=some o'->h'.get? b=some o') ->
   h'.get? s.heap.objs.size=Z {cls:=.type "list",dict:=Y,data:=.seq a.toArray d,slots:= #[]}->EP X ag σ Q (.ref s.heap.objs.size) {s with heap:=h'}:=λa c k h' d g e=>
  ⟨.ref s.heap.objs.size,_,I.laid (t':=s.toks) g (nR1 _) (show ew X.prog X.w _ h' _ (.lst ys)from⟨k,a,d,c,e⟩),O,q _ (I.hok.fresh (nR1 _))⟩
 rcases f with f|f
 ·obtain⟨a,c,pl,k⟩:=I.list f;have j:=c.length;obtain⟨o,t,hc,n,m⟩:=pl.isList;exact call_list_seq p (.inl O) t hc m (λh' d g e=>i a c k h' d g e) (by simp only[aJ]<;>lia)
 ·obtain⟨a,c,pl,k⟩:=I.tuple f;have j:=c.length;obtain⟨o,t,hc,n,m⟩:=pl;exact call_list_seq p (.inr O) t hc m (λh' d g e=>i a c k h' d g e) (by simp only[aJ]<;>lia)
theorem oK:eK X (.type "tuple") (λxs H Q=>∃p ys,xs=[.ref p]/\((lv X.K H p ys /\ ∀l,H l=Y->Q (.ref l) (upd H l (.tup ys)))\/(jt X.K H p ys/\Q (.ref p) H))):=by
 intro ag s σ H xs n Q I r h;obtain⟨p,ys,rfl,h⟩:=h;obtain⟨u,rfl,m⟩:=hQ r;cases m;rcases h with⟨c,q⟩|⟨c,q⟩
 ·obtain ⟨a,d,pl,i⟩:=I.list c;have g:=d.length;refine call_tuple_list pl.isList (fun h' k=>?_) (by simp only [aJ]<;>lia);have f:Inv X ag σ H {s with heap:=h'}:=I.kept (t':=s.toks) k;have j:Inv X ag σ (upd H h'.objs.size (.tup ys)) {s with heap:=h'.push {cls:=.type "tuple",data:=.seq a.toArray}}:=
   f.laid (t':=s.toks) (λb o e=>hP1 _ e) (nR1 _) (show ew X.prog X.w _ _ _ (.tup ys)from⟨i,a,d,IsTup.new _ _⟩)
  exact⟨.ref h'.objs.size,_,j,O,q _ (f.hok.fresh (nR1 _))⟩
 ·obtain⟨a,d,pl,i⟩:=I.tuple c;exact call_tuple_same pl ⟨.ref p,H,I,O,q⟩
def Kz(K:Fg1)(T:String)(x:V)(H:Hp):Prop:=match x with
 | .str _=>T="str"
 | .int _=>T="int"
 | .ref p=>(T="list" /\ ∃ xs,lv K H p xs)\/(T="tuple" /\ ∃ o,K.lookup p=some o/\o.cls = .type "tuple"/\o.dict=none) \/
   (T="dict"/\((∃kvs,H p=Z (.dK kvs)) \/ ∃kvs,H p=Z (.dT kvs)))\/(T="set" /\ ∃S n,H p=Z (.set S n))
 |_=>False
theorem Ej{ag:List (cJ×Obj)}{σ:St}{H:Hp}{s:cI}{T:String}{x:V}{v:cH}(I:Inv X ag σ H s)(r:dt x v)(ty:Kz X.K T x H):
  s.TypeIs v T /\ ∀a,v = .ref a -> ∃g,s.heap.get? a=Z g/\g.dict=Y:=by
 cases x with
 |str z=>
  obtain⟨t,rfl⟩:=r;cases(show T="str" from ty);exact⟨typeIs_str s z t,λ_ e=>nomatch e⟩
 |int i=>
  obtain⟨t,rfl⟩:=r;cases(show T="int" from ty);exact⟨typeIs_int s i t,λ_ e=>nomatch e⟩
 |ref p=>
  cases r;rcases ty with⟨rfl,xs,h⟩|⟨rfl,o,b,hc,d⟩|⟨rfl,b⟩|⟨rfl,S,n,b⟩
  ·obtain⟨j,_,pl,_⟩:=I.list h;refine⟨pl.isList.typeIs,λa e=>?_⟩;cases e;obtain⟨o,n,e,c,d,_⟩:=pl;exact⟨o,e,d⟩
  ·refine⟨⟨o,I.kIn p o b,hc⟩,λa e=>?_⟩;cases e;exact⟨o,I.kIn _ o b,d⟩
  ·have z:∃ o,s.heap.get? p=some o/\o.ExactDict:=by
    rcases b with⟨kvs,b⟩|⟨kvs,b⟩
    ·obtain⟨_,_,_,_,o,_,_,e,ex,_⟩:=I.hok p _ b;exact⟨o,e,ex⟩
    ·obtain⟨_,_,_,_,o,_,_,e,ex,_⟩:=I.hok p _ b;exact⟨o,e,ex⟩
   obtain⟨o,e,ex⟩:=z;refine⟨⟨o,e,ex.1⟩,λa f=>?_⟩;cases f;exact⟨o,e,ex.2.1⟩
  ·obtain⟨o,_,_,_,e,ex,_⟩:=I.hok p _ b;refine⟨⟨o,e,ex.1⟩,λa f=>?_⟩;cases f;exact⟨o,e,ex.2.1⟩
 |_=>exact False.elim ty
def Lh(K:Fg1)(T:String)(r:V->List V->Hp->VK->Prop)(to:TE)(t:TA):TE:=fun σ H Q=>to σ H λx H1=>Kz K T x H1/\t σ H1 λxs H2=>r x xs H2 Q
variable{o e:Expr}{es:List Expr}{to:TE}{t:TA}{name:Str}{apos cpos:Pos}{T id:String}{r:V->List V->Hp->VK->Prop}
theorem HY (k:PlainAttrs T)(slot:Slot T name id)(hty:typeOf (.builtin id)=pure (.type "method_descriptor"))(hm:He X id r)(ho:PE X o to)(ha:PA X (e::es) t)
  (hbase:attributeBase o name X.env (eval o X.env)=eval o X.env:=by rfl)
  (hfew:((backTo cpos (cP (e::es) X.env)).all (λx=> !x.1)&&(backToKw cpos (keywordEach [] X.env)).all (λx=>x.1.isSome)
   && decide ((e::es).length+([]:List Keyword).length+(if([]:List Keyword).isEmpty then 0 else 1)<30))=M:=by rfl)
  (hline:(apos.endLine == cpos.line)=M:=by rfl) (hs:cP (e::es) X.env=(J,eval e X.env)::cP es X.env:=by rfl) (hplain:(backTo cpos (cP es X.env)).any (·.1)=J:=by rfl):
  PE X (.Call (.Attribute o name apos) (e::es) [] cpos) (Lh X.K T r to t):=by
 intro ag s σ H Q I h;refine wpAny_Call_method_late hbase hfew hline O (eR (ho ag s σ H _ I h) λv l ⟨x,H1,b,a,ty,j⟩=>?_);obtain⟨h1,h2⟩:=Ej b a ty;refine⟨T,id,k,slot,hty,h1,h2,?_⟩;have c:=ha cpos ag l σ H1 _ b j;rw[hs]at c ⊢;refine Calls.callWith_builtin (by show(J||(backTo cpos (cP es X.env)).any (·.1))=J;rw[hplain]<;>rfl) (Calls.evalArgs_plain ?_);exact eR c λi g ⟨vs,H2,d,r2,f⟩=>hm ag g σ H2 x vs v i Q d a r2 f
end
end L2
namespace L2
open PySem PySem.Spec PyProof.Rows
def K6(X:Cx)(id:String)(r:V->List V->Hp->VK->Prop):Prop:=
 ∀(ag:List (cJ×Obj)) (s:cI) (σ:St) (H:Hp) (x:V) (xs:List V) (v:cH) (us:List cH) (Q:VK),Inv X ag σ H s->dt x v->dM xs us->r x xs H Q ->
  cR (model X.prog X.w) X.A (call (.builtin id) (v::us)) (EP X ag σ Q) X.xe s
theorem dM.one:∀{x:V} {us:List cH},dM [x] us -> ∃u,us=[u]/\dt x u:=by
 intro x us h;cases h with
 |cons r t=>cases t;exact⟨_,O,r⟩
theorem dM.two:∀{x y:V} {us:List cH},dM [x,y] us -> ∃u v,us=[u,v]/\dt x u/\dt y v:=by
 intro x y us h;cases h with
 |cons r t=>obtain⟨v,rfl,q⟩:=dM.one t;exact⟨_,_,O,r,q⟩
theorem dM.rep{xs:List V}{us:List cH}(h:dM xs us):∀k:Nat,dM (aM k xs).flatten (aM k us).flatten
 |0=>.nil
 |k+1=>by
  rw[aT,aT,aU,aU];exact dM.append h (dM.rep h k)
theorem lQ(its:List cH):∀ (k:Nat) (acc:List cH),
  aV (λb x2=>b++x2) acc.toArray (aM k its.toArray)=(acc++(aM k its).flatten).toArray
 |0,acc=>by simp
 |k+1,acc=>by
  have e:acc.toArray++its.toArray=(acc++its).toArray:=by simp
  have a:(acc++its)++(aM k its).flatten=acc++(aM (k+1) its).flatten:=by
   rw[aT,aU,aW]
  rw[<- a,<- lQ its k (acc++its),<- e,aT,aX]
section
variable{X:Cx}{ag:List (cJ×Obj)}{σ:St}{H:Hp}{s:cI}{l b:cJ}{xs ys zs:List V}
theorem Inv.lset {its its':List cH}{n:Nat}{f:Array cH->Array cH}{t':Nat}(I:Inv X ag σ H s)(b:H l=some (.lst xs))
  (e:s.heap.get? l=Z {cls:=.type "list",data:=.seq its.toArray n}) (hf:f its.toArray=its'.toArray) (hv:dM ys its') (hz:ys.length<=cQ):
  Inv X ag σ (upd H l (.lst ys)) {s with heap:=s.heap.update l (Obj.mapSeq f),toks:=t'}:=by
 have q:=PySem.IsL.update e f;rw[hf]at q;refine I.write (x:=l) (e:=l) (by rw[b];exact trivial) (.inl O) (λd u c a=>(Heap.get?_update_other s.heap (Obj.mapSeq f) (Ne.symm c)).trans a) ⟨_,q⟩ ?_;exact⟨hz,its',_,hv,q⟩
theorem Inv.lnew{its:List cH}{t':Nat}(I:Inv X ag σ H s)(hv:dM ys its)(hz:ys.length<=cQ):
  Inv X ag σ (upd H s.heap.objs.size (.lst ys)) {s with heap:=s.heap.push {cls:=.type "list",data:=.seq its.toArray},toks:=t'}:=
 I.laid (λ_ _ q=>hP1 _ q) (nR1 _) ⟨hz,its,0,hv,hS1 _ O⟩
theorem Inv.fresh(I:Inv X ag σ H s):H s.heap.objs.size=Y:=I.hok.fresh (nR1 _)
theorem Inv.lstM(I:Inv X ag σ H s)(a:H l=Z (.lst xs)):xs.length<=cQ /\ ∃(its:List cH) (n:Nat),dM xs its/\xs.length=its.length/\s.heap.get? l=Z {cls:=.type "list",data:=.seq its.toArray n}:=by
 obtain⟨z,its,n,r,e⟩:=I.hok l _ a;exact⟨z,its,n,r,r.length,e⟩
theorem rQ{n:Nat}(h:n<=cQ):Builtin.List.listTooLong n=J:=by
 unfold Builtin.List.listTooLong;exact ai (by lia)
end
section
variable{X:Cx}
def Bt:V->List V->Hp->VK->Prop:=λx vs H Q=>∃l xs y,x = .ref l/\vs=[y]/\H l=Z (.lst xs)/\xs.length<cQ/\Q .non (upd H l (.lst (xs++[y])))
theorem oW:K6 X "list.append" Bt:=by
 intro ag s σ H x vs v g Q I f c h;obtain⟨l,xs,y,rfl,rfl,b,j,q⟩:=h;cases f;obtain⟨u,rfl,d⟩:=c.one;obtain⟨z,a,n,r,i,e⟩:=I.lstM b;refine call_meets F.slot_list_append ⟨_,e,O⟩ F.entry_list_append (F.args_list_append_2 _ _) (PySem.list_append l a.toArray n u (by rw[aJ];lia)) ⟨e,?_⟩;refine⟨.non,_,I.lset (its':=a++[u]) b e (by simp) (r.append (.cons d .nil)) ?_,O,q⟩;rw[lA1,aY];lia
def Br:V->List V->Hp->VK->Prop:=λx vs H Q=>∃l b xs zs,x = .ref l/\vs=[.ref b]/\H l=Z (.lst xs)/\H b=Z (.lst zs)/\xs.length+zs.length<=cQ/\Q .non (upd H l (.lst (xs++zs)))
theorem wy:K6 X "list.extend" Br:=by
 intro ag s σ H x vs v w Q I p k h;obtain⟨l,b,xs,zs,rfl,rfl,g,m,B,q⟩:=h;cases p;obtain⟨u,rfl,o⟩:=k.one;cases o;obtain⟨z,c,n,r,y,e⟩:=I.lstM g;obtain⟨A,a,i,r2,t,j⟩:=I.lstM m;have f:c.toArray.size+a.toArray.size<=cQ:=by rw[aJ,aJ];lia
 have d:¬ (!c.toArray.isEmpty&&Builtin.List.listTooLong (c.toArray.size+a.toArray.size))=M:=by
  rw[rQ f,aZ];exact aI
 refine call_meets F.slot_list_extend ⟨_,e,O⟩ F.entry_list_extend (F.args_list_extend_2 _ _)
  (AutoSeq1.list_extend_list_list_0 l c.toArray n b a.toArray i d (by rw[aJ];lia) (by lia)) ⟨e,j,?_⟩
 refine⟨.non,_,I.lset (its':=c++a) g e (by simp) (r.append r2) ?_,O,q⟩;rw[lA1];lia
def JX:R2:=λx y H Q=>∃l b xs zs,x = .ref l/\y = .ref b/\H l=Z (.lst xs)/\H b=Z (.lst zs)/\xs.length+zs.length<=cQ /\ ∀p,H p=Y->Q (.ref p) (upd H p (.lst (xs++zs)))
theorem Fv:fJ X (binaryOp .Add) JX:=by
 intro ag s σ H x y v u Q I i d h;obtain⟨l,b,xs,zs,rfl,rfl,j,g,w,q⟩:=h;cases i;cases d;obtain⟨z,c,n,r,p,e⟩:=I.lstM j;obtain⟨t,a,o,r2,k,f⟩:=I.lstM g;refine PySem.P.add_list e f ?_ (by rw[aJ,aJ];lia);have m:c.toArray++a.toArray=(c++a).toArray:=by simp
 rw[m];exact⟨.ref _,_,I.lnew (t':=s.toks) (r.append r2) (by rw[lA1];lia),O,q _ I.fresh⟩
def JU:R2:=λx y H Q=>∃l k xs,x = .ref l/\y = .int k/\H l=Z (.lst xs) /\ -(2^63)<=k/\k<2^63/\xs.length*k.toNat<=cQ /\
 ∀p,H p=Y->Q (.ref p) (upd H p (.lst (aM k.toNat xs).flatten))
theorem lc{α:Type}(xs:List α)(k:Nat):(aM k xs).flatten.length=k*xs.length:=by
 induction k with
 |zero=>simp
 |succ k ih=>rw[aT,aU,lA1,ih,Nat.succ_mul,Nat.add_comm]
theorem Fq:fJ X (binaryOp .Mult) JU:=by
 intro ag s σ H x y v u Q I A p h;obtain⟨l,k,xs,rfl,rfl,B,h1,h2,o,q⟩:=h;cases A;obtain⟨t,rfl⟩:=p;obtain⟨z,b,n,r,C,e⟩:=I.lstM B;have g:b.toArray.size*k.toNat<=cQ:=by rw[aJ,<- C];exact o
 have f:¬ b.toArray.size*k.toNat>(2^63-1)/8:=by
  have:(cQ:Nat)<=(2^63-1)/8:=by decide
  lia
 have d:¬ (!Builtin.List.listFitsIndex k)=M:=by
  rw[fitsIndex_both h1 h2];exact aI
 have c:¬ Builtin.List.listTooLong (b.toArray.size*k.toNat)=M:=by
  rw[rQ g];exact aI
 have i:aV (λj x2=>j++x2) #[] (aM (if b.toArray.isEmpty=M then 0 else k.toNat) b.toArray)=(aM k.toNat b).flatten.toArray:=by
  have w:∀m:Nat,aV (λj x2=>j++x2) #[] (aM m b.toArray)=(aM m b).flatten.toArray:=λm=>by
   have:=lQ b m [];rw[a0]at this;exact this
  rw[w];cases b with
  |nil=>simp
  |cons a D=>rw[aj (by simp)]
 refine wpAny_binaryOp_repeat_ref (T:="list") (U:="int") (by decide) ⟨_,e,O⟩ (λs'=>typeIs_int s' k t) noFill_list_mul F.fills_int_mul F.slot_int_rmul repeat_list F.slot_int_index.lookup
  (call_meets F.slot_int_rmul (typeIs_int s k t) F.entry_int_rmul (F.args_int_rmul_2 _ _) (int___rmul___int_list k t l b.toArray n)
   ⟨e,O,⟨_,e,O⟩,call_meets F.slot_list_mul ⟨_,e,O⟩ F.entry_list_mul (F.args_list_mul_2 _ _) (AutoListH.list___mul___list_int_3 l b.toArray n k t d f c) ⟨e,?_⟩⟩)
 rw[i];exact⟨.ref _,_,I.lnew (t':=s.toks) (r.rep k.toNat) (by rw[lc,Nat.mul_comm];exact o),O,q _ I.fresh⟩
end
section
variable{prog:cK}{w:cN}{A:cM}{E:cH->cI->Prop}{s:cI}
end
section
variable{X:Cx}
end
end L2
namespace Att
open PySem PySem.W PySem.Calls PyProof.Rows
theorem mJ{P:Params}{h:cT}:∀(ns:List Int) (vs:List cH),WellAll P h vs (ns.map WData.int)->IntsAre vs ns:=by
 intro ns
 induction ns with
 |nil=>
  intro vs w;rw[ba]at w;cases w;exact .nil
 |cons n ns ih=>
  intro vs w;rw[mP1]at w;cases w with
  |cons a b=>
   cases a;exact .cons _ _ (ih _ b)
theorem wm{l:OpenLaw}{n:Nat}(hn:l.most=some n){P:Params}{h:cT}{args:List WData}{b:List cH}(c:l.row.toRowW.claim.pre args=true)(j:WellAll P h b args):
  ∃a vs ns,b=[Value.ref a]/\args=[WData.list (ns.map WData.int)]/\h.get? a=Z {cls:=.type "list",data:=.seq vs.toArray}/\IntsAre vs ns/\ns.length<=n:=by
 have k:WShape.hasAll [] args [.list .int]=M:=(pre_splitW c).1;have hc:l.pre.holds [] {args:=args}=M:=(pre_splitW c).2;obtain⟨d,r,rfl,h1,h2⟩:=hasAllW_cons k;obtain rfl:=hasAllW_nil h2;obtain⟨xs,rfl,p⟩:=hasW_list h1;obtain⟨ns,rfl⟩:=items_int p;have f:ns.length<=n:=by
  unfold OpenLaw.pre at hc;have i:(WTm.not (.lt (.lit (.int (n:Int))) (.len (.arg 0)))).holds [] {args:=[.list (ns.map .int)]}=M:=by
   have i:=(holds_andW hc).1;rw[hn]at i;exact i
  have g:=condW_of i (w_not (w_lt w_lit (w_len_list (w_arg O))));rw[lM1]at g;refine Nat.le_of_not_lt λq=>?_;have o:(n:Int)<((ns.length:Nat):Int):=by omega
  first
   |(rw[ah o]at g;exact absurd g (by decide))
   |(simp at g;omega)
 cases j with
 |cons t s=>
  cases s;cases t with
  |list m e=>exact⟨_,_,ns,O,O,m,mJ ns _ e,f⟩
theorem wp(l:OpenLaw)(args:List WData):l.row.toRowW.claim.post args (.bool M) args=M:=
 postW_of (r:=l.row.toRowW) (X:=(M == M))
  (show WShape.has [] (.bool M) .bool=M by first|rfl|decide|simp[WShape.has,WShape.arms,WShape.armsAll])
  (show(WTm.eq .res (.lit (.bool M))).value [] {args:=args,res:=Z (.bool M),after:=args}=Z (.bool (M == M))from w_eq_bool (w_res O) w_lit) O
theorem attach_call {l:OpenLaw}{n:Nat}{q:cK}{e:List Str}{XP:(Str->Option cH)->cT->Prop}{C:cN->cT->Prop}{d:DefRec}
  (hn:l.most=Z n) (s:d.params.defaults=[])
  (call:∀(w:cN) (c b:cI) (mg v:Str->Option cH) (i:cJ) (o:Obj) (t p g:cH) (a:cJ) (vs:List cH) (ns:List Int),
   Ground q e [] XP w c mg v b.heap->C w b.heap ->
   b.heap.get? i=Z o->o.data = .func (docDef d.name d.params d.body d.scope t p g)->b.heap.CodeRec p d.name->mg d.name=Z (.ref i) ->
   b.heap.get? a=Z {cls:=.type "list",data:=.seq vs.toArray}->IntsAre vs ns->ns.length<=n->b.gens = #[] ->
   cS (model l.prog w) callerA (.call (.ref i) ⟨[.ref a],[]⟩) (λr s'=>r = .ok (.ret (.bool M))/\OldK b.heap s'.heap/\s'.os=b.os/\AllBare s'.gens) b):
  WalkO q e XP C l.row.toRowW d [] (λf vs=>PySem.call f vs):=by
 intro w c b mg v G aq i o t p g E kV N am y B x H A D as k z L u F;obtain rfl:E = .none:=Dflts.none B s;obtain rfl:kV = .none:=Dflts.noKw B;obtain⟨a,vs,ns,rfl,rfl,j,h,m⟩:=wm hn k u;refine enter_call (codeAny_mono (call w c b mg v i o t p g a vs ns G aq N (fd_plain am) y x j h m H) λr s' K=>?_);obtain⟨rfl,h2,ao,ar⟩:=K;exact⟨.inl ⟨.bool M,.bool M,[],O,λ_=>rfl,.bool M,wp l _,λ_=>⟨List.Pairwise.nil,λ_ I=>(nomatch I)⟩⟩,h2,ao,ar⟩
section
variable{prog:cK}{w:cN}{A:cM}{E:cH->cI->Prop}{s:cI}{K:Frag}
end
end Att
namespace L2
open PySem PySem.Spec PyProof.Rows
theorem we:∀{vs:List cH} {ns:List Int},IntsAre vs ns->dM (ns.map V.int) vs:=by
 intro vs ns h
 induction h with
 |nil=>exact .nil
 |cons n t h ih=>exact .cons ⟨t,O⟩ ih
def Do(H:Hp):Prop:=∀b,H b=Y \/ ∃o xs,H b=Z (.frz o (.lst xs))
theorem zv {P:cK}{w:cN}{K:Fg1}{mg I:Str->Option cH}{CX:xm}{k:Nat}{C a:cJ}{fd:cU}{x:Str}{sp:Sp}{s₁:cI}{vs:List cH}{ns:List Int}
  (ao:K.In s₁.heap) (A:s₁.heap.Ns cO mg) (hb:s₁.heap.Ns builtinsNs I) (L:∀x:Str,x≠"__name__"->I x=bootBuiltins x) (p:s₁.heap.NoLimit) (hg:s₁.gens = #[])
  (ha:s₁.heap.get? a=Z {cls:=.type "list",data:=.seq vs.toArray}) (hi:IntsAre vs ns) (R:ns.length<=cQ) (hr:gf k callerA)
  (F:∀base:cT,K.In base->base.Ns cO mg->lY P w K mg base CX k C fd [x] sp) (g:∀(s:cI) (u:cH),BindsTo s fd ⟨[u],[]⟩ [(x,u)])
  (G:∀H:Hp,Do H->lv K H a (ns.map V.int)->sp [.ref a] H (λv _=>v = .bl M) λ_ _ _=>False)
  (E:∀H e s',CX [] H s₁ (λ_ _ _=>False) e s'->False):
  cS (model P w) callerA (.call (.ref C) ⟨[.ref a],[]⟩) (λr s'=>r = .ok (.ret (.bool M))/\OldK s₁.heap s'.heap/\s'.os=s₁.os/\AllBare s'.gens) s₁:=by
 have N:=we hi;have B:=hi.length
 -- from an abstract heap in which nothing but the script may be tracked
 have f:∀ H:Hp,Do H->lv K H a (ns.map V.int)->kM P w H s₁.heap->(∀ b,H b≠none->b=a)->(H a≠none->K.lookup a=none) ->
   cS (model P w) callerA (.call (.ref C) ⟨[.ref a],[]⟩) (λr s'=>r = .ok (.ret (.bool M))/\OldK s₁.heap s'.heap/\s'.os=s₁.os/\AllBare s'.gens) s₁:=by
  intro H ar hS j S hK;have base_of:∀{b:cJ} {o:Obj},s₁.heap.get? b=Z o->H b=Y->(qq s₁.heap H).get? b=Z o:=λe n=>zE e n;have am:∀{b:cJ} {o:Obj} {es:Array DictEntry} {ep:Nat},s₁.heap.get? b=Z o->o.data = .dict es ep->H b=Y:=λ{b o es ep} e d=>by
   cases q:H b with
   |none=>rfl
   |some u=>
    have D:b=a:=S b (by rw[q];simp);subst D;rw[ha]at e;cases e;have X:Data.seq vs.toArray _=Data.dict es ep:=d;cases X
  have c:∀{b:cJ} {m:Str->Option cH},s₁.heap.Ns b m->(qq s₁.heap H).Ns b m:=λ{b m} ⟨o,es,ep,e,d,r⟩=>⟨o,es,ep,base_of e (am e d),d,r⟩;have i:K.In (qq s₁.heap H):=λb o e=>base_of (ao b o e) (by
   cases q:H b with
   |none=>rfl
   |some u=>
    have D:b=a:=S b (by rw[q];simp);subst D;rw[hK (by rw[q];simp)]at e;cases e)
  have hM:Mod K mg (qq s₁.heap H):=⟨i,c A,⟨I,c hb,L⟩,let ⟨mc,h1,h2⟩:=p;⟨mc,c h1,h2⟩⟩;have e0:Dq P w K mg (qq s₁.heap H) callerA [] s₁ H:=⟨O,hM,λb o e=>BW e,Nat.le_of_eq (wM _ _),trivial,λb hb=>absurd (show b∈([]:List cJ)from hb) (by simp),j,.of_eq hg⟩;refine codeAny_mono ((F _ i (c A)).run callerA [] s₁ H ⟨[.ref a],[]⟩ [.ref a] [.ref a] _ _ hr e0 (g s₁ (.ref a)) (.cons O .nil) (G H ar hS)) λr s' h=>?_;cases r with
  |error e=>exact(E H e s' h).elim
  |ok aq=>
   cases aq with
   |next=>exact False.elim h
   |brk=>exact False.elim h
   |cont=>exact False.elim h
   |ret u=>
    obtain⟨v,H',T,l,un,t,r',q⟩:=h;have U:v = .bl M:=q;subst U;obtain rfl:u=Value.bool true:=r';refine⟨O,OldK.of_keep λb o e=>?_,T,l⟩;cases q:H b with
    |none=>exact un.keep b o e q (by intro z;exact absurd (show b∈([]:List cJ)from z) (by simp)) (by simp)
    |some u=>
     rcases ar b with z|⟨wq,xs,z⟩
     ·rw[q]at z;cases z
     ·have W:=un.frzs b wq _ z;obtain⟨Q,_⟩:=j b _ z;obtain⟨e2,_⟩:=t b _ W;rw[e]at Q;cases Q;exact e2
 cases hk:K.lookup a with
 |some o=>
  -- the script is one of the module's own objects
  have e:=ao a o hk;rw[ha]at e;cases e;refine f (λ_=>Y) (λ_=>.inl O) (.inr ⟨_,vs.toArray,_,hk,O,O,O,by rw[aJ,B];exact R,by simpa using N⟩) (λb u z=>by have y:(Y:Option HO)=Z u:=z;cases y) (λb z=>absurd O z) λz=>absurd O z
 |none=>
  refine f (λb=>if b=a then Z (.frz {cls:=.type "list",data:=.seq vs.toArray} (.lst (ns.map V.int)))else Y) (λb=>?_) (.inl (.inr ⟨{cls:=.type "list",data:=.seq vs.toArray},ak O⟩)) (λb u z=>?_) (λb z=>?_) λ_=>hk
  ·by_cases hb:b=a
   ·exact .inr ⟨_,_,ak hb⟩
   ·exact .inl (aj hb)
  ·by_cases hb:b=a
   ·have y:=(ak hb).symm.trans z;cases y;subst hb;exact⟨ha,by rw[lM1];exact R,vs,_,N,ha⟩
   ·have y:=(aj hb).symm.trans z;cases y
  ·by_cases hb:b=a
   ·exact hb
   ·exact absurd (aj hb) z
end L2
namespace L2
open PySem PySem.Spec PyProof.Rows
theorem A8{l:PySem.W.OpenLaw}{n k:Nat}{q:cK}{c:List Str}{XP:(Str->Option cH)->cT->Prop}{C:cN->cT->Prop}{d:DefRec}{K:Params->Fg1}{CX:cN->xm}{sp:cN->Sp}{x:Str}(hn:l.most=some n)(t:n<=cQ)(p:d.params.defaults=[])(hr:gf k callerA)(E:∀(w:cN) (h:cT),C w h->(K w.params).In h)(F:∀(w:cN) (mg:Str->Option cH) (m:cJ) (h:cT),(K w.params).In h->h.Ns cO mg->mg d.name=some (.ref m) ->
   ∃fd:cU,(∀(s:cI) (u:cH),BindsTo s fd ⟨[u],[]⟩ [(x,u)]) /\
    ∀base:cT,(K w.params).In base->base.Ns cO mg->lY l.prog w (K w.params) mg base (CX w) k m fd [x] (sp w))(y:∀(w:cN) (H:Hp) (a:cJ) (ns:List Int),ns.length<=n->Do H->lv (K w.params) H a (ns.map V.int)->sp w [.ref a] H (λv _=>v = .bl M) λ_ _ _=>False)(r:∀(w:cN) (H:Hp) (s:cI) (e:cH) (s':cI),CX w [] H s (λ_ _ _=>False) e s'->False):
  PySem.W.WalkO q c XP C l.row.toRowW d [] (λf vs=>PySem.call f vs):=by
 refine Att.attach_call hn p λw B i mg Q m o P S am a vs ns G aq T R L z j g b I=>?_;have A:=E w _ aq;obtain⟨fd,N,ao⟩:=F w mg m _ A G.T.g z;exact zv A G.T.g G.T.b G.T.builtins G.T.nolimit I j g (aB b t) hr ao N (λH D ar=>y w H a ns b D ar) λH e s'=>r w H i e s'
end L2
namespace L2
open PySem PySem.Spec PyProof.Rows
def iu(s:cV):Arguments:=match s with
 | .FunctionDef _ a _ _ _ _ _ _ _ _=>a
 |_=>{posonlyargs:=[],args:=[],vararg:=Y,kwonlyargs:=[],kw_defaults:=[],kwarg:=Y,defaults:=[]}
def fg(s:cV):List cV:=match s with
 | .FunctionDef _ _ b _ _ _ _ _ _ _=>b
 |_=>[]
def dA(s:cV):cW:=match s with
 | .FunctionDef _ _ _ _ _ _ sc _ _ _=>sc
 |_=>{kind:=.function,names:=[],isGenerator:=J,isCoroutine:=J}
abbrev sT:xm:=λ_ _ _ _ _ _=>False
abbrev E0:XK:=λ_ _ _=>False
theorem H7{X:Cx}:uI sT X E0:=λ_ _ _ _ _ _ _ h=>h.elim
structure v8 (K:Fg1)(x qual:Str)(st:cV)(f:cJ)(fd:cU):Prop where
 ex:∃(oc:cH) (od:Option cJ) (kV doc pm:cH) (an:Option cJ) (cdv ct:cH) (osl:Array (Option cH)),
  fd=wF1 x qual (iu st) (fg st) (dA st) .none kV doc pm an cdv ct/\K.lookup f=some ⟨oc,od,.func fd,osl⟩/\wC1 K cdv qual=true
 kp:wK1 K (.ref f)=true
section
variable{P:cK}{w:cN}{K:Fg1}{mg:Str->Option cH}{base:cT}
theorem v8.ok{x b:Str}{st:cV}{f:cJ}{fd:cU}{N ps:List Str}{k:Nat}{sp:Sp}(F:v8 K x b st f fd)(S:gH N ps (dA st))(len:∀ vs H Q E,sp vs H Q E->vs.length=ps.length)(d:∀(c:cH) (A:cM) (a:List Env) (s:cI) (H:Hp) (vs:List V) (Q:VK) (E:XK),gf k (A.deeper (envOfC b (dA st) s.heap.objs.size f c))->sp vs H Q E ->
   ∃t,s9 (mO sT P w K mg base N b (dA st) f c A a s H E).nox (fg st) t/\t {nx:=λ_ H'=>Q .non H',rt:=Q} (start N vs) H):lY P w K mg base sT (k+1) f fd ps sp:=by
 obtain⟨r,p,kV,m,o,n,c,ct,i,rfl,l,e⟩:=F.ex;refine IL l e S len λA a s H vs Q E j g=>?_;obtain⟨t,h,q⟩:=d c A a s H vs Q E j g;exact⟨t,h.nox,q⟩
theorem v8.binds{x a:Str}{st:cV}{f:cJ}{fd:cU}{ps:List Str}(F:v8 K x a st f fd)(h:∀(kV b e:cH) (d:Option cJ) (c ct:cH) (us:List cH),us.length=ps.length->bindArgs (wF1 x a (iu st) (fg st) (dA st) .none kV b e d c ct) ⟨us,[]⟩=pure (ps.zip us)):jP K fd ps []:=by
 obtain⟨l,k,kV,b,e,d,c,ct,g,rfl,j,i⟩:=F.ex;exact .all (h kV b e d c ct)
theorem zQ{x a:Str}{st:cV}{f:cJ}{j:cH}{i g:Option cJ}{e:Array (Option cH)}{kV d h b ct:cH}(l:K.lookup f=Z ⟨j,i,.func (wF1 x a (iu st) (fg st) (dA st) .none kV d h g b ct),e⟩)(c:wC1 K b a=M)(k:wK1 K (.ref f)=M):v8 K x a st f (wF1 x a (iu st) (fg st) (dA st) .none kV d h g b ct):=⟨⟨j,i,kV,d,h,g,b,ct,e,O,l,c⟩,k⟩
end
section
variable{X:Cx}
end
def sQ(H H':Hp):Prop:=∀b o,H b=Z o->H' b=Z o
theorem sQ.trans{H H1 H2:Hp}(a:sQ H H1)(b:sQ H1 H2):sQ H H2:=λc o h=>b c o (a c o h)
theorem sQ.free{H H':Hp}(e:sQ H H'){l:cJ}(h:H' l=Option.none):H l=Option.none:=by
 cases q:H l with
 |none=>rfl
 |some o=>
  rw[e l o q]at h;cases h
theorem sQ.seq{K:Fg1}{H H':Hp}{a:cJ}{xs:List V}(e:sQ H H')(h:lv K H a xs):lv K H' a xs:=by
 rcases h with(h|⟨o,h⟩)|h
 ·exact .inl (.inl (e _ _ h))
 ·exact .inl (.inr ⟨o,e _ _ h⟩)
 ·exact .inr h
end L2
namespace L2
open PySem PySem.Spec PyProof.Rows
section
variable{κ:Type} [DecidableEq κ]
def iV(kvs:List (κ×V))(k:κ):Option V:=(kvs.find? λkv=>decide (kv.1=k)).map (·.2)
def iK(kvs:List (κ×V))(k:κ)(v:V):List (κ×V):=
 if(kvs.any λkv=>decide (kv.1=k))=M then kvs.map (λkv=>if kv.1=k then(kv.1,v)else kv)else kvs++[(k,v)]
def DS(kvs:List (κ×V))(k:κ):List (κ×V):=kvs.filter λkv=>decide (kv.1≠k)
theorem nh{p:κ×V}{r:List (κ×V)}{k:κ}(e:p.1=k):iV (p::r) k=Z p.2:=by simp[iV,bb,e]
theorem ni{p:κ×V}{r:List (κ×V)}{k:κ}(e:¬ p.1=k):iV (p::r) k=iV r k:=by simp[iV,bb,e]
theorem rd(k:κ):∀kvs:List (κ×V),(kvs.any λa=>decide (a.1=k))=(iV kvs k).isSome
 |[]=>rfl
 |p::r=>by
  rw[bc];by_cases e:p.1=k
  ·simp only[nh e,ah e,Bool.true_or,Option.isSome_some]
  ·rw[ni e,ai e,Bool.false_or];exact rd k r
theorem jF(kvs:List (κ×V))(k:κ)(v:V):(iK kvs k v).length<=kvs.length+1:=by
 unfold iK;split
 ·rw[lM1];lia
 ·rw[lA1,lC1,bf];lia
theorem lX.isSome_eq{o:Option V}{u:Option cH}(r:lX o u):o.isSome=u.isSome:=by
 cases o with
 |none=>cases u with
  |none=>rfl
  |some _=>exact(show False from r).elim
 |some _=>cases u with
  |none=>exact(show False from r).elim
  |some _=>rfl
theorem lX.getD{o:Option V}{u:Option cH}{d:V}{d':cH}(r:lX o u)(a:dt d d'):dt (o.getD d) (u.getD d'):=by
 cases o with
 |none=>cases u with
  |none=>exact a
  |some _=>exact(show False from r).elim
 |some _=>cases u with
  |none=>exact(show False from r).elim
  |some _=>exact r
theorem KV.val{kvs:List (κ×V)}{vs:List (κ×cH)}(r:KV kvs vs)(k:κ):lX (iV kvs k) (valueAt vs k):=by
 unfold KV at r
 induction r with
 |nil=>exact True.intro
 | @cons p q ps c h t ih=>
  obtain⟨h1,h2⟩:=h;by_cases e:p.1=k
  ·have a:q.1=k:=h1.symm.trans e;have b:valueAt (q::c) k=Z q.2:=by simp[valueAt,bb,a]
   rw[nh e,b];exact h2
  ·have a:¬ q.1=k:=λz=>e (h1.trans z);have b:valueAt (q::c) k=valueAt c k:=by simp[valueAt,bb,a]
   rw[ni e,b];exact ih
theorem KV.any{kvs:List (κ×V)}{vs:List (κ×cH)}(r:KV kvs vs)(k:κ):(kvs.any λa=>decide (a.1=k))=vs.any λa=>decide (a.1=k):=by
 unfold KV at r
 induction r with
 |nil=>rfl
 |cons h t ih=>rw[bc,bc,ih,h.1]
theorem KV.repl{kvs:List (κ×V)}{vs:List (κ×cH)}(r:KV kvs vs)(k:κ){y:V}{u:cH}(b:dt y u):
  KV (kvs.map λa=>if a.1=k then(a.1,y)else a) (vs.map λa=>if a.1=k then(a.1,u)else a):=by
 unfold KV at r ⊢
 induction r with
 |nil=>exact .nil
 | @cons p q ps c h t ih=>
  rw[mP1,mP1];refine .cons ?_ ih;obtain⟨h1,h2⟩:=h;by_cases e:p.1=k
  ·rw[ak e,ak (h1.symm.trans e)];exact⟨h1,b⟩
  ·rw[aj e,aj (λz=>e (h1.trans z))];exact⟨h1,h2⟩
theorem KV.put{kvs:List (κ×V)}{vs:List (κ×cH)}(r:KV kvs vs)(k:κ){y:V}{u:cH}(a:dt y u):KV (iK kvs k y) (stored vs k u):=by
 unfold iK stored;rw[r.any k];by_cases e:(vs.any λb=>decide (b.1=k))=M
 ·rw[ak e,ak e];exact r.repl k a
 ·rw[aj e,aj e];exact Paired.snoc r ⟨O,a⟩
theorem KV.drop{kvs:List (κ×V)}{vs:List (κ×cH)}(r:KV kvs vs)(k:κ):KV (DS kvs k) (without vs k):=by
 unfold KV at r ⊢;unfold DS without
 induction r with
 |nil=>exact .nil
 | @cons p q ps d h t ih=>
  obtain⟨h1,h2⟩:=h;rw[bg,bg];by_cases e:p.1=k
  ·have a:¬ decide (p.1≠k)=M:=by simp[e]
   have b:¬ decide (q.1≠k)=M:=by simp[h1.symm.trans e]
   rw[aj a,aj b];exact ih
  ·have c:¬ q.1=k:=λz=>e (h1.trans z);have a:decide (p.1≠k)=M:=by simp[e]
   have b:decide (q.1≠k)=M:=by simp[c]
   rw[ak a,ak b];exact .cons ⟨h1,h2⟩ ih
theorem KV.keys{kvs:List (κ×V)}{vs:List (κ×cH)}(r:KV kvs vs):kvs.map (·.1)=vs.map (·.1):=by
 unfold KV at r
 induction r with
 |nil=>rfl
 |cons h t ih=>rw[mP1,mP1,ih,h.1]
theorem KV.length{kvs:List (κ×V)}{vs:List (κ×cH)}(r:KV kvs vs):kvs.length=vs.length:=Paired.length r
end
theorem nR{P:cK}{w:cN}{k:Key}{u:cH}(r:dt (kV k) u):(eJ P w).is k u=M:=by
 cases k with
 |inl i=>obtain⟨t,e⟩:=(show∃t,u=Value.int i t from r);subst e;exact rY P w i t
 |inr x=>obtain⟨t,e⟩:=(show∃t,u=Value.str x t from r);subst e;exact rX P w x t
theorem pd{P:cK}{w:cN}:∀{ks:List Key} {us:List cH},dM (ks.map kV) us->ItemsAre (eJ P w) ks us
 |[],_,r=>by rw[ba]at r;cases r;exact .nil
 |k::ks,_,r=>by
  rw[mP1]at r;cases r with
  |cons h t=>exact .cons (nR h) (pd t)
abbrev KT(H:Hp):List (List Key×V)->List (List Key×cJ×cH)->Prop:=Paired λp q=>p.1=q.1/\H q.2.1=Z (.tup (p.1.map kV))/\dt p.2 q.2.2
theorem KT.val{H:Hp}{kvs:List (List Key×V)}{xs:List (List Key×cJ×cH)}(r:KT H kvs xs)(k:List Key):lX (iV kvs k) ((atKey xs k).map (·.2)):=by
 induction r with
 |nil=>exact True.intro
 | @cons p q ps c h t ih=>
  obtain⟨h1,_,h2⟩:=h;by_cases e:p.1=k
  ·have a:q.1=k:=h1.symm.trans e;have b:atKey (q::c) k=Z q.2:=by simp[atKey,bb,a]
   rw[nh e,b];exact h2
  ·have a:¬ q.1=k:=λz=>e (h1.trans z);have b:atKey (q::c) k=atKey c k:=by simp[atKey,bb,a]
   rw[ni e,b];exact ih
theorem KT.repl{H:Hp}{kvs:List (List Key×V)}{xs:List (List Key×cJ×cH)}(r:KT H kvs xs)(k:List Key){y:V}{u:cH}(b:dt y u):
  KT H (kvs.map λa=>if a.1=k then(a.1,y)else a) (xs.map (putAt k u)):=by
 induction r with
 |nil=>exact .nil
 | @cons p q ps d h t ih=>
  rw[mP1,mP1];refine .cons ?_ ih;obtain⟨h1,h2,c⟩:=h;unfold putAt;by_cases e:p.1=k
  ·rw[ak e,ak (h1.symm.trans e)];exact⟨h1,h2,b⟩
  ·rw[aj e,aj (λz=>e (h1.trans z))];exact⟨h1,h2,c⟩
theorem KT.put{H:Hp}{kvs:List (List Key×V)}{xs:List (List Key×cJ×cH)}(r:KT H kvs xs)(k:List Key){b:cJ}{y:V}{u:cH}(hb:H b=some (.tup (k.map kV)))(a:dt y u):
  KT H (iK kvs k y) (storedH xs k b u):=by
 have e:(kvs.any λc=>decide (c.1=k))=(atKey xs k).isSome:=by
  rw[rd,(r.val k).isSome_eq,bh]
 unfold iK storedH;rw[e];by_cases q:(atKey xs k).isSome=M
 ·rw[ak q,ak q];exact r.repl k a
 ·rw[aj q,aj q];exact Paired.snoc r ⟨O,hb,a⟩
theorem KT.keeps{H H':Hp}{kvs:List (List Key×V)}{xs:List (List Key×cJ×cH)}(r:KT H kvs xs)(ht:∀b ys,H b=Z (.tup ys)->H' b=Z (.tup ys)):KT H' kvs xs:=
 Paired.mapP r λ_ _ z=>⟨z.1,ht _ _ z.2.1,z.2.2⟩
section
variable{P:cK}{w:cN}{H:Hp}{h:cT}{a:cJ}
theorem DA{u:HO}(ok:kM P w H h)(e:Rd H a u):ew P w H h a u:=e.ok ok
theorem n3{kvs:List (Key×V)}(ok:kM P w H h)(e:Rd H a (.dK kvs)):kvs.length<=cQ/\(a == sysModules)=J /\ ∃vs,KV kvs vs/\h.DictOf (eJ P w) a vs:=
 show ew P w H h a (.dK kvs)from DA ok e
theorem Ak{kvs:List (Key×V)}(ok:kM P w H h)(e:H a=Z (.dK kvs)):kvs.length<=cQ/\(a == sysModules)=J /\ ∃vs,KV kvs vs/\h.DictOf (eJ P w) a vs:=n3 ok (.inl e)
theorem lJ{ks:List Key}(ok:kM P w H h)(e:H a=Z (.tup (ks.map kV))):(tupleKind (eJ P w)).is h ks a:=by
 obtain⟨_,b,r,o,h1,h2,n,c⟩:=(show ew P w H h a (.tup (ks.map kV))from ok a _ e);exact⟨o,b.toArray,n,h1,h2,c,by simpa using pd r⟩
theorem n2{kvs:List (List Key×V)}(ok:kM P w H h)(e:Rd H a (.dT kvs)):kvs.length<=cQ/\(a == sysModules)=false /\
  ∃xs,KT H kvs xs/\h.DictOfH (tupleKind (eJ P w)) a xs:=by
 obtain⟨z,y,xs,r,o,es,ep,h1,h2,g,f,d⟩:=(show ew P w H h a (.dT kvs)from DA ok e);refine⟨z,y,xs,r,o,es,ep,h1,h2,g,f,λx b=>?_,d⟩;have all:∀{l:List (List Key×V)} {m:List (List Key×cJ×cH)},KT H l m -> ∀x∈m,(tupleKind (eJ P w)).is h x.1 x.2.1:=by
  intro l m q
  induction q with
  |nil=>intro x b;exact nomatch b
  | @cons p q ps i c t ih=>
   intro x b;rcases aD.mp b with e|b
   ·subst e;exact lJ ok (by rw[<- c.1];exact c.2.1)
   ·exact ih x b
 exact all r x b
theorem IQ{kvs:List (List Key×V)}(ok:kM P w H h)(e:H a=some (.dT kvs)):kvs.length<=cQ/\(a == sysModules)=false /\
  ∃xs,KT H kvs xs/\h.DictOfH (tupleKind (eJ P w)) a xs:=n2 ok (.inl e)
end
def mQ(H:Hp)(a:cJ)(y:V)(r:Option V):Prop:=
 (∃kvs k,Rd H a (.dK kvs)/\y=kV k/\r=iV kvs k) \/ ∃kvs k b,Rd H a (.dT kvs)/\y = .ref b/\H b=Z (.tup (k.map kV))/\r=iV kvs k
def xg(H:Hp)(a:cJ)(y v:V)(H':Hp):Prop:=
 (∃kvs k,H a=Z (.dK kvs)/\y=kV k/\kvs.length<cQ/\H'=upd H a (.dK (iK kvs k v))) \/
 ∃kvs k b,H a=Z (.dT kvs)/\y = .ref b/\H b=Z (.tup (k.map kV))/\kvs.length<cQ/\H'=upd H a (.dT (iK kvs k v))
theorem mQ.k{H:Hp}{a:cJ}{kvs:List (Key×V)}{k:Key}(e:H a=Z (.dK kvs)):mQ H a (kV k) (iV kvs k):=.inl ⟨kvs,k,.inl e,O,O⟩
theorem mQ.t{H:Hp}{a b:cJ}{kvs:List (List Key×V)}{k:List Key}(e:H a=Z (.dT kvs))(c:H b=Z (.tup (k.map kV))):mQ H a (.ref b) (iV kvs k):=.inr ⟨kvs,k,b,.inl e,O,c,O⟩
theorem xg.k{H:Hp}{a:cJ}{kvs:List (Key×V)}{k:Key}{v:V}(e:H a=Z (.dK kvs))(b:kvs.length<cQ):xg H a (kV k) v (upd H a (.dK (iK kvs k v))):=.inl ⟨kvs,k,e,O,b,O⟩
theorem xg.t{H:Hp}{a b:cJ}{kvs:List (List Key×V)}{k:List Key}{v:V}(e:H a=some (.dT kvs))(d:H b=some (.tup (k.map kV)))(c:kvs.length<cQ):
  xg H a (.ref b) v (upd H a (.dT (iK kvs k v))):=.inr ⟨kvs,k,b,e,O,d,c,O⟩
section
variable{X:Cx}{ag:List (cJ×Obj)}{σ:St}{H:Hp}{s:cI}{a:cJ}{y v:V}{u r:cH}{o:Option V}{A:cM}{E:cH->cI->Prop}
theorem Inv.big(I:Inv X ag σ H s):sysModules<s.heap.objs.size:=by
 have h:cO<s.heap.objs.size:=(I.mod.glob.keeps I.bk).lt;exact bi (by decide) h
theorem wW{Q:cH->cI->Prop}(t:A.units+1<cLine)(I:Inv X ag σ H s)(g:mQ H a y (some v))(m:dt y u)(h:∀ f s',Inv X ag σ H s'->dt v f->Q f s'):
  cR (model X.prog X.w) A (getItem (.ref a) u) Q E s:=by
 rcases g with⟨kvs,k,e,ey,l⟩|⟨kvs,k,b,e,ey,q,l⟩
 ·subst ey;obtain⟨z,n,vs,c,dd⟩:=n3 I.hok e;obtain⟨f,i,d⟩:=lX.some_of (v:=v) (o:=valueAt vs k) (by rw[l];exact c.val k);exact wpAny_getItem_of (nR m) dd.mapOf i (h f _ (I.tok _) d)
 ·subst ey;cases(show u=Value.ref b from m);obtain⟨z,n,xs,c,dd⟩:=n2 I.hok e;obtain⟨f,i,d⟩:=lX.some_of (v:=v) (o:=(atKey xs k).map (·.2)) (by rw[l];exact c.val k);obtain⟨p,r,j⟩:=oM1.mp i;refine wpAny_getItem_heap (tupleKind_room_in1 t) (lJ I.hok q) dd r ?_;rw[j];exact h f _ (I.tok _) d
theorem Kk{Q:cH->cI->Prop}(j:A.units+1<cLine)(I:Inv X ag σ H s)(g:mQ H a y o)(f:dt y u)(h:∀ s',Inv X ag σ H s'->Q (.bool o.isSome) s'):
  cR (model X.prog X.w) A (compareOp .In u (.ref a)) Q E s:=by
 rcases g with⟨kvs,k,e,ey,l⟩|⟨kvs,k,b,e,ey,i,l⟩
 ·subst ey;obtain⟨z,d,vs,c,dd⟩:=n3 I.hok e;refine wpAny_in_of (nR f) d dd.mapOf ?_;rw[<- (c.val k).isSome_eq,<- l];exact h _ (I.tok _)
 ·subst ey;cases(show u=Value.ref b from f);obtain⟨z,d,xs,c,dd⟩:=n2 I.hok e;refine wpAny_in_heap (tupleKind_room_in1 j) (lJ I.hok i) d dd ?_;have q:=(c.val k).isSome_eq;rw[bh]at q;rw[<- q,<- l];exact h _ (I.tok _)
theorem C3{Q:cH->cI->Prop}(j:A.units+1<cLine)(I:Inv X ag σ H s)(g:mQ H a y o)(f:dt y u)(h:∀ s',Inv X ag σ H s'->Q (.bool (!o.isSome)) s'):
  cR (model X.prog X.w) A (compareOp .NotIn u (.ref a)) Q E s:=by
 rcases g with⟨kvs,k,e,ey,l⟩|⟨kvs,k,b,e,ey,i,l⟩
 ·subst ey;obtain⟨z,d,vs,c,dd⟩:=n3 I.hok e;refine wpAny_notIn_of (nR f) d dd.mapOf ?_;rw[<- (c.val k).isSome_eq,<- l];exact h _ (I.tok _)
 ·subst ey;cases(show u=Value.ref b from f);obtain⟨z,d,xs,c,dd⟩:=n2 I.hok e;refine wpAny_notIn_heap (tupleKind_room_in1 j) (lJ I.hok i) d dd ?_;have q:=(c.val k).isSome_eq;rw[bh]at q;rw[<- q,<- l];exact h _ (I.tok _)
theorem ll{h':cT}{t':Nat}{c:HO}(I:Inv X ag σ H s)(mu:Hd (H a))(hs:Heap.SameBut a s.heap h')(he:∃ q,h'.get? a=some q)(new:ew X.prog X.w (upd H a c) h' a c):
  Inv X ag σ (upd H a c) {s with heap:=h',toks:=t'}:=
 I.write (x:=a) (e:=a) mu (.inl O) (λb q d z=>(hs.2 b d).trans z) he new
theorem Al{P:cK}{w:cN}{H':Hp}{h':cT}{kvs:List (Key×V)}{vs:List (Key×cH)}(z:kvs.length<=cQ)(hd:(a == sysModules)=false)(b:KV kvs vs)(dd:h'.DictOf (eJ P w) a vs):
  ew P w H' h' a (.dK kvs):=⟨z,hd,vs,b,dd⟩
theorem wU{H':Hp}{Q:Unit->cI->Prop}(D:A.units+1<cLine)(I:Inv X ag σ H s)(g:xg H a y v H')(t:dt y u)(B:dt v r)(h:∀ s',Inv X ag σ H' s'->Q () s'):
  cR (model X.prog X.w) A (setItem (.ref a) u r) Q E s:=by
 rcases g with⟨kvs,k,e,ey,l,n⟩|⟨kvs,k,b,e,ey,w,l,n⟩
 ·subst ey n;obtain⟨z,m,vs,d,dd⟩:=Ak I.hok e;have p:vs.length<=cQ:=by rw[<- d.length];exact z
  have o:(iK kvs k v).length<=cQ:=by have:=jF kvs k v;lia
  refine wpAny_setItem_pairs (hsz:=p) (nR t) dd λh' f j=>h _ ?_;have F:∃q,h'.get? a=Z q:=let ⟨q,_,_,i,_⟩:=f;⟨q,i⟩
  exact ll I (by rw[e];exact True.intro) j F (Al o m (d.put k B) f)
 ·subst ey n;cases(show u=Value.ref b from t);obtain⟨z,m,xs,d,dd⟩:=IQ I.hok e;have p:xs.length<=cQ:=by rw[<- Paired.length d];exact z
  have o:(iK kvs k v).length<=cQ:=by have:=jF kvs k v;lia
  refine wpAny_setItem_heap (hsz:=p) (tupleKind_room_in1 D) (lJ I.hok w) dd λh' f j=>h _ ?_;obtain⟨q,es,ep,i,h2,am,G,_,C⟩:=f;refine ll I (by rw[e];exact True.intro) j ⟨q,i⟩ ⟨o,m,_,(d.put k w B).keeps λc ys x=>?_,q,es,ep,i,h2,am,G,C⟩;rw[dD (Ij x e (λz=>nomatch z))];exact x
end
section
variable{X:Cx}{ag:List (cJ×Obj)}{σ:St}{H:Hp}{s:cI}{a:cJ}{kvs:List (Key×V)}{k:Key}{u:cH}{A:cM}{E:cH->cI->Prop}
end
theorem sD{X:Cx}{ag:List (cJ×Obj)}{σ:St}{H:Hp}{s:cI}{a:cJ}{y:V}{o:Option V}(I:Inv X ag σ H s)(g:mQ H a y o):s.TypeIs (.ref a) "dict":=by
 rcases g with⟨kvs,k,e,_,_⟩|⟨kvs,k,b,e,_,_,_⟩
 ·obtain⟨_,_,vs,_,dd⟩:=n3 I.hok e;exact dd.typeIs
 ·obtain⟨_,_,xs,_,dd⟩:=n2 I.hok e;exact dd.typeIs
section
variable{X:Cx}{o i e value:Expr}{pos pos' tpos:Pos}{td ty tv:TE}
end
theorem sC{P:cK}{w:cN}{H:Hp}(h:cT)(hb:sysModules<h.objs.size):ew P w H (h.push {cls:=.type "dict",data:=.dict #[]}) h.objs.size (.dK []):=
 ⟨bj _,beq_eq_false_iff_ne.mpr (Ne.symm (nN1 hb)),[],.nil,Heap.DictOf.new h⟩
def Eu:TE:=λ_ H Q=>∀p,H p=Y->Q (.ref p) (upd H p (.dK []))
section
variable{X:Cx}{pos:Pos}
theorem yG:PE X (.Dict [] [] pos) Eu:=λag s σ H Q I h=>
 wpAny_Dict_empty ⟨.ref s.heap.objs.size,_,I.laid (a:=s.heap.objs.size) (o:=.dK []) (t':=s.toks) (λ_ _ q=>hP1 _ q) (nR1 _) (sC s.heap I.big),O,h _ (I.hok.fresh (nR1 _))⟩
end
def pO:List (TE×TE)->St->Hp->(List (V×V)->Hp->Prop)->Prop
 |[],_,H,Q=>Q [] H
 |(tk,tv)::r,σ,H,Q=>tk σ H λx H1=>tv σ H1 λy H2=>pO r σ H2 λps H3=>Q ((x,y)::ps) H3
abbrev VV:List (V×V)->List (cH×cH)->Prop:=Paired λp q=>dt p.1 q.1/\dt p.2 q.2
def I9(X:Cx)(pos:Pos)(keys:List (Option Expr))(values:List Expr)(trs:List (TE×TE)):Prop:=
 ∀(ag:List (cJ×Obj)) (s:cI) (σ:St) (H:Hp) (Q:List (V×V)->Hp->Prop),Inv X ag σ H s->pO trs σ H Q ->
  cR (model X.prog X.w) X.A (evalPairs (pairTrees keys values X.env pos)) (λvs s'=>∃ps H',Inv X ag σ H' s'/\VV ps vs/\Q ps H') X.xe s
theorem BC{X:Cx}{pos:Pos}:I9 X pos [] [] []:=λag s σ H Q I h=>pairTrees_nil_walk ⟨[],H,I,.nil,h⟩
theorem yx{X:Cx}{pos:Pos}{k v:Expr}{ks:List (Option Expr)}{vs:List Expr}{tk tv:TE}{a:List (TE×TE)}(hk:PE X k tk)(hv:PE X v tv)(hr:I9 X pos ks vs a):
  I9 X pos (Z k::ks) (v::vs) ((tk,tv)::a):=λag s σ H Q I h=>
 pairTrees_cons_walk (eR (hk ag s σ H _ I h) λu o ⟨x,H1,e,n,m⟩=>eR (hv ag o σ H1 _ e m) λq l ⟨y,H2,f,c,g⟩=>
  eR (hr ag l σ H2 _ f g) λws p ⟨ps,d,i,b,j⟩=>⟨(x,y)::ps,d,i,.cons ⟨n,c⟩ b,j⟩)
def i0(kvs more:List (Key×V)):List (Key×V):=more.foldl (λacc kv=>iK acc kv.1 kv.2) kvs
theorem KV.merge:∀{more:List (Key×V)} {rs:List (Key×cH)} {kvs:List (Key×V)} {vs:List (Key×cH)},KV more rs->KV kvs vs->KV (i0 kvs more) (merged vs rs):=by
 intro more rs kvs vs r;unfold KV at r
 induction r generalizing kvs vs with
 |nil=>intro q;exact q
 | @cons p q ps b h t ih=>
  intro a;have e:KV (iK kvs p.1 p.2) (stored vs q.1 q.2):=by
   have:=a.put p.1 h.2;rw[<- h.1];exact this
  exact ih e
theorem kh:∀(more kvs:List (Key×V)),(i0 kvs more).length<=kvs.length+more.length
 |[],kvs=>by show kvs.length<=kvs.length+0;lia
 |p::r,kvs=>by
  have h1:=kh r (iK kvs p.1 p.2);have h2:=jF kvs p.1 p.2;show(i0 (iK kvs p.1 p.2) r).length<=_;rw[lC1];lia
theorem n8{P:cK}{w:cN}:∀{kvs:List (Key×V)} {ws:List (cH×cH)},VV (kvs.map λe=>(kV e.1,e.2)) ws -> ∃d,Carries (eJ P w) ws d/\KV kvs d
 |[],_,r=>by rw[ba]at r;cases r;exact⟨[],True.intro,.nil⟩
 |p::kvs,_,r=>by
  rw[mP1]at r;cases r with
  | @cons a b as bs h t=>
   obtain⟨d,c,q⟩:=n8 (P:=P) (w:=w) t;obtain⟨b1,b2⟩:=b;exact⟨(p.1,b2)::d,⟨nR h.1,O,c⟩,.cons ⟨O,h.2⟩ q⟩
def HA(trs:List (TE×TE)):TE:=fun σ H Q=>∀p,H p=Y->pO trs σ (upd H p (.dK [])) λps H2=>H2 p=Z (.dK []) /\ ∃kvs:List (Key×V),ps=kvs.map (λkv=>(kV kv.1,kv.2))/\kvs.length<=15/\Q (.ref p) (upd H2 p (.dK (i0 [] kvs)))
theorem BK{X:Cx}{pos:Pos}{keys:List (Option Expr)}{values:List Expr}{d:List (TE×TE)}(h:I9 X pos keys values d)(f:keys.all (·.isSome)=M)(u:keys.length=values.length)(r:keys≠[])(g:keys.length<=15):PE X (.Dict keys values pos) (HA d):=by
 intro ag s σ H Q I q;have t:=I.hok.fresh (nR1 s.heap.objs.size);have y:=I.laid (a:=s.heap.objs.size) (o:=.dK []) (h':=s.heap.push {cls:=.type "dict",data:=.dict #[]}) (t':=s.toks) (λ_ _ q=>hP1 _ q) (nR1 _) (sC s.heap I.big);refine wpAny_Dict_walk (knd:=eJ X.prog X.w) f u r g (eR (h ag _ σ _ _ y (q _ t)) λws D ⟨ps,H2,j,i,e,kvs,ep,C,B⟩=>?_);subst ep;obtain⟨m,c,p⟩:=n8 (P:=X.prog) (w:=X.w) i;obtain⟨z,v,k,x,dd⟩:=Ak j.hok e;cases x;refine⟨m,c,dd,λh' b n=>⟨.ref s.heap.objs.size,_,?_,O,B⟩⟩;have A:(i0 [] kvs).length<=cQ:=by
  have h1:=kh kvs [];rw[bf]at h1;rw[sizeLine_eq];lia
 have l:∃q,h'.get? s.heap.objs.size=Z q:=let ⟨q,_,_,hq,_⟩:=b;⟨q,hq⟩
 exact ll j (by rw[e];exact True.intro) n l (Al A v (p.merge .nil) b)
structure M1 (X:Cx)(o:Expr)(m:Str)(apos:Pos)(e:Expr)(cpos:Pos):Prop where
 base:attributeBase o m X.env (eval o X.env)=eval o X.env
 few:((backTo cpos (cP [e] X.env)).all (λx=> !x.1)&&(backToKw cpos (keywordEach [] X.env)).all (λx=>x.1.isSome)
  && decide (([e]:List Expr).length+([]:List Keyword).length+(if([]:List Keyword).isEmpty then 0 else 1)<30))=true
 line:(apos.endLine == cpos.line)=true
 trees:backTo cpos (cP [e] X.env)=[(false,eval e X.env)]
def Kv(H:Hp)(a:cJ):Prop:=(∃kvs,Rd H a (.dK kvs)) \/ ∃kvs,Rd H a (.dT kvs)
theorem Gv{X:Cx}{ag:List (cJ×Obj)}{σ:St}{H:Hp}{s:cI}{a:cJ}(I:Inv X ag σ H s)(d:Kv H a):
  s.TypeIs (.ref a) "dict"/\(∀b,Value.ref a = .ref b -> ∃c,s.heap.get? b=Z c/\c.dict=Y)/\(a == sysModules)=J:=by
 rcases d with⟨kvs,e⟩|⟨kvs,e⟩
 ·obtain⟨_,f,vs,_,dd⟩:=n3 I.hok e;refine⟨dd.typeIs,λb q=>?_,f⟩;cases q;obtain⟨c,_,_,h1,h2,_⟩:=dd;exact⟨c,h1,h2.2.1⟩
 ·obtain⟨_,f,xs,_,dd⟩:=n2 I.hok e;refine⟨dd.typeIs,λb q=>?_,f⟩;cases q;obtain⟨c,_,_,h1,h2,_⟩:=dd;exact⟨c,h1,h2.2.1⟩
section
variable{X:Cx}{ag:List (cJ×Obj)}{σ:St}{H:Hp}{s:cI}{a:cJ}{y d:V}{u r:cH}{o:Option V}{A:cM}{E:cH->cI->Prop}
theorem GO{Q:cH->cI->Prop}(m:A.units+1<cLine)(I:Inv X ag σ H s)(g:mQ H a y o)(f:dt y u)(h:∀ i s',Inv X ag σ H s'->dt (o.getD .non) i->Q i s'):
  cR (model X.prog X.w) A (call (.builtin "dict.get") [.ref a,u]) Q E s:=by
 rcases g with⟨kvs,k,e,ey,l⟩|⟨kvs,k,b,e,ey,j,l⟩
 ·subst ey;obtain⟨z,d,vs,c,dd⟩:=n3 I.hok e;refine call_meetsIn PySem.F.slot_dict_get dd.typeIs PySem.F.entry_dict_get (PySem.F.args_dict_get_2 _ _) (meets_dict_get (eJ X.prog X.w) a (nR f) d) ⟨_,dd.mapOf,h _ _ (I.tok _) ?_⟩;rw[l];exact(c.val k).getD O
 ·subst ey;cases(show u=Value.ref b from f);obtain⟨z,d,xs,c,dd⟩:=n2 I.hok e;refine call_meetsIn PySem.F.slot_dict_get dd.typeIs PySem.F.entry_dict_get (PySem.F.args_dict_get_2 _ _) (meetsH_dict_get (tupleKind (eJ X.prog X.w)) a b d) ⟨tupleKind_room_in1 m,k,xs,lJ I.hok j,dd,h _ _ (I.tok _) ?_⟩;rw[l];exact(c.val k).getD O
end
def Ew(td ty:TE):TE:=fun σ H Q=>td σ H λx H1=>∃a,x = .ref a/\Kv H1 a/\ty σ H1 λy H2=>∃o,mQ H2 a y o/\Q (o.getD .non) H2
section
variable{X:Cx}{o e f:Expr}{apos cpos:Pos}{td ty tx:TE}
theorem yH (n:X.A.units+1<cLine)(ho:PE X o td)(he:PE X e ty)(m:M1 X o "get" apos e cpos):PE X (.Call (.Attribute o "get" apos) [e] [] cpos) (Ew td ty):=by
 intro ag s σ H Q I h;refine wpAny_Call_method m.base m.few m.line PySem.F.plainAttrs_dict PySem.F.slot_dict_get PySem.F.type_dict_get (eR (ho ag s σ H _ I h) λu t ⟨x,H1,c,r,a,ex,d,p⟩=>?_);subst ex;obtain rfl:u=Value.ref a:=r;obtain⟨i,q,_⟩:=Gv c d;refine⟨i,q,?_⟩;rw[m.trees];refine Calls.callWith_builtin O (Calls.evalArgs_plain (Calls.spliced_cons (eR (he ag t σ H1 _ c p) λB A ⟨y,H2,j,f,v,g,k⟩=>Calls.spliced_nil ?_)));exact GO n j g f λw z l b=>⟨_,H2,l,b,k⟩
end
section
variable{X:Cx}{ag:List (cJ×Obj)}{σ:St}{H:Hp}{s:cI}{a:cJ}{kvs:List (Key×V)}{A:cM}{E:cH->cI->Prop}
end
section
variable{X:Cx}{ag:List (cJ×Obj)}{σ:St}{H:Hp}{s:cI}{a:cJ}{y:V}{u:cH}{A:cM}{E:cH->cI->Prop}
end
end L2
namespace Mi
open PySem PySem.Spec PyProof.Rows L2
inductive TK where
 |non|int (i:Int)|tup (xs:List TK)
instance:DecidableEq TK:=λ_ _=>Classical.propDecidable _
mutual
def TK.hash:TK->Int
 | .non=>0xFCA86420
 | .int i=>hashInt i
 | .tup xs=>reduceHash (Builtin.Tuple.tupleHashOf (TK.hashes xs))
def TK.hashes:List TK->List Int
 |[]=>[]
 |x::xs=>TK.hash x::TK.hashes xs
end
mutual
def TK.draws:TK->Nat
 | .non=>1
 | .int _=>1
 | .tup xs=>TK.drawsAll xs+1
def TK.drawsAll:List TK->Nat
 |[]=>0
 |x::xs=>TK.draws x+TK.drawsAll xs
end
mutual
def TK.dep:TK->Nat
 | .non=>0
 | .int _=>0
 | .tup xs=>TK.depAll xs+1
def TK.depAll:List TK->Nat
 |[]=>0
 |x::xs=>max (TK.dep x) (TK.depAll xs)
end
theorem TK.dep_mem:∀{xs:List TK} {x:TK},x∈xs->x.dep<=TK.depAll xs
 |y::ys,x,h=>by
  rw[TK.depAll];rcases aD.mp h with e|e
  ·rw[e];exact Nat.le_max_left _ _
  ·exact aB (TK.dep_mem e) (Nat.le_max_right _ _)
theorem TK.hashes_app:∀a b:List TK,TK.hashes (a++b)=TK.hashes a++TK.hashes b
 |[],_=>rfl
 |x::xs,b=>by rw[bm,TK.hashes,TK.hashes,TK.hashes_app xs b];rfl
theorem TK.draws_app:∀a b:List TK,TK.drawsAll (a++b)=TK.drawsAll a+TK.drawsAll b
 |[],_=>by simp[TK.drawsAll]
 |x::xs,b=>by rw[bm,TK.drawsAll,TK.drawsAll,TK.draws_app xs b,bo]
def uH(xs:Array Nat):Prop:=xs.toList.Pairwise (· < ·)
def Dy(m:Nat):Nat->Nat->Nat->List Nat
 |0,_,_=>[]
 |n+1,i,b=>List.range' i (SetTable.runEnd m i-i+1)++Dy m n (SetTable.leap m i b).1 (SetTable.leap m i b).2
def Li(m:Nat):Prop:=m=7\/m=31\/m=127
def JM(m:Nat)(h:Int):List Nat:=Dy m (SetTable.turns m) (SetTable.bits h%(m+1)) (SetTable.bits h)
def JO(m:Nat)(occ:List Nat)(h:Int)(j:Nat):Prop:=∃pre post,JM m h=pre++j::post /\ ∀y∈pre,y∈occ
structure JN (es:Array (Int×cH))(t:SetTable):Prop where
 mks:Li t.mask
 up:uH t.place
 du:t.dummies = #[]
 sz:t.place.size=es.size
 le:∀j∈t.place.toList,j<=t.mask
 fl:es.size<=t.mask
 rc:∀z∈t.place.toList.zip es.toList,JO t.mask t.place.toList z.2.1 z.1
def stO(es:Array (Int×cH))(ep:Nat)(t:SetTable):Obj:={cls:=.type "set",dict:=Y,data:=.set es ep t,slots:= #[]}
def I7(a:cJ)(xs:List (TK×cJ×cH))(h:cT):Prop:=(xs.map (·.1)).Nodup /\ ∃es ep t,h.get? a=Z (stO es ep t)/\JN es t/\t.tooFull=J/\(∀e∈es.toList,∃z∈xs,e=(z.1.hash,.ref z.2.1))/\(∀z∈xs,(z.1.hash,Value.ref z.2.1)∈es.toList)/\es.size=xs.length
inductive D where
 |non|bl (b:Bool)|int (i:Int)|str (x:Str)|tup (xs:List D)|rol (xs:List D)|ref (n:Nat)|fn (x:Str)
inductive Ob where
 |lst (xs:List D)|dct (kvs:List (Key×D))|dcT (kvs:List (TK×D))|iset (xs:List Int)|dcF (kvs:List (TK×D))|tst (ks:List TK)
abbrev Sto:=List Ob
abbrev Ev:=List (Option D)
abbrev FE:=Ev->Sto->Option (D×Sto)
abbrev FT:=Ev->Sto->Option (Bool×Sto)
abbrev FA:=Ev->Sto->Option (List D×Sto)
abbrev FN:=List D->Sto->Option (D×Sto)
inductive Fl where
 |nx|rt (d:D)|bk|ct
abbrev FS:=Ev->Sto->Option (Fl×Ev×Sto)
def RoL(K:Fg1)(H:Hp)(a:cJ)(xs:List V):Prop:=(∃o,H a=Z (.frz o (.lst xs))) \/
 ∃(o:Obj) (its:Array cH) (n:Nat),K.lookup a=Z o/\o.cls = .type "list"/\o.dict=Y/\o.data = .seq its n/\its.size<=cQ/\dM xs its.toList
theorem RoL.sq{K:Fg1}{H:Hp}{a:cJ}{xs:List V}(h:RoL K H a xs):lv K H a xs:=h.elim (λ⟨o,q⟩=>.inl (.inr ⟨o,q⟩)) .inr
mutual
inductive ez (K:Fg1)(H:Hp)(mu:List cJ):D->V->Prop
 |non:ez K H mu .non .non
 |bl (b:Bool):ez K H mu (.bl b) (.bl b)
 |int (i:Int):ez K H mu (.int i) (.int i)
 |str (x:Str):ez K H mu (.str x) (.str x)
 |tup {ds:List D} {vs:List V} {a:cJ} (h:jt K H a vs) (r:dk K H mu ds vs):ez K H mu (.tup ds) (.ref a)
 |rol {ds:List D} {vs:List V} {a:cJ} (h:RoL K H a vs) (r:dk K H mu ds vs):ez K H mu (.rol ds) (.ref a)
 |ref {n:Nat} {a:cJ} (h:mu[n]?=some a):ez K H mu (.ref n) (.ref a)
 |fn {x:Str} {a:cJ} (h:wN1 K cO x=some (some (.ref a))):ez K H mu (.fn x) (.ref a)
inductive dk (K:Fg1)(H:Hp)(mu:List cJ):List D->List V->Prop
 |nil:dk K H mu [] []
 |cons {d:D} {v:V} {ds:List D} {vs:List V} (r:ez K H mu d v) (t:dk K H mu ds vs):dk K H mu (d::ds) (v::vs)
end
structure Ext (mu mu':List cJ)(H H':Hp):Prop where
 pre:mu <+: mu'
 old:∀a o,H a=some o->a∉mu->H' a=some o
 tup:∀a xs,Rd H a (.tup xs)->Rd H' a (.tup xs)
 frz:∀a o u,H a=some (.frz o u)->H' a=some (.frz o u)
 new:∀a∈mu',a∈mu\/H a=none
theorem Ext.refl(mu:List cJ)(H:Hp):Ext mu mu H H:=⟨bp,λ_ _ h _=>h,λ_ _ h=>h,λ_ _ _ h=>h,λ_ h=>.inl h⟩
theorem Ext.trans{mu m1 m2:List cJ}{H H1 H2:Hp}(a:Ext mu m1 H H1)(b:Ext m1 m2 H1 H2):Ext mu m2 H H2 where
 pre:=a.pre.trans b.pre
 old:=λc o h n=>b.old c o (a.old c o h n) λz=>by
  rcases a.new c z with q|q
  ·exact n q
  ·rw[h]at q;cases q
 tup:=λc xs h=>b.tup c xs (a.tup c xs h)
 frz:=λc o u h=>b.frz c o u (a.frz c o u h)
 new:=λc h=>by
  rcases b.new c h with q|q
  ·exact a.new c q
  ·by_cases z:c∈mu
   ·exact .inl z
   ·right;cases e:H c with
    |none=>rfl
    |some o=>rw[a.old c o e z]at q;cases q
theorem Ext.at{mu mu':List cJ}{H H':Hp}(e:Ext mu mu' H H'){n:Nat}{a:cJ}(h:mu[n]?=Z a):mu'[n]?=Z a:=by
 obtain⟨t,rfl⟩:=e.pre;have b:n<mu.length:=(gE1.mp h).1;rw[gL1 b];exact h
theorem Ext.back{mu mu':List cJ}{H H':Hp}(e:Ext mu mu' H H'):Ext mu mu H H':=⟨bp,e.old,e.tup,e.frz,λ_ h=>.inl h⟩
structure qT (mu mu':List cJ)(H H':Hp):Prop where
 pre:mu <+: mu'
 tup:∀a xs,Rd H a (.tup xs)->Rd H' a (.tup xs)
 frz:∀a o u,H a=some (.frz o u)->H' a=some (.frz o u)
theorem Ext.w{mu mu':List cJ}{H H':Hp}(e:Ext mu mu' H H'):qT mu mu' H H':=⟨e.pre,e.tup,e.frz⟩
theorem qT.trans{mu m1 m2:List cJ}{H H1 H2:Hp}(a:qT mu m1 H H1)(b:qT m1 m2 H1 H2):qT mu m2 H H2:=⟨a.pre.trans b.pre,λc xs h=>b.tup c xs (a.tup c xs h),λc o u h=>b.frz c o u (a.frz c o u h)⟩
theorem qT.at{mu mu':List cJ}{H H':Hp}(e:qT mu mu' H H'){n:Nat}{a:cJ}(h:mu[n]?=Z a):mu'[n]?=Z a:=by
 obtain⟨t,rfl⟩:=e.pre;have b:n<mu.length:=(gE1.mp h).1;rw[gL1 b];exact h
structure D5 (mu mu':List cJ)(H H':Hp):Prop where
 pre:mu <+: mu'
 tup:∀a xs,Rd H a (.tup xs)->Rd H' a (.tup xs)
 frl:∀a o xs,H a=some (.frz o (.lst xs))->H' a=some (.frz o (.lst xs))
theorem qT.v{mu mu':List cJ}{H H':Hp}(e:qT mu mu' H H'):D5 mu mu' H H':=⟨e.pre,e.tup,λa o xs h=>e.frz a o _ h⟩
theorem Ext.v{mu mu':List cJ}{H H':Hp}(e:Ext mu mu' H H'):D5 mu mu' H H':=e.w.v
theorem D5.at{mu mu':List cJ}{H H':Hp}(e:D5 mu mu' H H'){n:Nat}{a:cJ}(h:mu[n]?=Z a):mu'[n]?=Z a:=by
 obtain⟨t,rfl⟩:=e.pre;have b:n<mu.length:=(gE1.mp h).1;rw[gL1 b];exact h
theorem jt.exv{K:Fg1}{mu mu':List cJ}{H H':Hp}{a:cJ}{vs:List V}(e:D5 mu mu' H H')(h:jt K H a vs):jt K H' a vs:=by
 rcases h with h|h
 ·exact .inl (e.tup a vs h)
 ·exact .inr h
theorem RoL.exv{K:Fg1}{mu mu':List cJ}{H H':Hp}{a:cJ}{vs:List V}(e:D5 mu mu' H H')(h:RoL K H a vs):RoL K H' a vs:=by
 rcases h with⟨o,h⟩|h
 ·exact .inl ⟨o,e.frl a o _ h⟩
 ·exact .inr h
theorem ez.exv{K:Fg1}{mu mu':List cJ}{H H':Hp}(e:D5 mu mu' H H'):∀ {d:D} {v:V},ez K H mu d v->ez K H' mu' d v:=fun h=>h.rec (motive_1:=fun d v _=>ez K H' mu' d v) (motive_2:=fun ds vs _=>dk K H' mu' ds vs)
  .non .bl .int .str (λh _ ih=>.tup (jt.exv e h) ih) (λh _ ih=>.rol (RoL.exv e h) ih) (λh=>.ref (e.at h)) (λh=>.fn h) .nil (λ_ _ a b=>.cons a b)
theorem dk.ind{K:Fg1}{mu:List cJ}{H:Hp}{P:(ds:List D)->(vs:List V)->dk K H mu ds vs->Prop}(hn:P [] [] .nil)(hc:∀{d v ds vs} (r:ez K H mu d v) (t:dk K H mu ds vs),P ds vs t->P (d::ds) (v::vs) (.cons r t)){ds:List D}{vs:List V}(h:dk K H mu ds vs):P ds vs h:=
 h.rec (motive_1:=λ_ _ _=>True) (motive_2:=P) trivial (λ_=>trivial) (λ_=>trivial) (λ_=>trivial) (λ_ _ _=>trivial) (λ_ _ _=>trivial) (λ_=>trivial) (λ_=>trivial) hn (λr t _ ih=>hc r t ih)
theorem dk.exv{K:Fg1}{mu mu':List cJ}{H H':Hp}(e:D5 mu mu' H H'):∀{ds:List D} {vs:List V},dk K H mu ds vs->dk K H' mu' ds vs:=λh=>h.ind (P:=λds vs _=>dk K H' mu' ds vs) .nil λr _ ih=>.cons (ez.exv e r) ih
section
variable{K:Fg1}{mu mu':List cJ}{H H':Hp}{a:cJ}{vs:List V}
theorem ez.exw(e:qT mu mu' H H'){d:D}{v:V}(h:ez K H mu d v):ez K H' mu' d v:=h.exv e.v
theorem dk.exw(e:qT mu mu' H H'){ds:List D}(h:dk K H mu ds vs):dk K H' mu' ds vs:=h.exv e.v
theorem ez.ext(e:Ext mu mu' H H'){d:D}{v:V}(h:ez K H mu d v):ez K H' mu' d v:=h.exv e.v
theorem dk.ext(e:Ext mu mu' H H'){ds:List D}(h:dk K H mu ds vs):dk K H' mu' ds vs:=h.exv e.v
end
section
variable{K:Fg1}{H:Hp}{mu:List cJ}
theorem dk.length:∀{ds:List D} {vs:List V},dk K H mu ds vs->ds.length=vs.length:=λh=>h.ind (P:=λds vs _=>ds.length=vs.length) O λ_ _ ih=>congrArg (· + 1) ih
theorem dk.get:∀{ds:List D} {vs:List V} {i:Nat} {d:D},dk K H mu ds vs->ds[i]?=Z d -> ∃v,vs[i]?=Z v/\ez K H mu d v:=by
 intro ds vs i d h e
 induction h using dk.ind generalizing i with
 |hn=>cases e
 |hc r t ih=>cases i with
  |zero=>cases e;exact⟨_,O,r⟩
  |succ i=>exact ih (i:=i) e
theorem dk.getV:∀{ds:List D} {vs:List V} {i:Nat} {v:V},dk K H mu ds vs->vs[i]?=Z v -> ∃d,ds[i]?=Z d/\ez K H mu d v:=by
 intro ds vs i d h e
 induction h using dk.ind generalizing i with
 |hn=>cases e
 |hc r t ih=>cases i with
  |zero=>cases e;exact⟨_,O,r⟩
  |succ i=>exact ih (i:=i) e
theorem dk.append:∀{ds es:List D} {vs ws:List V},dk K H mu ds vs->dk K H mu es ws->dk K H mu (ds++es) (vs++ws):=λh s=>h.ind (P:=λds vs _=>dk K H mu (ds++_) (vs++_)) s λr _ ih=>.cons r ih
theorem dk.take:∀{ds:List D} {vs:List V} (n:Nat),dk K H mu ds vs->dk K H mu (ds.take n) (vs.take n):=by
 intro ds vs n h
 induction h using dk.ind generalizing n with
 |hn=>rw[au,au];exact .nil
 |hc r t ih=>cases n with
  |zero=>exact .nil
  |succ n=>exact .cons r (ih n)
theorem dk.drop:∀{ds:List D} {vs:List V} (n:Nat),dk K H mu ds vs->dk K H mu (ds.drop n) (vs.drop n):=by
 intro ds vs n h
 induction h using dk.ind generalizing n with
 |hn=>rw[av,av];exact .nil
 |hc r t ih=>cases n with
  |zero=>exact .cons r t
  |succ n=>exact ih n
theorem dk.set{d:D}{v:V}(r:ez K H mu d v):∀{ds:List D} {vs:List V} (i:Nat),dk K H mu ds vs->dk K H mu (ds.set i d) (vs.set i v):=by
 intro ds vs i h
 induction h using dk.ind generalizing i with
 |hn=>exact .nil
 |hc q t ih=>cases i with
  |zero=>exact .cons r t
  |succ i=>exact .cons q (ih i)
theorem dk.reverse:∀{ds:List D} {vs:List V},dk K H mu ds vs->dk K H mu ds.reverse vs.reverse:=by
 intro ds vs h
 induction h using dk.ind with
 |hn=>exact .nil
 |hc r t ih=>rw[bq,bq];exact dk.append ih (.cons r .nil)
end
def KR{κ:Type}(K:Fg1)(H:Hp)(mu:List cJ):List (κ×D)->List (κ×V)->Prop:=Paired λp q=>p.1=q.1/\ez K H mu p.2 q.2
mutual
def oz:TK->D
 | .non=>.non
 | .int i=>.int i
 | .tup xs=>.tup (mF xs)
def mF:List TK->List D
 |[]=>[]
 |x::xs=>oz x::mF xs
end
def i7(a:cJ)(xs:List (TK×cJ×cH))(h:cT):Prop:=(a == sysModules)=J/\(xs.map (·.1)).Nodup /\ ∃o es ep,h.get? a=Z o/\o.ExactDict/\o.data = .dict es ep/\es.toList=xs.map λx=>(⟨x.1.hash,.ref x.2.1,x.2.2⟩:DictEntry)
def D6(a:cJ)(xs:List (TK×cJ×cH))(o:Obj):Prop:=(a == sysModules)=J/\(xs.map (·.1)).Nodup/\o.ExactDict /\ ∃es ep,o.data = .dict es ep/\es.toList=xs.map λx=>(⟨x.1.hash,.ref x.2.1,x.2.2⟩:DictEntry)
def KT(K:Fg1)(H:Hp)(mu:List cJ):List (TK×D)->List (TK×cJ×cH)->Prop:=Paired λp q=>p.1=q.1/\p.1.dep<=8/\ez K H mu (oz p.1) (.ref q.2.1) /\ ∃v,dt v q.2.2/\ez K H mu p.2 v
def oB(K:Fg1)(H:Hp)(mu:List cJ)(a:cJ):Ob->Prop
 | .lst ds=>∃vs,H a=Z (.lst vs)/\dk K H mu ds vs
 | .dct kvs=>∃ws,H a=Z (.dK ws)/\KR K H mu kvs ws
 | .dcT kvs=>∃xs,H a=Z (.ext (i7 a xs))/\KT K H mu kvs xs/\xs.length<=cQ
 | .iset xs=>H a=Z (.set (λk=>xs.contains k) xs.length)/\xs.Nodup
 | .dcF kvs=>∃xs,(∃o u,H a=Z (.frz o u)/\D6 a xs o)/\KT K H mu kvs xs/\xs.length<=cQ
 | .tst ks=>∃xs,H a=Z (.ext (I7 a xs))/\KT K H mu (ks.map λk=>(k,D.non)) xs
structure Sim (K:Fg1)(H:Hp)(mu:List cJ)(S:Sto):Prop where
 len:mu.length=S.length
 nd:mu.Nodup
 ob:∀(n:Nat) (o:Ob) (a:cJ),S[n]?=some o->mu[n]?=some a->oB K H mu a o
structure fy (K:Fg1)(H:Hp)(mu:List cJ)(r:Ev)(σ:L2.St):Prop where
 len:r.length=σ.length
 val:∀(i:Nat) (d:D),r[i]?=some (some d) -> ∃v,σ[i]?=some (some v)/\ez K H mu d v
theorem fy.ext{K:Fg1}{mu mu':List cJ}{H H':Hp}{r:Ev}{σ:L2.St}(e:Ext mu mu' H H')(h:fy K H mu r σ):fy K H' mu' r σ:=⟨h.len,λi d q=>by
 obtain⟨v,a,b⟩:=h.val i d q;exact⟨v,a,b.ext e⟩⟩
theorem KR.ext{κ:Type}{K:Fg1}{mu mu':List cJ}{H H':Hp}{ks:List (κ×D)}{ws:List (κ×V)}(e:Ext mu mu' H H')(h:KR K H mu ks ws):KR K H' mu' ks ws:=
 Paired.mapP h λ_ _ z=>⟨z.1,z.2.ext e⟩
theorem KT.ext{K:Fg1}{mu mu':List cJ}{H H':Hp}{ks:List (TK×D)}{ws:List (TK×cJ×cH)}(e:Ext mu mu' H H')(h:KT K H mu ks ws):KT K H' mu' ks ws:=
 Paired.mapP h λ_ _ ⟨z,d,k,v,a,r⟩=>⟨z,d,k.ext e,v,a,r.ext e⟩
theorem Sim.nil{K:Fg1}{H:Hp}:Sim K H [] []:=⟨O,br,λn o a h=>by simp at h⟩
theorem Sim.here{K:Fg1}{H:Hp}{mu:List cJ}{S:Sto}(s:Sim K H mu S){a:cJ}(h:a∈mu):∃o,H a=Z o:=by
 obtain⟨n,b⟩:=bt h;have c:n<S.length:=by rw[<- s.len];exact(gE1.mp b).1
 have q:=s.ob n _ a (gG1 c) b;cases e:S[n]with
 |lst ds=>rw[e]at q;obtain⟨vs,z,_⟩:=q;exact⟨_,z⟩
 |dct ks=>rw[e]at q;obtain⟨vs,z,_⟩:=q;exact⟨_,z⟩
 |dcT ks=>rw[e]at q;obtain⟨vs,z,_⟩:=q;exact⟨_,z⟩
 |iset xs=>rw[e]at q;exact⟨_,q.1⟩
 |dcF ks=>rw[e]at q;obtain⟨vs,⟨_,_,z,_⟩,_⟩:=q;exact⟨_,z⟩
 |tst ks=>rw[e]at q;obtain⟨vs,z,_⟩:=q;exact⟨_,z⟩
def qM(K:Fg1)(mu:List cJ)(H:Hp)(d:D)(S':Sto)(Q:VK):Prop:=∀v H' mu',Ext mu mu' H H'->ez K H' mu' d v->Sim K H' mu' S'->Q v H'
inductive tM (K:Fg1)(m:FE)(σ:L2.St)(H:Hp)(Q:VK):Prop
 |mk (r:Ev) (mu:List cJ) (S:Sto) (d:D) (S':Sto) (he:fy K H mu r σ) (hs:Sim K H mu S) (hm:m r S=some (d,S')) (hc:qM K mu H d S' Q)
inductive xU (K:Fg1)(m:FT)(σ:L2.St)(H:Hp)(Q:Bool->Hp->Prop):Prop
 |mk (r:Ev) (mu:List cJ) (S:Sto) (b:Bool) (S':Sto) (he:fy K H mu r σ) (hs:Sim K H mu S) (hm:m r S=some (b,S')) (hc:∀H' mu',Ext mu mu' H H'->Sim K H' mu' S'->Q b H')
inductive KB (K:Fg1)(m:FA)(σ:L2.St)(H:Hp)(Q:List V->Hp->Prop):Prop
 |mk (r:Ev) (mu:List cJ) (S:Sto) (ds:List D) (S':Sto) (he:fy K H mu r σ) (hs:Sim K H mu S) (hm:m r S=some (ds,S')) (hc:∀vs H' mu',Ext mu mu' H H'->dk K H' mu' ds vs->Sim K H' mu' S'->Q vs H')
def JG(K:Fg1)(mu:List cJ)(H:Hp)(r':Ev)(S':Sto)(E:js)(f:Fl):Prop:=match f with
 | .nx=>∀ σ' H' mu',Ext mu mu' H H'->fy K H' mu' r' σ'->Sim K H' mu' S'->E.nx σ' H'
 | .bk=>∀ σ' H' mu',Ext mu mu' H H'->fy K H' mu' r' σ'->Sim K H' mu' S'->E.bk σ' H'
 | .ct=>∀ σ' H' mu',Ext mu mu' H H'->fy K H' mu' r' σ'->Sim K H' mu' S'->E.ct σ' H'
 | .rt d=>qM K mu H d S' E.rt
inductive uV (K:Fg1)(m:FS)(E:js)(σ:L2.St)(H:Hp):Prop
 |mk (r:Ev) (mu:List cJ) (S:Sto) (f:Fl) (r':Ev) (S':Sto) (he:fy K H mu r σ) (hs:Sim K H mu S) (hm:m r S=some (f,r',S')) (hc:JG K mu H r' S' E f)
inductive rN (K:Fg1)(f:FN)(vs:List V)(H:Hp)(Q:VK):Prop
 |mk (mu:List cJ) (S:Sto) (ds:List D) (d:D) (S':Sto) (hr:dk K H mu ds vs) (hs:Sim K H mu S) (hm:f ds S=some (d,S')) (hc:qM K mu H d S' Q)
abbrev ME(X:Cx)(e:Expr)(m:FE):Prop:=PE X e (tM X.K m)
abbrev MT(X:Cx)(e:Expr)(m:FT):Prop:=PT X e (xU X.K m)
abbrev MW(X:Cx)(e:Expr)(m:FT):Prop:=PW X e (xU X.K m)
abbrev MA(X:Cx)(es:List Expr)(m:FA):Prop:=PA X es (KB X.K m)
abbrev MS(X:Cx)(st:cV)(m:FS):Prop:=PS X st (uV X.K m)
abbrev xf(X:Cx)(st:List cV)(m:FS):Prop:=s9 X st (uV X.K m)
section
variable{X:Cx}{e:Expr}{es:List Expr}{st:cV}{sts:List cV}
theorem eo{t t':TE}(h:PE X e t)(i:∀ σ H Q,t' σ H Q->t σ H Q):PE X e t':=λag s σ H Q I q=>h ag s σ H Q I (i σ H Q q)
theorem pT{t t':TT}(h:PT X e t)(i:∀ σ H Q,t' σ H Q->t σ H Q):PT X e t':=λag s σ H Q I q=>h ag s σ H Q I (i σ H Q q)
theorem EX{t t':TT}(h:PW X e t)(i:∀ σ H Q,t' σ H Q->t σ H Q):PW X e t':=λa ag s σ H Q I q=>h a ag s σ H Q I (i σ H Q q)
theorem yJ{t t':TA}(h:PA X es t)(i:∀ σ H Q,t' σ H Q->t σ H Q):PA X es t':=λpos ag s σ H Q I q=>h pos ag s σ H Q I (i σ H Q q)
theorem iy{t t':TS}(h:PS X st t)(i:∀E σ H,t' E σ H->t E σ H):PS X st t':=λag s σ H E I q=>h ag s σ H E I (i E σ H q)
theorem pU{t t':TS}(h:s9 X sts t)(i:∀E σ H,t' E σ H->t E σ H):s9 X sts t':=λag s σ H E I q=>h ag s σ H E I (i E σ H q)
end
noncomputable def mV (i:Nat):FE:=λr S=>match r[i]? with
 |some (some d)=>some (d,S)
 |_=>none
noncomputable def mC (d:D):FE:=λ_ S=>some (d,S)
section
variable{X:Cx}{pos:Pos}
theorem F3 (i:Nat){x:Str}(hN:X.N[i]?=Z x)(hv:Vis X.env.scope x)(hd:(x == ("__debug__":Str))=J:=by decide)(hcd:(x == ("__classdict__":Str))=J:=by decide):ME X (.Name x pos) (mV i):=
 eo (Fb hN hv hd hcd) <| by
  rintro σ H Q ⟨r,mu,S,d,j,g,b,a,hc⟩;unfold mV at a;split at a
  ·rename_i h e;cases a;obtain⟨v,f,c⟩:=g.val i _ e;exact⟨v,f,hc v H mu (.refl _ _) c b⟩
  ·cases a
theorem zi{e:Expr}{v:V}(d:D)(h:PE X e (tC v))(hr:∀H mu,ez X.K H mu d v):ME X e (mC d):=
 eo h <| by
  rintro σ H Q ⟨r,mu,S,c,f,g,a,b,hc⟩;cases b;exact hc v H mu (.refl _ _) (hr H mu) a
theorem Gb{i:Int}{j}:ME X (.Constant (.int i) j pos) (mC (.int i)):=zi _ Fj λ_ _=>.int i
theorem Iv{b:Bool}{j}:ME X (.Constant (.bool b) j pos) (mC (.bl b)):=zi _ H0 λ_ _=>.bl b
theorem F9{j}:ME X (.Constant .none j pos) (mC .non):=zi _ Fh λ_ _=>.non
theorem F5{x:Str}{j}:ME X (.Constant (.str x) j pos) (mC (.str x)):=zi _ Fd λ_ _=>.str x
end
def cY:FA:=λ_ S=>Z ([],S)
noncomputable def cX (m:FE)(n:FA):FA:=λr S=>(m r S).bind λp=>(n r p.2).bind λq=>some (p.1::q.1,q.2)
section
variable{X:Cx}{pos:Pos}{e:Expr}{es:List Expr}{m:FE}{n:FA}
theorem Ge:MA X [] cY:=yJ lC <| by
 rintro σ H Q ⟨r,mu,S,ds,d,c,a,b,hc⟩;cases b;exact hc [] H mu (.refl _ _) .nil a
theorem Ci(h:ME X e m)(ht:MA X es n)(hs:cP (e::es) X.env=(J,eval e X.env)::cP es X.env:=by rfl):MA X (e::es) (cX m n):=
 yJ (iZ h ht hs) <| by
  rintro σ H Q ⟨r,mu,S,ds,q,g,hs,a,hc⟩;unfold cX at a;obtain⟨⟨d,f⟩,k,a⟩:=oB1.mp a;obtain⟨⟨b,s⟩,l,a⟩:=oB1.mp a;cases a;refine⟨r,mu,S,d,f,g,hs,k,λv H1 mu1 i j p=>?_⟩;refine⟨r,mu1,f,b,_,g.ext i,p,l,λvs H2 c x2 r2 o=>?_⟩;exact hc _ H2 c (i.trans x2) (.cons (j.ext x2) r2) o
end
noncomputable def m2 (f:FN)(a b:FE):FE:=λr S=>(a r S).bind λp=>(b r p.2).bind λq=>f [p.1,q.1] q.2
noncomputable def m1 (f:FN)(a:FE):FE:=λr S=>(a r S).bind λp=>f [p.1] p.2
noncomputable def mN (f:FN)(a:FA):FE:=λr S=>(a r S).bind λp=>f p.1 p.2
abbrev r2(K:Fg1)(f:FN):R2:=λx y H Q=>rN K f [x,y] H Q
section
variable{X:Cx}{K:Fg1}{f:FN}{a b:FE}{σ:L2.St}{H:Hp}{Q:VK}
theorem vr(h:tM K (m2 f a b) σ H Q):Hu (r2 K f) (tM K a) (tM K b) σ H Q:=by
 obtain⟨r,mu,S,d,y,j,o,c,hc⟩:=h;obtain⟨⟨m,i⟩,q,c⟩:=oB1.mp c;obtain⟨⟨k,l⟩,t,c⟩:=oB1.mp c;refine⟨r,mu,S,m,i,j,o,q,λv H1 mu1 n x A=>?_⟩;refine⟨r,mu1,i,k,l,j.ext n,A,t,λu H2 g x2 r2 z=>?_⟩;exact⟨g,l,[m,k],d,y,.cons (x.ext x2) (.cons r2 .nil),z,c,λv p e x3 w s=>hc v p e ((n.trans x2).trans x3) w s⟩
theorem Ix(h:tM K (m1 f a) σ H Q):KA (λx H Q=>rN K f [x] H Q) (tM K a) σ H Q:=by
 obtain⟨r,mu,S,d,n,o,i,c,hc⟩:=h;obtain⟨⟨e,g⟩,l,c⟩:=oB1.mp c;refine⟨r,mu,S,e,g,o,i,l,λv H1 mu1 p k q=>?_⟩;exact⟨mu1,g,[e],d,n,.cons k .nil,q,c,λv j b x3 s m=>hc v j b (p.trans x3) s m⟩
theorem zl{a:FA}(h:tM K (mN f a) σ H Q):KB K a σ H λvs H1=>rN K f vs H1 Q:=by
 obtain⟨r,mu,S,d,n,o,i,c,hc⟩:=h;obtain⟨⟨e,g⟩,l,c⟩:=oB1.mp c;refine⟨r,mu,S,e,g,o,i,l,λv H1 mu1 p k q=>?_⟩;exact⟨mu1,g,e,d,n,k,q,c,λv j b x3 s m=>hc v j b (p.trans x3) s m⟩
theorem Iq{op:Operator}{x y:Expr}{pos:Pos}(ho:fJ X (binaryOp op) (r2 X.K f))(hx:ME X x a)(hy:ME X y b):ME X (.BinOp x op y pos) (m2 f a b):=eo (HW ho hx hy) λ_ _ _=>vr
theorem Ip{op:UnaryOp}{x:Expr}{pos:Pos}(ho:Hh X (unaryOp op) (λx H Q=>rN X.K f [x] H Q))(hx:ME X x a):ME X (.UnaryOp op x pos) (m1 f a):=eo (HV ho hx) λ_ _ _=>Ix
theorem Gc{op:CmpOp}{x y:Expr}{pos:Pos}(ho:fJ X (compareOp op) (r2 X.K f))(hx:ME X x a)(hy:ME X y b)(hm:behindInMarks op y=J):ME X (.Compare x [op] [y] pos) (m2 f a b):=eo (BM ho hx hy hm) λ_ _ _=>vr
theorem Ir{x y:Expr}{pos:Pos}(ho:D4 X (r2 X.K f))(hx:ME X x a)(hy:ME X y b)(hs:na y):ME X (.Subscript x y pos) (m2 f a b):=eo (HX ho hx hy hs) λ_ _ _=>vr
theorem zh {x:Str}{p pos:Pos}{e:Expr}{es:List Expr}{id:String}{a:FA}(hc:eK X (.builtin id) (rN X.K f))(hg:Gl X x)(hm:X.mg x=none)(hv:bootBuiltins x=some (.builtin id))(ha:MA X (e::es) a)(hn:x≠"__name__":=by decide)(hdb:(x == ("__debug__":Str))=false:=by decide)
  (he:cP (e::es) X.env=(J,eval e X.env)::cP es X.env:=by rfl) (hpl:(backTo pos (cP es X.env)).any (·.1)=J:=by rfl):ME X (.Call (.Name x p) (e::es) [] pos) (mN f a):=
 eo (k0 hc hg hm hv ha hn hdb he hpl) λ_ _ _=>zl
theorem wC {x:Str}{p pos:Pos}{e:Expr}{es:List Expr}{T:String}{a:FA}(hc:eK X (.type T) (rN X.K f))(hg:Gl X x)(hm:X.mg x=none)(hv:bootBuiltins x=some (.type T))(ha:MA X (e::es) a)(hn:x≠"__name__":=by decide)(hdb:(x == ("__debug__":Str))=false:=by decide)
  (he:cP (e::es) X.env=(J,eval e X.env)::cP es X.env:=by rfl) (hpl:(backTo pos (cP es X.env)).any (·.1)=J:=by rfl):ME X (.Call (.Name x p) (e::es) [] pos) (mN f a):=
 eo (lB hc hg hm hv ha hn hdb he hpl) λ_ _ _=>zl
end
noncomputable def mB (m:FE):FT:=λr S=>(m r S).bind λp=>match p.1 with
 | .bl b=>some (b,p.2)
 |_=>none
theorem DI{K:Fg1}{m:FE}{σ:L2.St}{H:Hp}{Q:Bool->Hp->Prop}(h:xU K (mB m) σ H Q):tB (tM K m) σ H Q:=by
 obtain⟨r,mu,S,b,n,g,d,a,hc⟩:=h;obtain⟨⟨c,l⟩,f,a⟩:=oB1.mp a;cases c with
 |bl k=>
  cases a;refine⟨r,mu,S,_,_,g,d,f,λv H1 mu1 i e j=>?_⟩;cases e;exact⟨_,O,hc H1 mu1 i j⟩
 |_=>cases a
def Lw(a b:FT):FT:=λr S=>(a r S).bind λp=>if p.1=M then b r p.2 else Z (J,p.2)
def iN(a b:FT):FT:=λr S=>(a r S).bind λp=>if p.1=M then Z (M,p.2)else b r p.2
def eu(a:FT):FT:=λr S=>(a r S).bind λp=>Z (!p.1,p.2)
def eX(a b:FE):FE:=λr S=>(a r S).bind λp=>match p.1 with
 | .bl c=>if c=M then b r p.2 else Z (.bl J,p.2)
 |_=>Y
def Lv(a b:FE):FE:=λr S=>(a r S).bind λp=>match p.1 with
 | .bl c=>if c=M then Z (.bl M,p.2)else b r p.2
 |_=>Y
def oY(a:FE):FE:=λr S=>(a r S).bind λp=>match p.1 with
 | .bl c=>Z (.bl (!c),p.2)
 |_=>Y
def Iw(c:FT)(a b:FE):FE:=λr S=>(c r S).bind λp=>if p.1=M then a r p.2 else b r p.2
section
variable{X:Cx}{x y c:Expr}{rest:List Expr}{pos:Pos}{a b:FT}{f g:FE}
theorem FP{op:CmpOp}{f:FN}{a b:FE}(ho:fJ X (compareOp op) (r2 X.K f))(hx:ME X x a)(hy:ME X y b)(hm:behindInMarks op y=J):MT X (.Compare x [op] [y] pos) (mB (m2 f a b)):=
 pT (Bx ho hx hy hm) fun σ H Q h=>by
  obtain⟨r,mu,S,d,g,i,c,hm,hc⟩:=DI h;exact vr ⟨r,mu,S,d,g,i,c,hm,λv H' mu' j e k=>hc v H' mu' j e k⟩
theorem FL(ha:MT X x a):MW X (.BoolOp .Or [x] pos) a:=EV ha
theorem Il(ha:MT X x a)(hb:MW X (.BoolOp .Or (y::rest) pos) b):MW X (.BoolOp .Or (x::y::rest) pos) (iN a b):=
 EX (HP ha hb) <| by
  rintro σ H Q ⟨r,mu,S,k,l,g,i,c,hc⟩;obtain⟨⟨b1,f⟩,j,c⟩:=oB1.mp c;refine⟨r,mu,S,b1,f,g,i,j,λH1 mu1 d h=>?_⟩;cases b1 with
  |false=>exact⟨r,mu1,f,k,l,g.ext d,h,c,λH2 e x2 m=>hc H2 e (d.trans x2) m⟩
  |true=>cases c;exact hc H1 mu1 d h
theorem Ka(h:MW X x a):MT X x a:=PW.pt h
theorem FM(ha:MT X x a):MT X (.UnaryOp .Not x pos) (eu a):=
 pT (EZ ha) <| by
  rintro σ H Q ⟨r,mu,S,k,i,f,c,b,hc⟩;obtain⟨⟨b1,d⟩,e,b⟩:=oB1.mp b;cases b;exact⟨r,mu,S,b1,d,f,c,e,λH1 mu1 g h=>hc H1 mu1 g h⟩
theorem F7{op}(h:ME X x f):ME X (.BoolOp op [x] pos) f:=Ff h
theorem Gd(ha:ME X x f)(hb:ME X (.BoolOp .And (y::rest) pos) g):ME X (.BoolOp .And (x::y::rest) pos) (eX f g):=
 eo (Fk ha hb) <| by
  rintro σ H Q ⟨r,mu,S,k,o,h,j,a,hc⟩;obtain⟨⟨d,e⟩,n,a⟩:=oB1.mp a;refine⟨r,mu,S,d,e,h,j,n,λv H1 mu1 b l i=>?_⟩;cases d with
  |bl b1=>
   cases l;refine⟨b1,O,?_⟩;cases b1 with
   |true=>exact⟨r,mu1,e,k,o,h.ext b,i,a,λm H2 c x2 r2 p=>hc m H2 c (b.trans x2) r2 p⟩
   |false=>cases a;exact hc _ H1 mu1 b (.bl J) i
  |_=>cases a
theorem F8(ha:ME X x f):ME X (.UnaryOp .Not x pos) (oY f):=
 eo (Fg ha) <| by
  rintro σ H Q ⟨r,mu,S,k,l,h,c,a,hc⟩;obtain⟨⟨b,e⟩,g,a⟩:=oB1.mp a;refine⟨r,mu,S,b,e,h,c,g,λv H1 mu1 i d j=>?_⟩;cases b with
  |bl b1=>
   cases d;cases a;exact⟨b1,O,hc _ H1 mu1 i (.bl _) j⟩
  |_=>cases a
theorem Iu(hc:MT X c a)(hx:ME X x f)(hy:ME X y g):ME X (.IfExp c x y pos) (Iw a f g):=
 eo (yF hc hx hy) <| by
  rintro σ H Q ⟨r,mu,S,k,m,j,o,e,hc⟩;obtain⟨⟨b1,i⟩,p,e⟩:=oB1.mp e;refine⟨r,mu,S,b1,i,j,o,p,λH1 mu1 d n=>?_⟩;cases b1 with
  |true=>exact⟨r,mu1,i,k,m,j.ext d,n,e,λh H2 b x2 r2 l=>hc h H2 b (d.trans x2) r2 l⟩
  |false=>exact⟨r,mu1,i,k,m,j.ext d,n,e,λh H2 b x2 r2 l=>hc h H2 b (d.trans x2) r2 l⟩
end
def ml(f g:FN)(a b c:FE):FE:=λr S=>(a r S).bind λp=>(b r p.2).bind λq=>(f [p.1,q.1] q.2).bind λt=>match t.1 with
 | .bl k=>if k=M then(c r t.2).bind λz=>g [q.1,z.1] z.2 else Z (.bl J,t.2)
 |_=>Y
section
variable{X:Cx}{x y z:Expr}{pos:Pos}{f g:FN}{a b c:FE}{op op':CmpOp}
theorem zn{K:Fg1}{σ:L2.St}{H:Hp}{Q:VK}(h:tM K (ml f g a b c) σ H Q):tJ (r2 K f) (r2 K g) (tM K a) (tM K b) (tM K c) σ H Q:=by
 obtain⟨r,mu,S,d,R,l,B,e,hc⟩:=h;obtain⟨⟨v,q⟩,am,e⟩:=oB1.mp e;obtain⟨⟨o,u⟩,L,e⟩:=oB1.mp e;obtain⟨⟨x,t⟩,z,e⟩:=oB1.mp e;refine⟨r,mu,S,v,q,l,B,am,λaq H1 mu1 j P U=>?_⟩;refine⟨r,mu1,q,o,u,l.ext j,U,L,λV H2 p x2 r2 T=>?_⟩;refine⟨p,u,[v,o],x,t,.cons (P.ext x2) (.cons r2 .nil),T,z,λwq D i x3 ao s=>?_⟩;cases x with
 |bl k=>
  cases ao;refine⟨k,O,?_⟩;cases k with
  |false=>cases e;exact hc _ D i ((j.trans x2).trans x3) (.bl J) s
  |true=>
   obtain⟨⟨w,y⟩,ar,e⟩:=oB1.mp e;refine⟨r,i,t,w,y,l.ext ((j.trans x2).trans x3),s,ar,λW X m x4 E G=>?_⟩;exact⟨m,y,[o,w],d,R,.cons ((r2.ext x3).ext x4) (.cons E .nil),G,e,λI C n A N F=>hc I C n ((((j.trans x2).trans x3).trans x4).trans A) N F⟩
 |_=>cases e
theorem zg(ho:fJ X (compareOp op) (r2 X.K f))(ho':fJ X (compareOp op') (r2 X.K g))(hx:ME X x a)(hy:ME X y b)(hz:ME X z c)(hm:lastMarks [op,op'] [y,z]=false:=by with_unfolding_all rfl):
  ME X (.Compare x [op,op'] [y,z] pos) (ml f g a b c):=eo (yI ho ho' hx hy hz hm) λ_ _ _=>zn
theorem yZ(ho:fJ X (compareOp op) (r2 X.K f))(ho':fJ X (compareOp op') (r2 X.K g))(hx:ME X x a)(hy:ME X y b)(hz:ME X z c)(hm:lastMarks [op,op'] [y,z]=false:=by with_unfolding_all rfl):
  MT X (.Compare x [op,op'] [y,z] pos) (mB (ml f g a b c)):=
 pT (yt ho ho' hx hy hz hm) fun σ H Q h=>by
  obtain⟨r,mu,S,d,j,k,e,hm,hc⟩:=DI h;exact zn ⟨r,mu,S,d,j,k,e,hm,λv H' mu' l i m=>hc v H' mu' l i m⟩
end
mutual
def D.und(n:Nat):D->Bool
 | .tup xs=>D.unds n xs
 | .rol xs=>D.unds n xs
 | .ref k=>decide (k<n)
 | .non=>M
 | .bl _=>M
 | .int _=>M
 | .str _=>M
 | .fn _=>M
def D.unds(n:Nat):List D->Bool
 |[]=>M
 |d::ds=>D.und n d&&D.unds n ds
end
def D.sames(a b:List D):Bool:=@decide (a=b) (Classical.propDecidable _)
theorem D.sames_eq{a b:List D}(h:D.sames a b=M):a=b:=@of_decide_eq_true _ (Classical.propDecidable _) h
theorem D.sames_refl(a:List D):D.sames a a=M:=@decide_eq_true _ (Classical.propDecidable _) O
section
variable{K:Fg1}{H:Hp}{mu mu':List cJ}
theorem ez.cut{n:Nat}(h:∀ k,k<n->mu[k]? = mu'[k]?):∀ {d:D} {v:V},ez K H mu d v->d.und n=true->ez K H mu' d v:=fun c=>c.rec (motive_1:=fun d v _=>d.und n=true->ez K H mu' d v) (motive_2:=fun ds vs _=>D.unds n ds=true->dk K H mu' ds vs)
  (λ_=>.non) (λb _=>.bl b) (λi _=>.int i) (λx _=>.str x) (λq _ ih e=>.tup q (ih (by rw[D.und]at e;exact e))) (λq _ ih e=>.rol q (ih (by rw[D.und]at e;exact e)))
  (λq e=>.ref (by rw[D.und]at e;rw[<- h _ (of_decide_eq_true e)];exact q)) (λq _=>.fn q) (λ_=>.nil) (λ_ _ a b e=>by rw[D.unds,bA1]at e;exact .cons (a e.1) (b e.2))
theorem dk.cut{n:Nat}(h:∀k,k<n->mu[k]?=mu'[k]?):∀{ds:List D} {vs:List V},dk K H mu ds vs->D.unds n ds=M->dk K H mu' ds vs:=λa=>a.ind (P:=λds vs _=>D.unds n ds=M->dk K H mu' ds vs) (λ_=>.nil) λr _ b e=>by rw[D.unds,bA1]at e;exact .cons (ez.cut h r e.1) (b e.2)
end
def Ob.und(n:Nat):Ob->Bool
 | .lst xs=>D.unds n xs
 | .dct kvs=>D.unds n (kvs.map (·.2))
 | .dcT kvs=>D.unds n (kvs.map (·.2))
 | .iset _=>M
 | .dcF kvs=>D.unds n (kvs.map (·.2))
 | .tst _=>M
theorem KR.cut{κ:Type}{K:Fg1}{H:Hp}{mu mu':List cJ}{n:Nat}(h:∀k,k<n->mu[k]?=mu'[k]?):∀{ks:List (κ×D)} {ws:List (κ×V)},KR K H mu ks ws->D.unds n (ks.map (·.2))=M->KR K H mu' ks ws:=by
 intro ks ws a e
 induction a with
 |nil=>exact .nil
 |cons r t ih=>
  rw[mP1,D.unds,bA1]at e;exact .cons ⟨r.1,r.2.cut h e.1⟩ (ih e.2)
mutual
theorem xQ(n:Nat):∀k:TK,(oz k).und n=M
 | .non=>rfl
 | .int _=>rfl
 | .tup xs=>by rw[oz,D.und];exact uT n xs
theorem uT(n:Nat):∀ks:List TK,D.unds n (mF ks)=M
 |[]=>rfl
 |x::xs=>by rw[mF,D.unds,xQ n x,uT n xs];rfl
end
theorem KT.cut{K:Fg1}{H:Hp}{mu mu':List cJ}{n:Nat}(h:∀k,k<n->mu[k]?=mu'[k]?):∀{ks:List (TK×D)} {ws:List (TK×cJ×cH)},KT K H mu ks ws->D.unds n (ks.map (·.2))=M->KT K H mu' ks ws:=by
 intro ks ws b e
 induction b with
 |nil=>exact .nil
 |cons r t ih=>
  rw[mP1,D.unds,bA1]at e;obtain⟨z,d,k,v,a,r⟩:=r;exact .cons ⟨z,d,k.cut h (xQ n _),v,a,r.cut h e.1⟩ (ih e.2)
theorem vi(n:Nat):∀ks:List TK,D.unds n ((ks.map λk=>(k,D.non)).map (·.2))=M
 |[]=>rfl
 |_::ks=>by rw[mP1,mP1,D.unds,vi n ks];rfl
theorem oB.cut{K:Fg1}{H:Hp}{mu mu':List cJ}{n:Nat}{a:cJ}(h:∀k,k<n->mu[k]?=mu'[k]?):∀{o:Ob},oB K H mu a o->o.und n=M->oB K H mu' a o
 | .lst _,⟨vs,e,r⟩,b=>⟨vs,e,r.cut h b⟩
 | .dct _,⟨ws,e,r⟩,b=>⟨ws,e,KR.cut h r b⟩
 | .dcT _,⟨ws,e,r,l⟩,b=>⟨ws,e,KT.cut h r b,l⟩
 | .iset _,q,_=>q
 | .dcF _,⟨ws,e,r,l⟩,b=>⟨ws,e,KT.cut h r b,l⟩
 | .tst ks,⟨ws,e,r⟩,_=>⟨ws,e,KT.cut h r (vi n ks)⟩
def gc(n:Nat)(p:D×Sto):D×Sto:=if p.1.und n&&(p.2.take n).all (Ob.und n)then(p.1,p.2.take n)else p
mutual
def D.sh(n:Nat):D->D
 | .tup xs=>.tup (D.shs n xs)
 | .rol xs=>.rol (D.shs n xs)
 | .ref k=>.ref (n+k)
 | .fn x=>.fn x
 | .non=>.non
 | .bl b=>.bl b
 | .int i=>.int i
 | .str x=>.str x
def D.shs(n:Nat):List D->List D
 |[]=>[]
 |d::ds=>D.sh n d::D.shs n ds
end
def Ob.sh(n:Nat):Ob->Ob
 | .lst xs=>.lst (D.shs n xs)
 | .dct kvs=>.dct (kvs.map λp=>(p.1,p.2.sh n))
 | .dcT kvs=>.dcT (kvs.map λp=>(p.1,p.2.sh n))
 | .iset xs=>.iset xs
 | .dcF kvs=>.dcF (kvs.map λp=>(p.1,p.2.sh n))
 | .tst ks=>.tst ks
theorem ez.sh{K:Fg1}{H:Hp}{mu mu':List cJ}:∀ {d:D} {v:V},ez K H mu' d v->ez K H (mu++mu') (d.sh mu.length) v:=fun c=>c.rec (motive_1:=fun d v _=>ez K H (mu++mu') (d.sh mu.length) v) (motive_2:=fun ds vs _=>dk K H (mu++mu') (D.shs mu.length ds) vs)
  .non .bl .int .str (λh _ ih=>.tup h ih) (λh _ ih=>.rol h ih) (λh=>.ref (by rw[gR1 (Nat.le_add_right _ _),Nat.add_sub_cancel_left];exact h)) (λh=>.fn h) .nil (λ_ _ a b=>.cons a b)
theorem dk.sh{K:Fg1}{H:Hp}{mu mu':List cJ}:∀{ds:List D} {vs:List V},dk K H mu' ds vs->dk K H (mu++mu') (D.shs mu.length ds) vs:=λh=>h.ind (P:=λds vs _=>dk K H (mu++mu') (D.shs mu.length ds) vs) .nil λr _ ih=>.cons (ez.sh r) ih
theorem KR.sh{κ:Type}{K:Fg1}{H:Hp}{mu mu':List cJ}:∀{ks:List (κ×D)} {ws:List (κ×V)},KR K H mu' ks ws->KR K H (mu++mu') (ks.map λp=>(p.1,p.2.sh mu.length)) ws:=by
 intro ks ws h
 induction h with
 |nil=>exact .nil
 |cons r t ih=>exact .cons ⟨r.1,r.2.sh⟩ ih
mutual
theorem Du(n:Nat):∀k:TK,(oz k).sh n=oz k
 | .non=>rfl
 | .int _=>rfl
 | .tup xs=>by rw[oz,D.sh,xO n xs]
theorem xO(n:Nat):∀ks:List TK,D.shs n (mF ks)=mF ks
 |[]=>rfl
 |x::xs=>by rw[mF,D.shs,Du n x,xO n xs]
end
theorem KT.sh{K:Fg1}{H:Hp}{mu mu':List cJ}:∀{ks:List (TK×D)} {ws:List (TK×cJ×cH)},KT K H mu' ks ws->KT K H (mu++mu') (ks.map λp=>(p.1,p.2.sh mu.length)) ws:=by
 intro ks ws h
 induction h with
 |nil=>exact .nil
 |cons r t ih=>
  obtain⟨z,d,k,v,a,r⟩:=r;exact .cons ⟨z,d,by have:=k.sh (mu:=mu);rw[Du]at this;exact this,v,a,r.sh⟩ ih
theorem oB.sh{K:Fg1}{H:Hp}{mu mu':List cJ}{a:cJ}:∀{o:Ob},oB K H mu' a o->oB K H (mu++mu') a (o.sh mu.length)
 | .lst _,⟨vs,e,r⟩=>⟨vs,e,r.sh⟩
 | .dct _,⟨ws,e,r⟩=>⟨ws,e,KR.sh r⟩
 | .dcT _,⟨ws,e,r,l⟩=>⟨ws,e,KT.sh r,l⟩
 | .iset _,q=>q
 | .dcF _,⟨ws,e,r,l⟩=>⟨ws,e,KT.sh r,l⟩
 | .tst ks,⟨ws,e,r⟩=>⟨ws,e,by have:=KT.sh (mu:=mu) r;rw[bu]at this;exact this⟩
theorem ez.mor{K:Fg1}{H:Hp}{mu:List cJ}(mu':List cJ):∀{d:D} {v:V},ez K H mu d v->ez K H (mu++mu') d v:=λh=>h.exv ⟨bv _ _,λ_ _ h=>h,λ_ _ _ h=>h⟩
theorem dk.mor{K:Fg1}{H:Hp}{mu:List cJ}(mu':List cJ):∀{ds:List D} {vs:List V},dk K H mu ds vs->dk K H (mu++mu') ds vs:=λh=>h.exv ⟨bv _ _,λ_ _ h=>h,λ_ _ _ h=>h⟩
theorem KR.mor{κ:Type}{K:Fg1}{H:Hp}{mu:List cJ}(mu':List cJ){ks:List (κ×D)}{ws:List (κ×V)}(h:KR K H mu ks ws):KR K H (mu++mu') ks ws:=Paired.mapP h λ_ _ z=>⟨z.1,z.2.mor mu'⟩
theorem oB.mor{K:Fg1}{H:Hp}{mu:List cJ}{a:cJ}(mu':List cJ):∀{o:Ob},oB K H mu a o->oB K H (mu++mu') a o
 | .lst _,⟨vs,e,r⟩=>⟨vs,e,r.mor mu'⟩
 | .dct _,⟨ws,e,r⟩=>⟨ws,e,KR.mor mu' r⟩
 | .dcT _,⟨ws,e,r,l⟩=>⟨ws,e,Paired.mapP r λ_ _ ⟨z,d,k,v,b,r⟩=>⟨z,d,k.mor mu',v,b,r.mor mu'⟩,l⟩
 | .iset _,q=>q
 | .dcF _,⟨ws,e,r,l⟩=>⟨ws,e,Paired.mapP r λ_ _ ⟨z,d,k,v,b,r⟩=>⟨z,d,k.mor mu',v,b,r.mor mu'⟩,l⟩
 | .tst _,⟨ws,e,r⟩=>⟨ws,e,Paired.mapP r λ_ _ ⟨z,d,k,v,b,r⟩=>⟨z,d,k.mor mu',v,b,r.mor mu'⟩⟩
def px(f:FN):FN:=λds S=>if D.unds 0 ds=M then(f ds []).map λp=>if p.1.und 0=M then(p.1,S)else(p.1.sh S.length,S++p.2.map (Ob.sh S.length))else(f ds S).map (gc S.length)
theorem oB.keep{K:Fg1}{H H':Hp}{mu:List cJ}{a:cJ}(e:Ext mu mu H H')(h:∀o,H a=Z o->H' a=Z o):∀{o:Ob},oB K H mu a o->oB K H' mu a o
 | .lst _,⟨vs,q,r⟩=>⟨vs,h _ q,r.ext e⟩
 | .dct _,⟨ws,q,r⟩=>⟨ws,h _ q,KR.ext e r⟩
 | .dcT _,⟨ws,q,r,l⟩=>⟨ws,h _ q,KT.ext e r,l⟩
 | .iset _,q=>⟨h _ q.1,q.2⟩
 | .dcF _,⟨ws,⟨o,u,c,b⟩,r,l⟩=>⟨ws,⟨o,u,h _ c,b⟩,KT.ext e r,l⟩
 | .tst _,⟨ws,q,r⟩=>⟨ws,h _ q,KT.ext e r⟩
theorem Aq{K:Fg1}{f:FN}{vs:List V}{H:Hp}{Q:VK}(h:rN K (px f) vs H Q):rN K f vs H Q:=by
 obtain⟨mu,S,ds,d,L,C,c,g,hc⟩:=h;unfold px at g;split at g
 ·rename_i j;obtain⟨⟨y,p⟩,w,g⟩:=oM1.mp g;refine⟨[],[],ds,y,p,C.cut (n:=0) (λk i=>absurd i (bw _)) j,.nil,w,λv H' mu' x r s=>?_⟩;have B:Ext mu mu H H':=⟨bp,λa o e _=>x.old a o e (by simp),x.tup,x.frz,λ_ z=>.inl z⟩;dsimp only at g;split at g
  ·rename_i G;cases g;refine hc v H' mu B (r.cut (n:=0) (λk i=>absurd i (bw _)) G) ⟨c.len,c.nd,λn o a h1 h2=>?_⟩;exact(c.ob n o a h1 h2).keep B λo e=>x.old a o e (by simp)
  ·cases g;have D:∀ a∈mu',H a=none:=fun a A=>(x.new a A).resolve_left (by simp);have x2:Ext mu (mu++mu') H H':=⟨bv _ _,fun a o e _=>x.old a o e (by simp),x.tup,x.frz,fun a z=>by
    rcases aE.mp z with z|z
    ·exact .inl z
    ·exact .inr (D a z)⟩
   refine hc v H' (mu++mu') x2 (by rw[<- c.len];exact r.sh) ⟨by rw[lA1,lA1,lM1,c.len,s.len],?_,λn o a h1 h2=>?_⟩
   ·refine bx.mpr ⟨c.nd,s.nd,λa A b j z=>?_⟩;subst z;obtain⟨o,e⟩:=c.here A;rw[D a j]at e;cases e
   ·by_cases l:n<S.length
    ·rw[gL1 l]at h1;rw[gL1 (by rw[c.len];exact l)]at h2;exact((c.ob n o a h1 h2).keep B λo e=>x.old a o e (by simp)).mor mu'
    ·have m:=Nat.le_of_not_lt l;rw[gR1 m]at h1;rw[gR1 (by rw[c.len];exact m)]at h2;rw[gP1]at h1;obtain⟨I,am,F⟩:=oM1.mp h1;subst F;have q:=s.ob (n-S.length) I a am (by rw[c.len]at h2;exact h2);rw[<- c.len];exact q.sh
 ·obtain⟨⟨y,p⟩,w,g⟩:=oM1.mp g;refine⟨mu,S,ds,y,p,C,c,w,λv H' mu' x r s=>?_⟩;unfold gc at g;split at g
  ·rename_i j;cases g;rw [bA1] at j;have i:∀ k,k<S.length->mu'[k]? = mu[k]?:=fun k i=>by
    obtain⟨t,rfl⟩:=x.pre;rw[gL1 (by rw[c.len];exact i)]
   refine hc v H' mu x.back (r.cut i j.1) ⟨?_,c.nd,λn o a h1 h2=>?_⟩
   ·have:=s.len;have E:=x.pre.length_le;rw[aO,<- s.len];rw[c.len]at E ⊢;exact(Nat.min_eq_left E).symm
   ·have l:n<S.length:=by rw[<- c.len];exact(gE1.mp h2).1
    have u:p[n]?=Z o:=by rw[aQ l]at h1;exact h1
    refine(s.ob n o a u ((i n l).trans h2)).cut i ?_;exact bA.mp j.2 o (gM1 h1)
  ·cases g;exact hc v H' mu' x r s
def spM(K:Fg1)(n:Nat)(f:FN):Sp:=λvs H Q _=>vs.length=n/\rN K f vs H Q
section
variable{X:Cx}{k n:Nat}{f:cJ}{fd:cU}{ps:List Str}{x:Str}{p pos:Pos}{e:Expr}{es:List Expr}{m:FN}{a:FA}
noncomputable def c9 (n:Nat)(f:FN):FN:=λds S=>if ds.length=n then px f ds S else none
theorem Ch (F:lY X.prog X.w X.K X.mg X.base sT k f fd ps (spM X.K n m))(hr:gf k X.A)(hg:Gl X x)(hm:X.mg x=some (.ref f))(hk:wK1 X.K (.ref f)=true)(hb:jP X.K fd ps [])
  (ha:MA X (e::es) a) (hdb:(x == ("__debug__":Str))=J:=by decide) (he:cP (e::es) X.env=(J,eval e X.env)::cP es X.env:=by rfl) (hpl:(backTo pos (cP es X.env)).any (·.1)=J:=by rfl):
  ME X (.Call (.Name x p) (e::es) [] pos) (mN (c9 n m) a):=
 eo (BN (E:=E0) F hr hg hm hk hb .nil H7 ha hdb he hpl) fun σ H Q h=>by
  obtain⟨r,mu,S,ds,j,he,g,hm,hc⟩:=zl h;refine⟨r,mu,S,ds,j,he,g,hm,λvs H' mu' l i w=>?_⟩;have q:=hc vs H' mu' l i w;show spM X.K n m (vs++[]) H' Q E0;rw[aK];obtain⟨d,t,c,o,s,h1,h2,b,v⟩:=q;unfold c9 at b;split at b
  ·rename_i u;exact⟨by rw[<- h1.length];exact u,Aq ⟨d,t,c,o,s,h1,h2,b,v⟩⟩
  ·cases b
end
def hI:FS:=λr S=>Z (.nx,r,S)
noncomputable def di (a b:FS):FS:=λr S=>(a r S).bind λp=>match p.1 with
 | .nx=>b p.2.1 p.2.2
 |f=>some (f,p.2.1,p.2.2)
noncomputable def dB (m:FE):FS:=λr S=>(m r S).bind λp=>some (.rt p.1,r,p.2)
def KM:FS:=λr S=>Z (.rt .non,r,S)
noncomputable def ij (m:FE):FS:=λr S=>(m r S).bind λp=>some (.nx,r,p.2)
noncomputable def eh (c:FT)(a b:FS):FS:=λr S=>(c r S).bind λp=>if p.1=true then a r p.2 else b r p.2
section
variable{X:Cx}{pos:Pos}{e c:Expr}{st:cV}{rest as bs:List cV}{a b:FS}{m:FE}{t:FT}
theorem B6:xf X [] hI:=pU Bz <| by
 rintro E σ H ⟨r,mu,S,f,e,d,b,a,c,hc⟩;cases c;exact hc σ H mu (.refl _ _) b a
theorem y9(h1:MS X st a)(h2:xf X rest b):xf X (st::rest) (di a b):=pU (yu h1 h2) <| by
 rintro E σ H ⟨r,mu,S,f,t,q,s,n,g,hc⟩;obtain⟨⟨m,k,l⟩,o,g⟩:=oB1.mp g;refine⟨r,mu,S,m,k,l,s,n,o,?_⟩;cases m with
 |nx=>
  intro p H1 mu1 h i j;refine⟨k,mu1,l,f,t,q,i,j,g,?_⟩;cases f with
  |nx=>exact λe H2 c x2=>hc e H2 c (h.trans x2)
  |bk=>exact λe H2 c x2=>hc e H2 c (h.trans x2)
  |ct=>exact λe H2 c x2=>hc e H2 c (h.trans x2)
  |rt d=>exact λv H2 c x2=>hc v H2 c (h.trans x2)
 |bk=>cases g;exact hc
 |ct=>cases g;exact hc
 |rt d=>cases g;exact hc
theorem B5(h1:MS X st a):xf X [st] a:=By h1
theorem B7(h:ME X e m)(hs:swapsWith e Y pos.line X.env=pure J:=by rfl):MS X (.Expr e pos) (ij m):=iy (BA h hs) <| by
 rintro E σ H ⟨r,mu,S,f,l,k,b,hs,a,hc⟩;obtain⟨⟨d,j⟩,c,a⟩:=oB1.mp a;cases a;exact⟨r,mu,S,d,_,b,hs,c,λv H' mu' x i g=>hc σ H' mu' x (b.ext x) g⟩
theorem FR(h:ME X e m):MS X (.Return (Z e) pos) (dB m):=iy (E2 h) <| by
 rintro E σ H ⟨r,mu,S,f,k,j,g,b,a,hc⟩;obtain⟨⟨d,i⟩,c,a⟩:=oB1.mp a;cases a;exact⟨r,mu,S,d,_,g,b,c,hc⟩
theorem Im(hc:MT X c t)(ha:xf X as a)(hb:xf X bs b):MS X (.If c as bs pos) (eh t a b):=iy (HR hc ha hb) <| by
 rintro E σ H ⟨r,mu,S,f,n,o,m,p,h,hc⟩;obtain⟨⟨k,j⟩,q,h⟩:=oB1.mp h;refine⟨r,mu,S,k,j,m,p,q,λH1 mu1 i s=>?_⟩;have l:∀c:FS,c r j=Z (f,n,o)->uV X.K c E σ H1:=λc h=>by
  refine⟨r,mu1,j,f,n,o,m.ext i,s,h,?_⟩;cases f with
  |nx=>exact λg H2 e x2=>hc g H2 e (i.trans x2)
  |bk=>exact λg H2 e x2=>hc g H2 e (i.trans x2)
  |ct=>exact λg H2 e x2=>hc g H2 e (i.trans x2)
  |rt d=>exact λv H2 e x2=>hc v H2 e (i.trans x2)
 cases k with
 |true=>exact l a h
 |false=>exact l b h
end
abbrev FG:=D->Ev->Sto->Option (Ev×Sto)
abbrev AR:=List D->Ev->Sto->Option (Ev×Sto)
inductive Et (K:Fg1)(g:FG)(v:V)(σ:L2.St)(H:Hp)(Q:L2.St->Hp->Prop):Prop
 |mk (r:Ev) (mu:List cJ) (S:Sto) (d:D) (r':Ev) (S':Sto) (he:fy K H mu r σ) (hs:Sim K H mu S) (hr:ez K H mu d v) (hm:g d r S=some (r',S')) (hc:∀ σ' H' mu',Ext mu mu' H H'->fy K H' mu' r' σ'->Sim K H' mu' S'->Q σ' H')
inductive JH (K:Fg1)(g:AR)(vs:List V)(σ:L2.St)(H:Hp)(Q:L2.St->Hp->Prop):Prop
 |mk (r:Ev) (mu:List cJ) (S:Sto) (ds:List D) (r':Ev) (S':Sto) (he:fy K H mu r σ) (hs:Sim K H mu S) (hr:dk K H mu ds vs) (hm:g ds r S=some (r',S')) (hc:∀ σ' H' mu',Ext mu mu' H H'->fy K H' mu' r' σ'->Sim K H' mu' S'->Q σ' H')
abbrev MG(X:Cx)(e:Expr)(g:FG):Prop:=PG X e (Et X.K g)
abbrev Jb(X:Cx)(es:List Expr)(g:AR):Prop:=G9 X es (JH X.K g)
noncomputable def gN (i:Nat):FG:=λd r S=>some (r.set i (some d),S)
def lN:AR:=λds r S=>match ds with
 |[]=>Z (r,S)
 |_=>Y
noncomputable def gm (g:FG)(gs:AR):AR:=λds r S=>match ds with
 |d::ds=>(g d r S).bind λp=>gs ds p.1 p.2
 |[]=>none
noncomputable def gT (n:Nat)(gs:AR):FG:=λd r S=>match d with
 | .tup ds=>if ds.length=n then gs ds r S else none
 |_=>none
theorem fy.set{K:Fg1}{H:Hp}{mu:List cJ}{r:Ev}{σ:L2.St}{i:Nat}{d:D}{v:V}(h:fy K H mu r σ)(q:ez K H mu d v):fy K H mu (r.set i (Z d)) (σ.set i (Z v)):=by
 refine⟨by rw[aS,aS];exact h.len,λj c e=>?_⟩;by_cases a:i=j
 ·subst a;have b:i<r.length:=by
   have:=(gE1.mp e).1
   rwa [aS]at this
  rw[aG b]at e;cases e;exact⟨v,aG (by rw[<- h.len];exact b),q⟩
 ·rw[gS1 a]at e;obtain⟨k,g,f⟩:=h.val j c e;exact⟨k,by rw[gS1 a];exact g,f⟩
section
variable{X:Cx}{pos:Pos}
theorem tR{e:Expr}{t t':TG}(h:PG X e t)(i:∀v σ H Q,t' v σ H Q->t v σ H Q):PG X e t':=λag s σ H v u Q I r q=>h ag s σ H v u Q I r (i v σ H Q q)
theorem u6{e:List Expr}{t t':D3}(h:G9 X e t)(i:∀v σ H Q,t' v σ H Q->t v σ H Q):G9 X e t':=λag s σ H v u Q I r q=>h ag s σ H v u Q I r (i v σ H Q q)
theorem Cf(i:Nat){x:Str}(hN:X.N.Nodup)(hi:X.N[i]?=Z x)(hx:uK X.env.scope x)(hf:X.fn x=M\/X.env.scope.names.lookup x=Z .local:=by first|exact .inl rfl|exact .inr rfl|assumption):MG X (.Name x pos) (gN i):=
 tR (u7 hN hi hx hf) <| by
  rintro v σ H Q ⟨r,mu,S,d,g,f,c,a,b,e,hc⟩;cases e;exact hc _ H mu (.refl _ _) (c.set b) a
theorem Ce:Jb X [] lN:=u6 BH <| by
 rintro vs σ H Q ⟨r,mu,S,ds,f,e,d,b,c,a,hc⟩;unfold lN at a;split at a
 ·cases a;cases c;exact⟨O,hc σ H mu (.refl _ _) d b⟩
 ·cases a
theorem zd{e:Expr}{es:List Expr}{g:FG}{j:AR}(h1:MG X e g)(h2:Jb X es j)(hs:(assignEach (e::es) X.env).map (·.2)=assign e X.env::(assignEach es X.env).map (·.2):=by rfl):Jb X (e::es) (gm g j):=
 u6 (yD h1 h2 hs) <| by
  rintro vs σ H Q ⟨r,mu,S,ds,p,n,o,hs,k,a,hc⟩;unfold gm at a;split at a
  ·obtain⟨⟨f,h⟩,l,a⟩:=oB1.mp a;cases k with
   |cons q t=>
    exact⟨_,_,O,r,mu,S,_,f,h,o,hs,q,l,λm H1 mu1 i b s=>⟨f,mu1,h,_,p,n,b,s,t.ext i,a,λc H2 d x2=>hc c H2 d (i.trans x2)⟩⟩
  ·cases a
theorem F1{es:List Expr}{k:Nat}{b:AR}{n:Nat}(hc:X.calm=M)(h:Jb X es b)(hn:(assignEach es X.env).length=n:=by rfl)(hst:(assignEach es X.env).findIdx? (·.1)=Y:=by rfl):MG X (.Tuple es k pos) (gT n b):=
 tR (E9 hc h hn hst) <| by
  rintro v σ H Q ⟨r,mu,S,d,g,f,i,c,e,a,hc⟩;cases d with
  |tup ds=>
   rw[gT]at a;split at a
   ·rename_i j;cases e with
    |tup q t=>exact⟨_,_,O,q,by rw[<- t.length];exact j,r,mu,S,ds,g,f,i,c,t,a,hc⟩
   ·cases a
  |_=>cases a
inductive rU (K:Fg1)(f:FN)(o i v:V)(H:Hp)(Q:Hp->Prop):Prop
 |mk (mu:List cJ) (S:Sto) (ds:List D) (d:D) (S':Sto) (hr:dk K H mu ds [o,i,v]) (hs:Sim K H mu S) (hm:f ds S=some (d,S')) (hc:∀H' mu',Ext mu mu' H H'->Sim K H' mu' S'->Q H')
def gS(f:FN)(a b:FE):FG:=λd r S=>(a r S).bind λp=>(b r p.2).bind λq=>(f [p.1,q.1,d] q.2).bind λt=>Z (r,t.2)
theorem F2{o i:Expr}{a b:FE}{f:FN}(ho:ME X o a)(hi:ME X i b)(hs:uJ X (rU X.K f))(ha:∀v,assign (.Subscript o i pos) X.env v=(do
   let ov<-holding [v] (eval o X.env)
   let iv<-holding [v,ov] (eval i X.env)
   standAt pos
   holding [v,ov,iv] (setItem ov iv v)
   release [v,ov,iv] []):=by intro _;rfl):MG X (.Subscript o i pos) (gS f a b):=
 tR (Fa ho hi hs ha) <| by
  rintro v σ H Q ⟨r,mu,S,d,C,F,g,hs,q,c,hc⟩;obtain⟨⟨n,k⟩,t,c⟩:=oB1.mp c;obtain⟨⟨l,m⟩,w,c⟩:=oB1.mp c;obtain⟨⟨y,D⟩,p,c⟩:=oB1.mp c;cases c;refine⟨r,mu,S,n,k,g,hs,t,λE H1 mu1 e x A=>?_⟩;refine⟨r,mu1,k,l,m,g.ext e,A,w,λB H2 j x2 r2 z=>?_⟩;exact⟨j,m,[n,l,d],y,_,.cons (x.ext x2) (.cons r2 (.cons ((q.ext e).ext x2) .nil)),z,p,λs h x3 u=>hc σ s h ((e.trans x2).trans x3) (((g.ext e).ext x2).ext x3) u⟩
noncomputable def dI (m:FE)(g:FG):FS:=λr S=>(m r S).bind λp=>(g p.1 r p.2).bind λq=>some (.nx,q.1,q.2)
theorem ql{K:Fg1}{m:FE}{g:FG}{E:js}{σ:L2.St}{H:Hp}(h:uV K (dI m g) E σ H):xX (tM K m) (Et K g) E σ H:=by
 obtain⟨r,mu,S,f,s,t,i,k,a,hc⟩:=h;obtain⟨⟨d,e⟩,n,a⟩:=oB1.mp a;obtain⟨⟨r2,u⟩,o,a⟩:=oB1.mp a;cases a;refine⟨r,mu,S,d,e,i,k,n,λq H1 mu1 j l p=>?_⟩;exact⟨r,mu1,e,d,_,_,i.ext j,p,l,o,λb H2 c x2=>hc b H2 c (j.trans x2)⟩
theorem FX{tg e:Expr}{m:FE}{g:FG}(he:ME X e m)(hg:MG X tg g)(hs:swapsWithSole [tg] e pos.line X.env=pure J:=by rfl)(hw:swappedStores [tg] e X.env=pure Y:=by rfl)(h1:(assignEach [tg] X.env).map (·.2)=[assign tg X.env]:=by rfl):MS X (.Assign [tg] e pos) (dI m g):=iy (E6 he hg hs hw h1) λ_ _ _=>ql
theorem FQ(i:Nat){x:Str}{e:Expr}{m:FE}{pos':Pos}(hN:X.N.Nodup)(hi:X.N[i]? = some x)(hx:uK X.env.scope x)(he:ME X e m)(hs:swapsWith e (some (.Name x pos')) pos.line X.env=pure false:=by rfl)(hf:X.fn x=true\/X.env.scope.names.lookup x=some .local:=by first | exact .inl rfl | exact .inr rfl | assumption):
  MS X (.Assign [.Name x pos'] e pos) (dI m (gN i)):=iy (E1 hN hi hx he hs hf) λE σ H h=>by
 obtain⟨r,mu,S,d,j,h1,h2,l,p⟩:=ql h;refine⟨r,mu,S,d,j,h1,h2,l,λv H' mu' q c o=>?_⟩;obtain⟨r2,a,u,s,w,t,n,f,k,b,g⟩:=p v H' mu' q c o;cases b;exact g _ H' a (.refl _ _) (n.set k) f
def Cn(i:Nat)(f:FN)(m:FE):FS:=λr S=>match r[i]? with
 |some (Z d)=>(m r S).bind λp=>(f [d,p.1] p.2).bind λq=>Z (.nx,r.set i (Z q.1),q.2)
 |_=>Y
theorem FW(i:Nat){x:Str}{e:Expr}{m:FE}{op:Operator}{f:FN}{pos':Pos}(hN:X.N.Nodup)(hi:X.N[i]? = some x)(hx:uK X.env.scope x)(he:ME X e m)(ho:Jv X op (r2 X.K f))(hf:X.fn x=true\/X.env.scope.names.lookup x=some .local:=by first | exact .inl rfl | exact .inr rfl | assumption):
  MS X (.AugAssign (.Name x pos') op e pos) (Cn i f m):=iy (E5 hN hi hx he ho hf) <| by
 rintro E σ H ⟨r,mu,S,y,z,C,he,k,a,hc⟩;unfold Cn at a;split at a
 ·rename_i d e;obtain⟨⟨h,g⟩,n,a⟩:=oB1.mp a;obtain⟨⟨q,A⟩,p,a⟩:=oB1.mp a;cases a;obtain⟨v,s,j⟩:=he.val i d e;refine⟨v,s,r,mu,S,h,g,he,k,n,λB H1 mu1 c u w=>?_⟩;exact⟨mu1,g,[d,h],q,_,.cons (j.ext c) (.cons u .nil),w,p,λD l b x3 t o=>hc _ l b (c.trans x3) (((he.ext c).ext x3).set t) o⟩
 ·cases a
end
noncomputable def wd (c:FT)(b:FS):Nat->FS
 |0=>λ_ _=>none
 | n+1=>fun r S=>(c r S).bind fun p=>if p.1=true then (b r p.2).bind fun q=>match q.1 with
   | .nx=>wd c b n q.2.1 q.2.2
   | .ct=>wd c b n q.2.1 q.2.2
   | .bk=>some (.nx,q.2.1,q.2.2)
   | .rt d=>some (.rt d,q.2.1,q.2.2)
  else some (.nx,r,p.2)
theorem Ed{K:Fg1}{c:FT}{b:FS}{n:Nat}{E:js}{σ:L2.St}{H:Hp}(h:uV K (wd c b n) E σ H):xS (xU K c) (uV K b) E σ H:=by
 refine⟨λm a H'=>uV K (wd c b m) E a H',⟨n,h⟩,λm t H1 q=>?_⟩;obtain⟨r,mu,S,f,w,B,s,F,i,hc⟩:=q;cases m with
 |zero=>cases i
 |succ m=>
  obtain⟨⟨k,u⟩,G,i⟩:=oB1.mp i;refine⟨r,mu,S,k,u,s,F,G,λH2 e x2 C=>?_⟩;cases k with
  |false=>
   cases i;exact hc t H2 e x2 (s.ext x2) C
  |true=>
   obtain⟨⟨A,o,p⟩,D,i⟩:=oB1.mp i;have z:∀{a H' mu'},Ext e mu' H2 H'->fy K H' mu' o a->Sim K H' mu' p->wd c b m o p=Z (f,w,B)->uV K (wd c b m) E a H':=λ{a H' mu'} x g l i=>by
    refine⟨o,mu',p,f,w,B,g,l,i,?_⟩;cases f with
    |nx=>exact λj H2 e y=>hc j H2 e ((x2.trans x).trans y)
    |bk=>exact λj H2 e y=>hc j H2 e ((x2.trans x).trans y)
    |ct=>exact λj H2 e y=>hc j H2 e ((x2.trans x).trans y)
    |rt d=>exact λv H2 e y=>hc v H2 e ((x2.trans x).trans y)
   refine⟨λa H'=>uV K (wd c b m) E a H',λa H' q=>⟨m,bB _,q⟩,r,e,u,A,o,p,s.ext x2,C,D,?_⟩;cases A with
   |nx=>exact λa H' mu' x g l=>z x g l i
   |ct=>exact λa H' mu' x g l=>z x g l i
   |bk=>cases i;exact λa H' mu' x g l=>hc a H' mu' (x2.trans x) g l
   |rt d=>cases i;exact λv H' mu' x o l=>hc v H' mu' (x2.trans x) o l
theorem za{X:Cx}{pos:Pos}(n:Nat){c:Expr}{a:List cV}{t:FT}{b:FS}(hp:PassesOwn (model X.prog X.w) X.A X.env X.xe)(hc:MT X c t)(hb:xf X a b):MS X (.While c a [] pos) (wd t b n):=
 iy (yv hp hc hb) λ_ _ _=>Ed
structure AO where
 items:List D
 chk:List (Nat×List D)
noncomputable def qS (S:Sto):List (Nat×List D)->Bool
 |[]=>true
 | (n,xs)::c=>(match S[n]? with
   |some (.lst ys)=>D.sames ys xs
   |_=>false)&&qS S c
def Ku(K:Fg1)(j:It)(am:AO)(mu:List cJ)(H:Hp):Prop:=∀i H1 mu1 S1,qT mu mu1 H H1->Sim K H1 mu1 S1->qS S1 am.chk=M ->
 (∀d,am.items[i]?=Z d->j.go i H1 /\ ∀x H2,j.yld i H1 x H2->Ext mu1 mu1 H1 H2/\Sim K H2 mu1 S1/\ez K H2 mu1 d x)/\(am.items.length<=i->j.stop i H1)
abbrev FI:=Ev->Sto->Option (AO×Sto)
inductive Hx (K:Fg1)(m:FI)(σ:L2.St)(H:Hp)(R:It->Hp->Prop):Prop
 |mk (r:Ev) (mu:List cJ) (S:Sto) (am:AO) (S':Sto) (he:fy K H mu r σ) (hs:Sim K H mu S) (hm:m r S=some (am,S')) (hc:∀j H' mu',Ext mu mu' H H'->Ku K j am mu' H'->Sim K H' mu' S'->R j H')
abbrev MI(X:Cx)(tg iter:Expr)(m:FI):Prop:=PI X tg iter (Hx X.K m)
theorem pW{X:Cx}{tg e:Expr}{t t':TI}(h:PI X tg e t)(i:∀ σ H R,t' σ H R->t σ H R):PI X tg e t':=λag s σ H R I q=>h ag s σ H R I (i σ H R q)
theorem HU{X:Cx}{tg e:Expr}{t t':TI}(h:PI X tg e t)(h':PI X tg e t'):PI X tg e (fun σ H R=>t σ H R\/t' σ H R):=λag s σ H R I q=>q.elim (h ag s σ H R I) (h' ag s σ H R I)
noncomputable def iO (c:List (Nat×List D))(g:FG)(b:FS):List D->FS
 |[]=>λr S=>if qS S c=true then some (.nx,r,S)else none
 | d::ds=>fun r S=>if qS S c=true then (g d r S).bind fun p=>(b p.1 p.2).bind fun q=>match q.1 with
   | .nx=>iO c g b ds q.2.1 q.2.2
   | .ct=>iO c g b ds q.2.1 q.2.2
   | .bk=>some (.nx,q.2.1,q.2.2)
   | .rt v=>some (.rt v,q.2.1,q.2.2)
  else none
noncomputable def ga (m:FI)(g:FG)(b:FS):FS:=λr S=>(m r S).bind λp=>iO p.1.chk g b p.1.items r p.2
theorem mn{α:Type}{l:List α}{i:Nat}{d:α}{ds:List α}(h:l.drop i=d::ds):l[i]?=Z d/\l.drop (i+1)=ds:=by
 have h1:l[i]?=Z d:=by
  have:=congrArg (·[0]?) h;simpa using this
 refine⟨h1,?_⟩;rw[<- List.drop_drop,h];rfl
inductive Kr (K:Fg1)(mu1:List cJ)(H1:Hp)(c:List (Nat×List D))(g:FG)(b:FS)(f:Fl)(r':Ev)(S':Sto)(L:List D)(σ':L2.St)(H':Hp):Prop
 |mk (r2:Ev) (mu2:List cJ) (S2:Sto):Ext mu1 mu2 H1 H'->fy K H' mu2 r2 σ'->Sim K H' mu2 S2->iO c g b L r2 S2=some (f,r',S')->Kr K mu1 H1 c g b f r' S' L σ' H'
theorem Cm{K:Fg1}{m:FI}{g:FG}{b:FS}{E:js}{σ:L2.St}{H:Hp}(h:uV K (ga m g b) E σ H):Hy (Hx K m) (Et K g) (uV K b) E σ H:=by
 obtain⟨r,mu,S,f,L,R,I,W,C,hc⟩:=h;obtain⟨⟨am,G⟩,e1,C⟩:=oB1.mp C;refine⟨r,mu,S,am,G,I,W,e1,λj H1 mu1 u P s1=>?_⟩;refine⟨λi k t H'=>k=(am.items.drop i).length/\Kr K mu1 H1 am.chk g b f L R (am.items.drop i) t H',⟨_,O,r,mu1,G,.refl _ _,I.ext u,s1,C⟩,?_⟩;rintro i k w H2 ⟨rfl,r2,l,S2,x2,s,D,a⟩;cases hl:am.items.drop i with
 |nil=>
  left;rw[hl]at a;rw[iO]at a;dsimp only at a;split at a
  ·rename_i ok;cases a;refine⟨(P i H2 l _ x2.w D ok).2 (List.drop_eq_nil_iff.mp hl),?_⟩;exact hc w H2 l (u.trans x2) s D
  ·cases a
 |cons d ds=>
  right;rw[hl]at a;obtain⟨hi,ar⟩:=mn hl;rw[iO]at a;dsimp only at a;split at a
  ·rename_i ok;obtain⟨⟨N,ao⟩,T,a⟩:=oB1.mp a;obtain⟨⟨Q,z,F⟩,e4,a⟩:=oB1.mp a;obtain⟨go,yl⟩:=(P i H2 l _ x2.w D ok).1 d hi;refine⟨go,Kr K mu1 H1 am.chk g b f L R ds,?_,λx X y=>?_⟩
   ·intro t H' U;exact⟨ds.length,bB _,(congrArg List.length ar).symm,ar.symm ▸ U⟩
   ·obtain⟨x3,s3,V⟩:=yl x X y;refine⟨r2,l,S2,d,N,ao,s.ext x3,s3,V,T,fun σ4 H4 A x4 B aq=>?_⟩;refine⟨N,A,ao,Q,z,F,B,aq,e4,?_⟩;cases Q with
    |nx=>exact λn q c o e p=>⟨z,c,F,(x2.trans x3).trans (x4.trans o),e,p,a⟩
    |ct=>exact λn q c o e p=>⟨z,c,F,(x2.trans x3).trans (x4.trans o),e,p,a⟩
    |bk=>cases a;exact λn q c o e p=>hc n q c ((u.trans x2).trans (x3.trans (x4.trans o))) e p
    |rt v=>cases a;exact λwq q c o r5 p=>hc wq q c ((u.trans x2).trans (x3.trans (x4.trans o))) r5 p
  ·cases a
theorem FU{X:Cx}{pos:Pos}{tg iter:Expr}{a:List cV}{m:FI}{g:FG}{b:FS}(hp:PassesOwn (model X.prog X.w) X.A X.env X.xe)(hc:X.calm=M)(hi:MI X tg iter m)(hg:MG X tg g)(hb:xf X a b)(hs:∀x,foldedSetIterable iter X.env x=pure x:=by intro _;rfl):MS X (.For tg iter a [] pos) (ga m g b):=iy (E4 hp hc hi hg hb hs) λ_ _ _=>Cm
def iX(n:Nat)(ds:List D):Ev:=ds.map Z++aM (n-ds.length) Y
noncomputable def gC (n:Nat)(b:FS):FN:=λds S=>(b (iX n ds) S).bind λp=>match p.1 with
 | .rt d=>some (d,p.2.2)
 | .nx=>some (.non,p.2.2)
 |_=>none
theorem wj{K:Fg1}{H:Hp}{mu:List cJ}{ds:List D}{vs:List V}(N:List Str)(h:dk K H mu ds vs):fy K H mu (iX N.length ds) (L2.start N vs):=by
 refine⟨?_,λi d e=>?_⟩
 ·unfold iX L2.start;rw[lA1,lA1,lM1,lM1,lR1,lR1,h.length]
 ·unfold iX at e;unfold L2.start;by_cases hi:i<ds.length
  ·rw[gL1 (by rw[lM1];exact hi),gP1]at e;obtain⟨f,a,c⟩:=oM1.mp e;cases c;obtain⟨v,b,r⟩:=h.get a;refine⟨v,?_,r⟩;rw[gL1 (by rw[lM1,<- h.length];exact hi),gP1,b];rfl
  ·rw[gR1 (by rw[lM1];lia)]at e;have:=gM1 e;rw[List.mem_replicate]at this;cases this.2
theorem IM{P:cK}{w:cN}{K:Fg1}{mg:Str->Option cH}{base:cT}{x c:Str}{st:cV}{f:cJ}{fd:cU}{N ps:List Str}{k:Nat}{b:FS}(F:v8 K x c st f fd)(S:gH N ps (dA st))(g:∀(e:cH) (A:cM) (a:List Env) (s:cI) (H:Hp) (E:XK),gf k (A.deeper (envOfC c (dA st) s.heap.objs.size f e)) ->
   xf (mO sT P w K mg base N c (dA st) f e A a s H E).nox (fg st) b):lY P w K mg base sT (k+1) f fd ps (spM K ps.length (gC N.length b)):=by
 refine v8.ok F S (λvs H Q E h=>h.1) λe A a s H vs Q E n j=>⟨_,g e A a s H E n,?_⟩;obtain⟨_,mu,St,ds,d,t,h1,h2,i,m⟩:=j;unfold gC at i;obtain⟨⟨l,q,o⟩,p,i⟩:=oB1.mp i;refine⟨_,mu,St,l,q,o,wj N h1,h2,p,?_⟩;cases l with
 |nx=>cases i;exact λr H' mu' x u s=>m .non H' mu' x .non s
 |rt d=>cases i;exact m
 |bk=>cases i
 |ct=>cases i
def jJ(cells:List (Str×cJ)):List (Str×NameKind)->List (Str×cJ)->Option (List (Str×cJ))
 |[],acc=>Z acc
 |(n,k)::r,acc=>if k == .free then(cells.lookup n).bind λc=>jJ cells r ((n,c)::acc)else jJ cells r acc
theorem uw{env:Env}(f:Str×NameKind->List (Str×cJ)->Sem (ForInStep (List (Str×cJ))))(hf:∀n k g,f (n,k) g=if k == .free then(do let c<-cellOf env n;pure (.yield ((n,c)::g)))else pure (.yield g)):
  ∀(a:List (Str×NameKind)) (acc b:List (Str×cJ)),jJ env.cells a acc=Z b->forIn a acc f=(pure b:Sem (List (Str×cJ)))
 |[],acc,b,h=>by cases h;rfl
 |(n,k)::r,acc,b,h=>by
  rw[List.forIn_cons,hf];unfold jJ at h;split at h
  ·rename_i d;rw[ak d];obtain⟨c,e,h⟩:=oB1.mp h;have:cellOf env n=pure c:=by unfold cellOf;rw[e]
   rw[this,pure_bind,pure_bind];exact uw f hf r _ b h
  ·rename_i d;rw[aj d,pure_bind];exact uw f hf r _ b h
theorem An{scope:cW}{env:Env}{cl:List (Str×cJ)}(h:jJ env.cells scope.names []=Z cl):closureFor scope env=pure cl:=by
 simp only[closureFor];rw[uw (env:=env) _ (λn k a=>by cases hk:k == NameKind.free<;>simp[hk]) scope.names [] cl h];rfl
theorem uv{a:List (Str×cJ)}:∀{b:List (Str×NameKind)} {acc d:List (Str×cJ)},jJ a b acc=Z d->(∀x c,acc.lookup x=Z c->a.lookup x=Z c) -> ∀x c,d.lookup x=Z c->a.lookup x=Z c
 |[],acc,d,h,ha=>by cases h;exact ha
 |(n,k)::r,acc,d,h,ha=>by
  unfold jJ at h;split at h
  ·obtain⟨c,e,h⟩:=oB1.mp h;refine uv h λx g q=>?_;rw[bC]at q;split at q
   ·rename_i f;cases q;rw[beq_iff_eq.mp f];exact e
   ·exact ha x g q
  ·exact uv h ha
theorem m8{b:List (Str×cJ)}{x:Str}:∀{a:List (Str×NameKind)} {acc d:List (Str×cJ)},jJ b a acc=Z d->(a.lookup x=Z .free\/(acc.lookup x).isSome=M)->(d.lookup x).isSome=M
 |[],acc,d,h,ha=>by
  cases h;rcases ha with q|q
  ·cases q
  ·exact q
 |(n,k)::r,acc,d,h,ha=>by
  unfold jJ at h;split at h
  ·obtain⟨c,e,h⟩:=oB1.mp h;refine m8 h ?_;rcases ha with q|q
   ·rw[bC]at q;split at q
    ·rename_i g;right;rw[bC,g];rfl
    ·exact .inl q
   ·right;rw[bC];split
    ·rfl
    ·exact q
  ·rename_i f;refine m8 h ?_;rcases ha with q|q
   ·rw[bC]at q;split at q
    ·cases q;exact absurd O f
    ·exact .inl q
   ·exact .inr q
theorem gG{x:Str}{c:cJ}:∀{a:List (Str×NameKind)} {n:Nat} {acc:List (Str×cJ)},(cellsFrom n a acc).lookup x=Z c->(n<=c/\(x,c)∈cellsFrom n a [])\/acc.lookup x=Z c
 |[],_,_,h=>.inr h
 |(y,k)::r,n,acc,h=>by
  unfold cellsFrom at h ⊢;split at h
  ·rename_i b;rw [if_pos b];have app:∀ (a:List (Str×NameKind)) (m:Nat) (acc:List (Str×cJ)),cellsFrom m a acc=cellsFrom m a []++acc:=by
    intro a
    induction a with
    |nil=>intro m acc;rfl
    |cons p r ih=>
     obtain⟨z,q⟩:=p;intro m acc;unfold cellsFrom;split
     ·rw[ih _ ((z,m)::acc),ih _ [(z,m)],aW];rfl
     ·exact ih m acc
   rcases gG h with⟨h1,h2⟩|h1
   ·refine .inl ⟨by lia,?_⟩;rw[app];exact aF _ h2
   ·rw[bC]at h1;split at h1
    ·rename_i d;cases h1;refine .inl ⟨nR1 _,?_⟩;rw[app,beq_iff_eq.mp d];exact mA1 _ mS1
    ·exact .inr h1
  ·rename_i b;rw[aj b];exact gG h
theorem oJ{x:Str}{c:cJ}{n:Nat}{acc:List (Str×cJ)}{a:List (Str×NameKind)}(hx:a.lookup x=Z .cell)(h:(cellsFrom n a acc).lookup x=Z c):n<=c:=by
 have app:∀(a:List (Str×NameKind)) (m:Nat) (acc:List (Str×cJ)),cellsFrom m a acc=cellsFrom m a []++acc:=by
  intro a
  induction a with
  |nil=>intro m acc;rfl
  |cons p r ih=>
   obtain⟨z,q⟩:=p;intro m acc;unfold cellsFrom;split
   ·rw[ih _ ((z,m)::acc),ih _ [(z,m)],aW];rfl
   ·exact ih m acc
 rw[app,List.lookup_append]at h;have q:=PySem.W.cellsFrom_some a n [] (.inl hx);obtain⟨b,e⟩:=aN.mp q;rw[e]at h;cases h;rcases gG e with⟨h1,_⟩|h1
 ·exact h1
 ·cases h1
theorem kg {ao:Model}{A:cM}{E:cH->cI->Prop}{s:cI}{scope:cW}{globals:cJ}{c:List (Str×cJ)}{qual:Str}{func:Option cJ}{code:cH}{env:Env}{b:cJ}{Q:Env->cI->Prop}
  (d:Q {scope,locals:=s.heap.objs.size,globals,cells:=cellsFrom (s.heap.objs.size+1) scope.names c,qual,func,code:=env.code,frame:=env.frame,builtins:=env.builtins}
   {s with heap:=pushCells (s.heap.push {cls:=.type "dict",data:=.dict #[]}) scope.names}):
  cR ao A (newFunctionEnv scope globals c [] qual func code (Z env) b) Q E s:=by
 simp only[newFunctionEnv,Option.isSome_some,if_true];refine wB1 (wpAny_alloc ?_);refine wB1 (wpAny_layCells _ (λname a cells=>by cases hkc:a == NameKind.cell<;>simp[hkc]) _ _ _ _ ?_);rw[show({s with heap:=s.heap.push {cls:=.type "dict",data:=.dict #[]}}:cI).heap.objs.size=s.heap.objs.size+1 from hZ1 ..];refine wB1 ?_;rw[List.forIn_nil];exact wP1 (wP1 d)
def cxC(X:Cx)(scope:cW)(cl:List (Str×cJ))(T:List Str)(keep:List Nat)(s:cI)(H:Hp)(fp:List cJ):Cx where
 prog:=X.prog
 w:=X.w
 K:=X.K
 mg:=X.mg
 base:=X.base
 A:=X.A
 N:=T++keep.map λi=>X.N.getD i (Str.ofString "")
 s₀:=s
 H₀:=H
 env:=compEnvC scope (cellsFrom (s.heap.objs.size+1) scope.names cl) s.heap.objs.size X.env
 outer:=X.stack
 stack:=X.stack
 ex:=fp
 fn:=λx=>scope.names.lookup x == Z .cell
 calm:=X.calm
 pn:=[]
 xe:=λ_ _=>False
def qp(k:Nat)(keep:List Nat)(σ:L2.St):L2.St:=aM k Y++keep.map λi=>(σ[i]?).join
theorem jE{env:Env}{x:Str}:∀ {a:List (Str×NameKind)},
  (a.map λ(n,k)=>if(k == NameKind.free&&env.scope.kind == .function&&env.kindOf n == Z .cell)then(n,NameKind.cell)else(n,k)).lookup x =
   (a.lookup x).map λk=>if(k == NameKind.free&&env.scope.kind == .function&&env.kindOf x == Z .cell)then NameKind.cell else k
 |[]=>rfl
 |(n,k)::r=>by
  show List.lookup x ((if(k == NameKind.free&&env.scope.kind == .function&&env.kindOf n == Z .cell)=M then(n,NameKind.cell)else(n,k))::_)=_;cases hx:x == n with
  |true=>
   have e:=beq_iff_eq.mp hx;subst e;by_cases hc:(k == NameKind.free&&env.scope.kind == .function&&env.kindOf x == Z .cell)=M
   ·rw[ak hc,bC,hx,bC,hx];simp only[oP1,ak hc]
   ·rw[aj hc,bC,hx,bC,hx];simp only[oP1,aj hc]
  |false=>
   have ih:=@jE env x r;by_cases hc:(k == NameKind.free&&env.scope.kind == .function&&env.kindOf n == Z .cell)=M
   ·rw[ak hc,bC,hx,bC,hx];exact ih
   ·rw[aj hc,bC,hx,bC,hx];exact ih
structure Hi (X:Cx)(scope:cW)(T:List Str)(keep:List Nat):Prop where
 kind:scope.kind = .function
 names:∀x∈scope.names,x.2 = .local->scope.names.lookup x.1=some .local
 free:∀i∈keep,∃x,X.N[i]?=some x/\scope.names.lookup x=some .free/\(X.env.kindOf x=some .cell\/X.env.kindOf x=some .free)/\(x,NameKind.cell)∉scope.names
theorem si{X:Cx}{ag:List (cJ×Obj)}{σ:L2.St}{H:Hp}{s:cI}{scope:cW}{w:List (Str×cJ)}{T:List Str}{keep:List Nat}{D:List cJ}(I:Inv X ag σ H s)(C:Hi X scope T keep)(B:jJ X.env.cells scope.names []=some w)(hf:∀b∈D,kK X ag H b)(F:∀b∈D,∃o,s.heap.get? b=some o):
  Inv (cxC X scope w T keep s H D) [] (qp T.length keep σ) H {s with heap:=pushCells (s.heap.push {cls:=.type "dict",data:=.dict #[]}) scope.names}:=by
 have kept:∀b o,s.heap.get? b=Z o->(pushCells (s.heap.push {cls:=.type "dict",data:=.dict #[]}) scope.names).get? b=Z o:=λb o e=>pushCells_keeps _ _ b o (hP1 _ e);have A:=cellsFrom_ok scope.names (s.heap.push {cls:=.type "dict",data:=.dict #[]}) (s.heap.objs.size+1) [] ⟨λ_ _ aq=>(nomatch aq),List.Pairwise.nil⟩ (by rw[hZ1];exact nR1 _);rw[hZ1]at A;have am:=uv B (λx c q=>by cases q)
 -- a cell of the block: its own or an elder one
 have d:∀x c,(cellsFrom (s.heap.objs.size+1) scope.names w).lookup x=Z c->(s.heap.objs.size+1<=c/\(x,c)∈cellsFrom (s.heap.objs.size+1) scope.names [])\/X.env.cells.lookup x=Z c:=λx c h=>by
  rcases gG h with h1|h1
  ·exact .inl h1
  ·exact .inr (am x c h1)
 have g:∀x c,X.env.cells.lookup x=Z c->c<s.heap.objs.size:=λx c e=>by
  obtain⟨v,z⟩:=I.cell x c e;exact z.lt
 have t:∀b∈D,b<s.heap.objs.size:=λb l=>by
  obtain⟨o,e⟩:=F b l;exact hL1 e
 have fst:∀b∈D,b∉frs X.stack:=λb l z=>by
  rcases aD.mp (I.stkSub b z)with q|q
  ·exact(hf b l).2.1 q
  ·exact(hf b l).2.2.1 q
 have kindOf:∀x,(cxC X scope w T keep s H D).env.kindOf x=(scope.names.lookup x).map λk=>if(k == NameKind.free&&X.env.scope.kind == .function&&X.env.kindOf x == Z .cell)then NameKind.cell else k:=λx=>jE
 refine⟨⟨I.ok.mod,C.kind,I.ok.glob,I.ok.blt,nR1 _,λx y c h1 h2=>?_,λx E=>?_,λx c h1 h2=>?_,I.ok.hd,I.ok.frames,.inl O,λb l=>⟨nN1 (t b l),λx c h z=>?_⟩,λb o e=>I.bs b o e,aB I.ok.bsz I.sz,λb o e l=>?_,fst,I.stack,I.stkFree⟩,
  rfl,I.bare,Un.kept kept,⟨λ_=>Y,(Heap.Ns.new s.heap (.type "dict")).keeps (pushCells_keeps _ _),λi x v h1 h2 h3=>?_⟩,λx c h=>?_,I.hok.fresh (nR1 _),λx c h=>?_,λp S=>absurd (show p∈([]:List (cJ×Obj))from S) (by simp),I.hok.kept kept,?_⟩
 ·rcases d x c h1 with⟨a1,a2⟩|a1<;>rcases d y c h2 with⟨b1,b2⟩|b1
  ·exact name_of_addr A.apart a2 b2
  ·exact absurd (bD (bE a1) (g y c b1)) (ay _)
  ·exact absurd (bD (bE b1) (g x c a1)) (ay _)
  ·exact I.ok.inj x y c a1 b1
 ·have K:scope.names.lookup x=some .cell\/scope.names.lookup x=some .free:=by
   rw[kindOf x]at E;cases e:scope.names.lookup x with
   |none=>rw[e]at E;rcases E with z|z<;>cases z
   |some k=>
    rw[e]at E;simp only[oP1]at E;cases k<;>simp_all
  have:((cellsFrom (s.heap.objs.size+1) scope.names w).lookup x).isSome=M:=by
   rcases K with z|z
   ·exact PySem.W.cellsFrom_some _ _ _ (.inl z)
   ·exact PySem.W.cellsFrom_some _ _ _ (.inr (m8 B (.inl z)))
  exact aN.mp this
 ·have f:scope.names.lookup x=Z .cell:=by simpa[cxC]using h1
  have:=oJ f h2;exact aB (bF _) this
 ·subst z;rcases d x c h with⟨a1,_⟩|a1
  ·exact absurd (bD (bE a1) (t c l)) (ay _)
  ·exact(hf c l).2.2.2.2.1 x c a1 O
 ·rcases(hf b l).2.2.2.1 with z|z
  ·exact I.ok.noex b o e z
  ·exact absurd (nL1 (hL1 e) (aB I.ok.bsz z)) (ay _)
 ·-- a name of the block that has a value:one of the outer text's
  have hi:T.length<=i:=by
   refine Nat.le_of_not_lt λhi=>?_;unfold qp at h2;rw[gL1 (by rw[lR1];exact hi),aP]at h2;split at h2<;>cases h2
  unfold qp at h2;rw[gR1 (by rw[lR1];exact hi),lR1,gP1]at h2;obtain⟨j,P,h2⟩:=oM1.mp h2;have f:X.N.getD j (Str.ofString "")=x:=by
   have f:(T++keep.map λi=>X.N.getD i (Str.ofString ""))[i]?=Z x:=h1;rw[gR1 hi,gP1,P]at f;exact Option.some.inj f
  obtain⟨y,ey,Q,N,ny⟩:=C.free j (gM1 P);have ao:y=x:=by rw[<- f,bG,ey];rfl
  subst ao;have G:σ[j]?=Z (Z v):=by
   cases e:σ[j]? with
   |none=>rw[e]at h2;cases h2
   |some o=>rw[e]at h2;cases h2;rfl
  obtain⟨m,hn,W⟩:=I.loc;obtain⟨u,ru,lu⟩:=W j y v ey G (by
   rcases N with z|z
   ·exact .inr (.inl z)
   ·exact .inr (.inr z))
  refine⟨u,ru,?_⟩;rcases lu with⟨z,_⟩|⟨_,c,V,R⟩
  ·rcases N with q|q<;>(rw[z]at q;cases q)
  ·right;refine⟨?_,c,?_,R.keeps kept⟩
   ·rw[kindOf,Q];simp only[oP1];split
    ·exact .inl O
    ·exact .inr O
   ·obtain⟨c',U⟩:=aN.mp (PySem.W.cellsFrom_some scope.names (s.heap.objs.size+1) w (.inr (m8 B (.inl Q))):((cellsFrom (s.heap.objs.size+1) scope.names w).lookup y).isSome=M);have ar:(cellsFrom (s.heap.objs.size+1) scope.names w).lookup y=Z c':=U;rcases d y c' ar with⟨a1,a2⟩|a1
    ·-- an own cell of that name:its kind would be cell
     exfalso;have:∀(names:List (Str×NameKind)) (n:Nat),(y,c')∈cellsFrom n names []->(y,NameKind.cell)∈names:=by
      have app:∀(names:List (Str×NameKind)) (m:Nat) (acc:List (Str×cJ)),cellsFrom m names acc=cellsFrom m names []++acc:=by
       intro names
       induction names with
       |nil=>intro m acc;rfl
       |cons p r ih=>
        obtain⟨z,q⟩:=p;intro m acc;unfold cellsFrom;split
        ·rw[ih _ ((z,m)::acc),ih _ [(z,m)],aW];rfl
        ·exact ih m acc
      intro names
      induction names with
      |nil=>intro n h;cases h
      |cons p r ih=>
       obtain⟨z,q⟩:=p;intro n h;unfold cellsFrom at h;split at h
       ·rename_i wq;rw[app]at h;rcases aE.mp h with h|h
        ·exact mC1 _ (ih _ h)
        ·have:(y,c')=(z,n):=by simpa using h
         cases this;have L:q=NameKind.cell:=by simpa using wq
         subst L;exact mS1
       ·exact mC1 _ (ih _ h)
     exact ny (this _ _ a2)
    ·rw[V]at a1;cases a1;exact ar
 ·rcases d x c h with⟨a1,a2⟩|a1
  ·exact⟨_,(A.empty x c a2).1⟩
  ·obtain⟨v,z⟩:=I.cell x c a1;exact⟨v,z.keeps kept⟩
 ·rcases d x c h with⟨a1,a2⟩|a1
  ·exact I.hok.fresh (bE a1)
  ·exact I.freeC x c a1
 ·show(qp T.length keep σ).length=(T++keep.map λi=>X.N.getD i (Str.ofString "")).length;unfold qp;rw[lA1,lA1,lR1,lM1,lM1]
def kO(p:Pos)(tg:Expr)(ifs:List Expr)(it:cH)(env:Env)(emit:Sem Unit)(c:Code):Sem PySem.Fin:=do
 standAt p
 match<-pyNext it with
 |none=>pure (.done .next)
 |some v=>
  letOwnedTupleGo tg it v
  assign tg env v
  let mut ok:=M
  for c in ifs do
   if ok then ok<-isTrue c env (eval c env)
  if ok then emit
  again c
def n0(elt:Expr)(acc:cH)(env:Env):Sem Unit:=do let _<-call (.builtin "list.append") [acc,<- eval elt env]
def pq(e:Expr)(iter:Expr)(acc:cH)(env:Env):Sem Unit:=do
 let x<-eval iter env
 standAt iter.pos
 let x<-foldedSetIterable iter env x
 let _<-runOwn (.compStart e 1 (<- holding [x] (pyIter x)) acc env) env
theorem xJ(elt tg iter:Expr)(ifs:List Expr)(scope:cW)(pos:Pos)(it acc:cH)(env:Env):
  compTurn (.ListComp elt [⟨tg,iter,ifs,0⟩] scope pos) 0 it acc env=kO iter.pos tg ifs it env (n0 elt acc env) (.compLoop (.ListComp elt [⟨tg,iter,ifs,0⟩] scope pos) 0 it acc env):=by rfl
def Dt(p:Pos)(tg:Expr)(ifs:List Expr)(it:cH)(env:Env)(e iter:Expr)(acc:cH)(c:Code):Sem PySem.Fin:=do
 standAt p
 match<-pyNext it with
 |none=>pure (.done .next)
 |some v=>
  letOwnedTupleGo tg it v
  assign tg env v
  let mut ok:=M
  for c in ifs do
   if ok then ok<-isTrue c env (eval c env)
  if ok then
   let x<-eval iter env
   standAt iter.pos
   let x<-foldedSetIterable iter env x
   let _<-runOwn (.compStart e 1 (<- holding [x] (pyIter x)) acc env) env
  again c
theorem A9(p:Pos)(tg:Expr)(ifs:List Expr)(it:cH)(env:Env)(e iter:Expr)(acc:cH)(c:Code):Dt p tg ifs it env e iter acc c=kO p tg ifs it env (pq e iter acc env) c:=by
 unfold Dt kO pq;simp only[bind_assoc,pure_bind]
theorem Em(elt tg iter tg2 iter2:Expr)(ifs ifs2:List Expr)(scope:cW)(pos:Pos)(it acc:cH)(env:Env):
  compTurn (.ListComp elt [⟨tg,iter,ifs,0⟩,⟨tg2,iter2,ifs2,0⟩] scope pos) 0 it acc env =
   kO iter.pos tg ifs it env (pq (.ListComp elt [⟨tg,iter,ifs,0⟩,⟨tg2,iter2,ifs2,0⟩] scope pos) iter2 acc env) (.compLoop (.ListComp elt [⟨tg,iter,ifs,0⟩,⟨tg2,iter2,ifs2,0⟩] scope pos) 0 it acc env):=by
 rw[<- A9];rfl
theorem El(elt tg iter tg2 iter2:Expr)(ifs ifs2:List Expr)(scope:cW)(pos:Pos)(it acc:cH)(env:Env):
  compTurn (.ListComp elt [⟨tg,iter,ifs,0⟩,⟨tg2,iter2,ifs2,0⟩] scope pos) 1 it acc env =
   kO iter2.pos tg2 ifs2 it env (n0 elt acc env) (.compLoop (.ListComp elt [⟨tg,iter,ifs,0⟩,⟨tg2,iter2,ifs2,0⟩] scope pos) 1 it acc env):=by rfl
def oy(X:Cx)(ifs:List Expr)(t:TT):Prop:=
 ∀(ag:List (cJ×Obj)) (s:cI) (σ:L2.St) (H:Hp) (Q:Bool->Hp->Prop),Inv X ag σ H s->t σ H Q ->
  cR (model X.prog X.w) X.A (forIn ifs M λc r=>if r=M then do let ok<-isTrue c X.env (eval c X.env);pure (ForInStep.yield ok)else pure (ForInStep.yield r)) (TP X ag σ Q) X.xe s
theorem yA{X:Cx}:oy X [] (fun σ H Q=>Q M H):=λag s σ H Q I h=>wpAny_tests_nil ⟨H,I,h⟩
theorem yz{X:Cx}{c:Expr}{t:TT}(h:PT X c t):oy X [c] t:=λag s σ H Q I q=>wpAny_tests_one (h ag s σ H Q I q)
def PU(X:Cx)(m:Sem Unit)(t:TS):Prop:=
 ∀(ag:List (cJ×Obj)) (s:cI) (σ:L2.St) (H:Hp) (E:js),Inv X ag σ H s->t E σ H->cR (model X.prog X.w) X.A m (λ_ s'=>∃ σ' H',Inv X ag σ' H' s'/\E.nx σ' H') X.xe s
theorem lT{X:Cx}(hx:X.xe=fun _ _=>False)(hc:X.calm=true){elt:Expr}{c:List Comprehension}{scope:cW}{pos p:Pos}{d:Nat}{tg:Expr}{ifs:List Expr}{acc:cH}{emit:Sem Unit}{am:It}{y:List cJ}{it:cJ}{P:Nat->cT->Prop}{g:TG}{ti:TT}{tb:TS}(eq:compTurn (.ListComp elt c scope pos) d (.ref it) acc X.env=kO p tg ifs (.ref it) X.env emit (.compLoop (.ListComp elt c scope pos) d (.ref it) acc X.env))(T:xc X.prog X.w X.K tg am y it P)(hg:PG X tg g)(hi:oy X ifs ti)(he:PU X emit tb){ag:List (cJ×Obj)}{s:cI}{σ:L2.St}{H:Hp}{D:js}(I:Inv X ag σ H s)(st:P 0 s.heap)(f2:∀b∈y,kK X ag H b)(h:∃W:Nat->Nat->L2.St->Hp->Prop,(∃m,W 0 m σ H) /\ ∀i m σ H,W i m σ H ->
   (am.stop i H/\D.nx σ H)\/(am.go i H /\ ∃N:L2.St->Hp->Prop,(∀a H',N a H' -> ∃ar,ar<m/\W (i+1) ar a H') /\ ∀x H',am.yld i H x H'->g x σ H' λt H2=>ti t H2 λb w=>if b=M then tb {D with nx:=N} t w else N t w)):
  cS (model X.prog X.w) X.A (.compLoop (.ListComp elt c scope pos) d (.ref it) acc X.env) (λr s'=>match r with | .ok _=>∃a H',Inv X ag a H' s'/\D.nx a H' | .error _=>False) s:=by
 obtain⟨W,⟨m0,w0⟩,L⟩:=h;have j:∀{H':Hp},(∀b∈y,H' b=Y) -> ∀b∈y,kK X ag H' b:=λhn b l=>⟨hn b l,(f2 b l).2⟩;refine codeAny_loop O (λn s'=>∃i a H',Inv X ag a H' s'/\P i s'.heap/\(∀b∈y,H' b=Y)/\W i n a H') ?_ m0 ⟨0,σ,H,I,st,λb l=>(f2 b l).1,w0⟩;rintro n U ⟨i,f,w,aq,ao,F,w3⟩;show cR _ _ ((compTurn (.ListComp elt c scope pos) d (.ref it) acc X.env).onRaise (λx=>do noteFrame x X.env;theTreesLotGoes x)) _ _ U;refine wpAny_noted ?_;rw[eq];have C:∀{α:Type} {m:Sem α} {Q:α->cI->Prop} {s:cI} {E:cH->cI->Prop},cR (model X.prog X.w) X.A m Q X.xe s->cR (model X.prog X.w) X.A m Q E s:=λh=>by
  rw[hx]at h;exact wpAny_mono h (λ_ _ q=>q) λ_ _ q=>q.elim
 unfold kO;refine wB1 (wpAny_standAt (wB1 ?_));rcases L i n f w w3 with⟨K,qn⟩|⟨go,N,hN,step⟩
 ·refine C (eR (T.done X O O O hc i ag U f w X.xe aq (j F) ao K) λr s4 ⟨R,I4⟩=>?_);subst R;exact wP1 ⟨f,w,I4,qn⟩
 ·refine C (eR (T.item X rfl rfl rfl hc i ag U f w X.xe aq (j F) ao go) fun r s4 ⟨u,R,h4⟩=>?_);subst R;refine wB1 (C (eR h4 fun _ s5 ⟨x,H5,I5,r5,y5,z,S⟩=>?_));have V:=I5.pinned (j S) (T.obj _ _ z);refine wB1 (C (eR (hg _ s5 f H5 x u _ V r5 (step x H5 y5)) fun _ s6 ⟨G,H6,I6,q6⟩=>?_));refine wB1 (C (eR (hi _ s6 G H6 _ I6 q6) fun ok B ⟨v,A,wq⟩=>?_));have again':∀ {k:L2.St} {v:Hp} {B:cI},Inv X (ag++nv y s5.heap) k v B->N k v -> ∃ m,m<n /\ ∃ i a H',Inv X ag a H' B/\P i B.heap/\(∀ b∈y,H' b=none)/\W i m a H':=fun {k v B} A n7=>by
   obtain⟨ar,hm,w7⟩:=hN k v n7;refine⟨ar,hm,i+1,k,v,A.unpinned,T.keep _ _ _ z λb l o e=>(A.pin (b,o) (mA1 _ (mA1 _ (i1 l e)))).1,λb l=>?_,w7⟩;obtain⟨o,e,d⟩:=T.obj _ _ z b l;exact(A.pin (b,o) (mA1 _ (mA1 _ (i1 l e)))).2.1
  cases ok with
  |false=>exact wP1 ⟨O,again' A wq⟩
  |true=>exact wB1 (C (eR (he _ B G v _ A wq) λ_ s8 ⟨σ8,H8,I8,q8⟩=>wP1 ⟨O,again' I8 q8⟩))
def rg(p:cJ)(te:TE):TS:=λD σ H=>te σ H λx H1=>∃xs,H1 p=Z (.lst xs)/\xs.length<cQ/\D.nx σ (upd H1 p (.lst (xs++[x])))
theorem pS{X:Cx}{elt:Expr}{te:TE}(h:PE X elt te)(p:cJ):PU X (n0 elt (.ref p) X.env) (rg p te):=by
 intro ag s σ H E I q;unfold n0;refine wB1 (eR (h ag s σ H _ I q) λu i ⟨x,H1,b,a,xs,e,g,f⟩=>?_);refine wB1 (eR (oW ag i σ H1 (.ref p) [x] (.ref p) [u] (λ_ H'=>E.nx σ H') b O (.cons a .nil) ⟨p,xs,x,O,O,e,g,f⟩) λ_ j ⟨_,H2,c,_,d⟩=>?_);exact wP1 ⟨σ,H2,c,d⟩
def xV(am:It)(g:TG)(ti:TT)(tb:TS):TS:=λD σ H=>∃W:Nat->Nat->L2.St->Hp->Prop,(∃m,W 0 m σ H) /\ ∀i m σ H,W i m σ H ->
 (am.stop i H/\D.nx σ H)\/(am.go i H /\ ∃N:L2.St->Hp->Prop,(∀ σ' H',N σ' H' -> ∃m',m'<m/\W (i+1) m' σ' H') /\ ∀x H',am.yld i H x H'->g x σ H' fun σ2 H2=>ti σ2 H2 λb H3=>if b=M then tb {D with nx:=N} σ2 H3 else N σ2 H3)
def xT(wi:TI)(g:TG)(ti:TT)(tb:TS):TS:=λD σ H=>wi σ H λam H1=>xV am g ti tb D σ H1
theorem sF{prog:cK}{w:cN}{A:cM}{R:Result->cI->Prop}{s:cI}{elt tg iter tg2 iter2:Expr}{ifs ifs2:List Expr}{scope:cW}{pos:Pos}{it acc:cH}{env:Env}(c:cS (model prog w) A (.compLoop (.ListComp elt [⟨tg,iter,ifs,0⟩,⟨tg2,iter2,ifs2,0⟩] scope pos) 1 it acc env) R s)(h:cR (model prog w) A (pyIter it) (fun b s'=>cS (model prog w) A (.compLoop (.ListComp elt [⟨tg,iter,ifs,0⟩,⟨tg2,iter2,ifs2,0⟩] scope pos) 1 b acc env) R s')
   (notedBy (model prog w) A env λx s'=>R (.error x) s') s):
  cS (model prog w) A (.compStart (.ListComp elt [⟨tg,iter,ifs,0⟩,⟨tg2,iter2,ifs2,0⟩] scope pos) 1 it acc env) R s:=by
 refine codeAny_of_tree ?_;show cR _ _ ((compStart (.ListComp elt [⟨tg,iter,ifs,0⟩,⟨tg2,iter2,ifs2,0⟩] scope pos) 1 it acc env).onRaise (λx=>do noteFrame x env;standAt theWindowsPlace)) _ _ s;refine wpAny_notedAt ?_;unfold compStart;show cR _ _ (ask >>= _) _ _ s;refine wB1 (wpAny_askSetting (wpAny_ite ?_));split
 ·first
   |exact wB1 (wP1 (wP1 (And.intro rfl c)))
   |exact wP1 (And.intro rfl c)
 ·first
   |exact wB1 (wpAny_rule (wB1 (wpAny_standAt (wB1 (wpAny_mono h (λb s' h'=>wP1 (And.intro O h')) λ_ _ x=>x)))))
   |(refine wB1 (wpAny_rule ?_);show cR _ _ (standAt iter2.pos >>= _) _ _ s;exact wB1 (wpAny_standAt (wB1 (wpAny_mono h (λb s' h'=>wP1 (And.intro O h')) λ_ _ x=>x))))
theorem Bw{X:Cx}(hx:X.xe=fun _ _=>False)(hc:X.calm=true){elt tg iter tg2 iter2:Expr}{ifs ifs2:List Expr}{scope:cW}{pos:Pos}{acc:cH}{j:TI}{g:TG}{i:TT}{tb:TS}(hi:PI X tg2 iter2 j)(hg:PG X tg2 g)(hf:oy X ifs2 i)(he:PU X (n0 elt acc X.env) tb)(hs:∀x,foldedSetIterable iter2 X.env x=pure x:=by intro _;rfl):
  PU X (pq (.ListComp elt [⟨tg,iter,ifs,0⟩,⟨tg2,iter2,ifs2,0⟩] scope pos) iter2 acc X.env) (xT j g i tb):=by
 intro ag s σ H E I q;unfold pq;refine wB1 (eR (hi ag s σ H _ I q) λv w h1=>?_);refine wB1 (wpAny_standAt (wB1 (wpAny_of_eq (hs v) (wB1 (wpAny_holding (eR h1 λo p h2=>?_))))));obtain⟨it,y,u,am,H2,rfl,l,T,b,t,m⟩:=h2;have a:=lT hx hc (El elt tg iter tg2 iter2 ifs ifs2 scope pos (.ref it) acc X.env) T hg hf he l b t m;refine wB1 (wpAny_runOwn (h:=Y) ?_);refine codeAny_mono (sF a (T.self X.A 0 p _ _ b a)) λr s' d=>?_;cases r with
 |error e=>exact d.elim
 |ok f=>
  obtain⟨c,H',k,n⟩:=d;exact wP1 ⟨c,H',k,n⟩
theorem Un.sameBut{fs ex:List cJ}{H H':Hp}{h h1 h2:cT}{c:cJ}(u:Un fs ex H H' h h1)(hs:Heap.SameBut c h1 h2)(hc:h.get? c=Y):Un fs ex H H' h h2:=by
 have ne:∀{b o},h.get? b=Z o->b≠c:=λe z=>by rw[z,hc]at e;cases e
 refine⟨λb o e n d a=>(hs.2 b (ne e)).trans (u.keep b o e n d a),λb o e n d a=>?_,u.free,λb o e a=>?_,u.tups,u.frzs,u.tbls⟩
 ·obtain⟨sl,q⟩:=u.slot b o e n d a;exact⟨sl,(hs.2 b (ne e)).trans q⟩
 ·obtain⟨o',q⟩:=u.there b o e a;exact⟨o',(hs.2 b (ne e)).trans q⟩
def xW(k:Nat)(keep:List Nat)(wi:TI)(g:TG)(ti:TT)(tb:cJ->TS):TE:=fun σ H Q=>wi σ H λam H1=>∀p,H1 p=Y ->
 xV am g ti (tb p) {nx:=λ_ H'=>Q (.ref p) H',rt:=λ_ _=>False} (qp k keep σ) (upd H1 p (.lst []))
theorem u8{X:Cx}(hc:X.calm=true){elt tg iter:Expr}{ifs:List Expr}{rest:List Comprehension}{scope:cW}{pos:Pos}{T:List Str}{keep:List Nat}{l:List (Str×cJ)}{K:TI}{g:TG}{G:TT}{tb:cJ->TS}{emit:cH->Env->Sem Unit}(eq:∀it k i,compTurn (.ListComp elt (⟨tg,iter,ifs,0⟩::rest) scope pos) 0 it k i=kO iter.pos tg ifs it i (emit k i) (.compLoop (.ListComp elt (⟨tg,iter,ifs,0⟩::rest) scope pos) 0 it k i))(C:Hi X scope T keep)(w:jJ X.env.cells scope.names []=some l)(hi:PI X tg iter K)(hb:∀s H d p,PG (cxC X scope l T keep s H d) tg g/\oy (cxC X scope l T keep s H d) ifs G/\PU (cxC X scope l T keep s H d) (emit (.ref p) (cxC X scope l T keep s H d).env) (tb p))(hs:∀x,foldedSetIterable iter X.env x=pure x:=by intro _;rfl):
  PE X (.ListComp elt (⟨tg,iter,ifs,0⟩::rest) scope pos) (xW T.length keep K g G tb):=by
 intro ag s σ H Q I h;rw[eval_ListComp];refine wpAny_comprehension_free (use:=Y) O hs (An w) C.kind C.names ?_;refine eR (hi ag s σ H _ I h) λv s1 h1=>eR h1 λaq a h2=>?_;obtain⟨it,d,tn,am,H2,rfl,ao,TT,t,N,wq⟩:=h2;refine wO1 ?_;have F:Inv X ag σ (upd H2 a.heap.objs.size (.lst [])) {a with heap:=a.heap.push {cls:=.type "list",data:=.seq ([]:List cH).toArray}}:=ao.lnew (t':=a.toks) .nil (bj _);have old:∀b∈d,∃o,a.heap.get? b=Z o:=λb hb=>by
  obtain⟨o,e,_⟩:=TT.obj 0 a.heap t b hb;exact⟨o,e⟩
 have D:∀b∈d,b≠a.heap.objs.size:=λb hb z=>by
  obtain⟨o,e⟩:=old b hb;have:=hL1 e;rw[z]at this;exact ay _ this
 have A:∀b∈d,kK X ag (upd H2 a.heap.objs.size (.lst [])) b:=λb hb=>⟨by rw[dD (D b hb)];exact(N b hb).1,(N b hb).2⟩;have o3:∀b∈d,∃o,({a with heap:=a.heap.push {cls:=.type "list",data:=.seq ([]:List cH).toArray}}:cI).heap.get? b=Z o:=λb hb=>by
  obtain⟨o,e⟩:=old b hb;exact⟨o,hP1 _ e⟩
 have B:=si F C w A o3;obtain⟨W,S,R⟩:=hb {a with heap:=a.heap.push {cls:=.type "list",data:=.seq ([]:List cH).toArray}} (upd H2 a.heap.objs.size (.lst [])) d a.heap.objs.size;refine kg ?_;have f4:∀b∈d,kK (cxC X scope l T keep {a with heap:=a.heap.push {cls:=.type "list",data:=.seq ([]:List cH).toArray}} (upd H2 a.heap.objs.size (.lst [])) d) [] (upd H2 a.heap.objs.size (.lst [])) b:=λb hb=>
  ⟨(A b hb).1,(B.ok.exf b hb).1,B.ok.exfs b hb,.inl hb,(B.ok.exf b hb).2,λp ar=>absurd (show p∈([]:List (cJ×Obj))from ar) (by simp)⟩
 have y:tn 0 (pushCells ((a.heap.push {cls:=.type "list",data:=.seq ([]:List cH).toArray}).push {cls:=.type "dict",data:=.dict #[]}) scope.names):=
  TT.keep 0 a.heap _ t λb hb o e=>pushCells_keeps scope.names _ b o (hP1 _ (hP1 _ e))
 have j:=lT (X:=cxC X scope l T keep {a with heap:=a.heap.push {cls:=.type "list",data:=.seq ([]:List cH).toArray}} (upd H2 a.heap.objs.size (.lst [])) d) O hc (eq (.ref it) (.ref a.heap.objs.size) _) TT W S R B y f4
  (wq a.heap.objs.size (ao.hok.fresh (nR1 _)))
 refine codeAny_mono (codeAny_compStart_list j (TT.self X.A 0 _ _ _ y j)) λr s' E=>?_;cases r with
 |error e=>exact E.elim
 |ok f=>
  obtain⟨σ',H',n,P⟩:=E;obtain⟨m,U,_⟩:=id n.loc;refine⟨m,U,λh' u=>⟨.ref a.heap.objs.size,H',?_,O,P⟩⟩;refine F.call' (s':={s' with heap:=h'}) (ch:=d) n.os (Un.sameBut n.base u (Heap.get?_none_of_le (nR1 _))) (λb V e=>?_) n.bare λb hb=>(A b hb).2.2.2 |> λz=>⟨z.1,(A b hb).2.1,z.2.1,z.2.2⟩
  refine(n.hok b V e).stay (λc w' hc q=>(u.2 c ?_).trans q) (λ_ q=>q) λ_ _ q=>q;rintro rfl;have L:=n.free;rcases hc with rfl|hc
  ·exact nomatch L.symm.trans e
  ·exact nomatch L.symm.trans hc
section
variable{K:Fg1}{H:Hp}{mu:List cJ}{S:Sto}{p:cJ}{u:HO}{o:Ob}{n:Nat}
theorem Rd.ne{a:cJ}{x:HO}(h:H p=Y)(q:Rd H a x):a≠p:=by
 rintro rfl;rcases q with q|⟨_,q⟩<;>(rw[h]at q;cases q)
theorem Ext.fresh(hp:H p=Y):Ext mu mu H (upd H p u) where
 pre:=bp
 old:=λa o h _=>by rw[dD (d2 h hp)];exact h
 tup:=λa xs h=>by
  have ne:=Rd.ne hp h;rcases h with h|⟨b,h⟩
  ·exact .inl (by rw[dD ne];exact h)
  ·exact .inr ⟨b,by rw[dD ne];exact h⟩
 frz:=λa o x h=>by rw[dD (d2 h hp)];exact h
 new:=λ_ h=>.inl h
theorem Ext.new_(hp:H p=Y):Ext mu (mu++[p]) H (upd H p u) where
 pre:=bv _ _
 old:=(Ext.fresh (mu:=mu) hp).old
 tup:=(Ext.fresh (mu:=mu) hp).tup
 frz:=(Ext.fresh (mu:=mu) hp).frz
 new:=λa h=>by
  rcases aE.mp h with h|h
  ·exact .inl h
  ·have:a=p:=by simpa using h
   subst this;exact .inr hp
theorem Sim.fresh(s:Sim K H mu S)(hp:H p=Y):Sim K (upd H p u) mu S:=
 ⟨s.len,s.nd,λk o a h1 h2=>(s.ob k o a h1 h2).keep (Ext.fresh hp) λb e=>by rw[dD (d2 e hp)];exact e⟩
theorem Sim.notin(s:Sim K H mu S)(hp:H p=Y):p∉mu:=λh=>by
 obtain⟨o,e⟩:=s.here h;rw[hp]at e;cases e
theorem oB.more{a:cJ}{mu':List cJ}{H':Hp}(e:Ext mu mu' H H')(h:∀o,H a=Z o->H' a=Z o):∀{o:Ob},oB K H mu a o->oB K H' mu' a o
 | .lst _,⟨vs,q,r⟩=>⟨vs,h _ q,r.ext e⟩
 | .dct _,⟨ws,q,r⟩=>⟨ws,h _ q,KR.ext e r⟩
 | .dcT _,⟨ws,q,r,l⟩=>⟨ws,h _ q,KT.ext e r,l⟩
 | .iset _,q=>⟨h _ q.1,q.2⟩
 | .dcF _,⟨ws,⟨o,u,c,b⟩,r,l⟩=>⟨ws,⟨o,u,h _ c,b⟩,KT.ext e r,l⟩
 | .tst _,⟨ws,q,r⟩=>⟨ws,h _ q,KT.ext e r⟩
theorem Sim.new(s:Sim K H mu S)(hp:H p=Y)(ho:oB K (upd H p u) (mu++[p]) p o):Sim K (upd H p u) (mu++[p]) (S++[o]):=by
 refine⟨by rw[lA1,lA1,s.len];rfl,?_,λk o' a h1 h2=>?_⟩
 ·rw[bx];refine⟨s.nd,by simp,λa g b f e=>?_⟩;have:b=p:=by simpa using f
  subst this;subst e;exact s.notin hp g
 ·by_cases d:k<S.length
  ·rw[gL1 d]at h1;rw[gL1 (by rw[s.len];exact d)]at h2;exact(s.ob k o' a h1 h2).more (Ext.new_ hp) λh e=>by rw[dD (d2 e hp)];exact e
  ·have c:k=S.length:=by
    have:=(gE1.mp h1).1;rw[lA1]at this;simp at this;lia
   subst c;rw[gR1 (nR1 _)]at h1;rw[<- s.len,gR1 (nR1 _)]at h2;simp at h1 h2;subst h1;subst h2;exact ho
theorem Ext.put{x:HO}(hp:H p=Z x)(hm:Hd (Z x))(b:p∈mu):Ext mu mu H (upd H p u) where
 pre:=bp
 old:=λa o h n=>by rw[dD (λe=>n (by rw[e];exact b))];exact h
 tup:=λa xs h=>by
  have ne:a≠p:=by
   rintro rfl;rcases h with h|⟨_,h⟩<;>(rw[hp]at h;cases h;exact hm)
  rcases h with h|⟨c,h⟩
  ·exact .inl (by rw[dD ne];exact h)
  ·exact .inr ⟨c,by rw[dD ne];exact h⟩
 frz:=λa o y h=>by
  rw[dD (λe=>?_)]
  ·exact h
  ·subst e;rw[hp]at h;cases h;exact hm
 new:=λ_ h=>.inl h
theorem Sim.put(s:Sim K H mu S){x:HO}(hn:mu[n]?=Z p)(hp:H p=Z x)(hm:Hd (Z x))(ho:oB K (upd H p u) mu p o):Sim K (upd H p u) mu (S.set n o):=by
 refine⟨by rw[aS];exact s.len,s.nd,λk o' a h1 h2=>?_⟩;by_cases b:n=k
 ·subst b;have f:n<S.length:=by
   have:=(gE1.mp h1).1
   rwa [aS]at this
  rw[aG f]at h1;cases h1;rw[hn]at h2;cases h2;exact ho
 ·rw [gS1 b] at h1;have ne:a≠p:=fun e=>by
   subst e;obtain⟨h,c⟩:=gE1.mp hn;obtain⟨g,d⟩:=gE1.mp h2;exact b ((List.getElem_inj s.nd).mp (c.trans d.symm))
  exact(s.ob k o' a h1 h2).keep (Ext.put hp hm (gM1 hn)) λi e=>by rw[dD ne];exact e
theorem Sim.lst(s:Sim K H mu S){ds:List D}{a:cJ}(h:S[n]?=Z (.lst ds))(hn:mu[n]?=Z a):∃vs,H a=Z (.lst vs)/\dk K H mu ds vs:=s.ob n _ a h hn
theorem Sim.dcT(s:Sim K H mu S){ks:List (TK×D)}{a:cJ}(h:S[n]?=Z (.dcT ks))(hn:mu[n]?=Z a):∃ws,H a=Z (.ext (i7 a ws))/\KT K H mu ks ws/\ws.length<=cQ:=s.ob n _ a h hn
theorem Sim.dct(s:Sim K H mu S){ks:List (Key×D)}{a:cJ}(h:S[n]?=Z (.dct ks))(hn:mu[n]?=Z a):∃ws,H a=Z (.dK ws)/\KR K H mu ks ws:=s.ob n _ a h hn
theorem Sim.newL(s:Sim K H mu S){ds:List D}{vs:List V}(r:dk K H mu ds vs)(hp:H p=Y):Sim K (upd H p (.lst vs)) (mu++[p]) (S++[.lst ds]):=s.new hp ⟨vs,dZ,r.ext (Ext.new_ hp)⟩
theorem Sim.putL(s:Sim K H mu S){ds:List D}{vs ws:List V}(r:dk K H mu ds vs)(hn:mu[n]?=Z p)(hp:H p=Z (.lst ws)):Sim K (upd H p (.lst vs)) mu (S.set n (.lst ds)):=
 s.put hn hp trivial ⟨vs,dZ,r.ext (Ext.put hp trivial (gM1 hn))⟩
end
theorem g4{mu:List cJ}{S:Sto}(h:mu.length=S.length)(p:cJ):(mu++[p])[S.length]?=Z p:=by
 rw[<- h,gR1 (nR1 _)];simp
noncomputable def dz (a:FA):FE:=λr S=>(a r S).bind λp=>if p.1.length<=cQ then some (.tup p.1,p.2)else none
noncomputable def et (a:FA):FE:=λr S=>(a r S).bind λp=>if p.1.length<=cQ then some (.ref p.2.length,p.2++[.lst p.1])else none
section
variable{X:Cx}{es:List Expr}{pos:Pos}{a:FA}
theorem F4{x1}(h:MA X es a):ME X (.Tuple es x1 pos) (dz a):=eo (Fc h) <| by
 rintro σ H Q ⟨r,mu,S,d,m,i,f,b,hc⟩;obtain⟨⟨ds,l⟩,g,b⟩:=oB1.mp b;dsimp only at b;split at b
 ·rename_i j;cases b;refine⟨r,mu,S,ds,_,i,f,g,λvs H1 mu1 x1 e k=>⟨by rw[<- e.length];exact j,λp c=>?_⟩⟩;exact hc _ _ mu1 (x1.trans (Ext.fresh c)) (.tup (jt.of dZ) (e.ext (Ext.fresh c))) (k.fresh c)
 ·cases b
theorem Ga(h:MA X es a):ME X (.List es pos) (et a):=eo (Fi h) <| by
 rintro σ H Q ⟨r,mu,S,d,n,j,g,b,hc⟩;obtain⟨⟨ds,m⟩,i,b⟩:=oB1.mp b;dsimp only at b;split at b
 ·rename_i l;cases b;refine⟨r,mu,S,ds,_,j,g,i,λvs H1 mu1 k c f=>⟨by rw[<- c.length];exact l,λp e=>?_⟩⟩;exact hc _ _ (mu1++[p]) (k.trans (Ext.new_ e)) (.ref (g4 f.len p)) (f.newL c e)
 ·cases b
end
def uk(k:Nat)(keep:List Nat)(r:Ev):Ev:=aM k Y++keep.map λi=>(r[i]?).join
def eH:FT:=λ_ S=>Z (M,S)
theorem ID{K:Fg1}{H:Hp}{mu:List cJ}{r:Ev}{σ:L2.St}(k:Nat)(keep:List Nat)(h:fy K H mu r σ):fy K H mu (uk k keep r) (qp k keep σ):=by
 refine⟨by unfold uk qp;rw[lA1,lA1,lM1,lM1,lR1,lR1],λi d e=>?_⟩;unfold uk at e;unfold qp;by_cases hi:i<k
 ·rw[gL1 (by rw[lR1];exact hi),aP]at e;split at e<;>cases e
 ·rw [gR1 (by rw [lR1];lia),lR1,gP1] at e;rw [gR1 (by rw [lR1];lia),lR1,gP1];obtain ⟨j,a,e⟩:=oM1.mp e;rw [a];have b:r[j]? = some (some d):=by
   cases q:r[j]? with
   |none=>rw[q]at e;cases e
   |some o=>rw[q]at e;cases e;rfl
  obtain⟨v,f,c⟩:=h.val j d b;exact⟨v,by rw[oP1,f];rfl,c⟩
section
variable{X:Cx}
theorem yB{ifs:List Expr}{t t':L2.TT}(h:oy X ifs t)(i:∀ σ H Q,t' σ H Q->t σ H Q):oy X ifs t':=λag s σ H Q I q=>h ag s σ H Q I (i σ H Q q)
theorem Cc:oy X [] (xU X.K eH):=yB yA fun σ H Q ⟨r,mu,S,b,e,d,a,c,hc⟩=>by cases c;exact hc H mu (.refl _ _) a
theorem Cb{c:Expr}{t:FT}(h:MT X c t):oy X [c] (xU X.K t):=yz h
end
open PySem.AutoSeq1 (wpAny_loadPart')
def SIt(b:Bool)(h:cT)(it a:cJ)(i:Nat):Prop:=match b with
 |true=>h.IsListIter it a i
 |false=>h.IsTupleIter it a i
def SCo(b:Bool)(h:cT)(a:cJ)(xs:Array cH):Prop:=match b with
 |true=>h.IsList a xs
 |false=>h.IsTuple a xs
theorem SIt.to{b:Bool}{h h':cT}{it a:cJ}{i:Nat}(x:SIt b h it a i)(k:∀o,h.get? it=Z o->h'.get? it=Z o):SIt b h' it a i:=by
 cases b<;>(obtain⟨o,e,r⟩:=x;exact⟨o,k o e,r⟩)
theorem SIt.rec_{b:Bool}{h:cT}{it a:cJ}{i:Nat}(x:SIt b h it a i):∃o,h.get? it=Z o /\ ∀v,o.data ≠ .cell v:=by
 cases b<;>(obtain⟨o,e,c,d⟩:=x;exact⟨o,e,λv z=>by rw[d]at z;cases z⟩)
theorem SCo.to{b:Bool}{h h':cT}{a:cJ}{xs:Array cH}(x:SCo b h a xs)(k:∀o,h.get? a=Z o->h'.get? a=Z o):SCo b h' a xs:=by
 cases b<;>(obtain⟨o,e,r⟩:=x;exact⟨o,k o e,r⟩)
def hY(b:Bool)(a:cJ):Obj:=match b with
 |true=>{cls:=.type "list_iterator",data:=.fields #[.ref a,.int 0 0]}
 |false=>{cls:=.type "tuple_iterator",data:=.fields #[.ref a,.int 0 0]}
section
variable{prog:cK}{w:cN}{A:cM}{E:cH->cI->Prop}{s:cI}
theorem Bj{b:Bool}{h:cT}{it a:cJ}(e:h.get? it=Z (hY b a)):SIt b h it a 0:=by
 cases b<;>exact⟨_,e,O,O⟩
theorem kQ{b:Bool}{a:cJ}{xs:Array cH}{Q:cH->cI->Prop}(x:SCo b s.heap a xs)(h:Q (.ref s.heap.objs.size) {s with heap:=s.heap.push (hY b a)}):cR (model prog w) A (pyIter (.ref a)) Q E s:=by
 cases b
 ·exact wpAny_pyIter_tuple x h
 ·exact wpAny_pyIter_list x h
theorem yR{it l:cJ}{i:Nat}{xs:Array cH}{x:cH}{Q:cH->cI->Prop}(d:s.heap.IsTupleIter it l i)(tl:s.heap.IsTuple l xs)(hx:xs[i]? = Z x)(f:∀h',h'.IsTupleIter it l (i+1)->Heap.SameBut it s.heap h'->Q x {s with heap:=h'}):cR (model prog w) A (Builtin.SmallTypes.nextOf (.ref it)) Q E s:=by
 obtain⟨o,b,hc,a⟩:=id d;obtain⟨h,c,_,g,e⟩:=tl;unfold Builtin.SmallTypes.nextOf;refine wB1 (wpAny_callSpecial?_slot (name:=Str.ofString "__next__") d.typeIs F.slot_tuple_iterator_next (wE1 F.slot_tuple_iterator_next d.typeIs F.entry_tuple_iterator_next ?_ (F.args_tuple_iterator_next_1 _)));show cR _ _ (field (.ref it) 0 >>= _) _ _ s;refine wB1 (wpAny_field b a (x:=.ref l) O ?_);show cR _ _ (if(Value.ref l == Value.none)=M then _ else _) _ _ s;rw[aj (show¬ ((Value.ref l == Value.none)=M)from aI)];show cR _ _ (field (.ref it) 1 >>= _) _ _ s;refine wB1 (wpAny_field b a (x:=.int i 0) O ?_);show cR _ _ (seqItems? (.ref l) >>= _) _ _ s;refine wB1 (wpAny_seqItems c e ?_);simp only[Int.toNat_natCast,hx];refine wB1 (wpAny_setField b a (by simp) (wP1 ⟨x,O,wP1 (f _ ⟨_,hW1 _ b (Obj.isFreed_of_fields (Obj.data_mapFields a _)),(Obj.cls_mapFields ..).trans hc,by rw[Obj.data_mapFields a];simp[rawInt]⟩ (Heap.SameBut.update ..))⟩))
theorem qc {it l:cJ}{i:Nat}{xs:Array cH}{Q:cH->cI->Prop}(h:A.handled=none)(f:s.heap.IsTupleIter it l i)(tl:s.heap.IsTuple l xs)(hx:xs[i]? = none)
  (j:∀h' e,Heap.ExtBut it s.heap h'->(∃o,h'.get? e=Z o/\o.cls = .type "StopIteration")->E (.ref e) {s with heap:=h'}):cR (model prog w) A (Builtin.SmallTypes.nextOf (.ref it)) Q E s:=by
 obtain⟨o,c,hc,b⟩:=id f;obtain⟨n,d,_,k,g⟩:=tl;unfold Builtin.SmallTypes.nextOf;refine wB1 (wpAny_callSpecial?_slot (name:=Str.ofString "__next__") f.typeIs F.slot_tuple_iterator_next (wE1 F.slot_tuple_iterator_next f.typeIs F.entry_tuple_iterator_next ?_ (F.args_tuple_iterator_next_1 _)));show cR _ _ (field (.ref it) 0 >>= _) _ _ s;refine wB1 (wpAny_field c b (x:=.ref l) O ?_);show cR _ _ (if(Value.ref l == Value.none)=M then _ else _) _ _ s;rw[aj (show¬ ((Value.ref l == Value.none)=M)from aI)];show cR _ _ (field (.ref it) 1 >>= _) _ _ s;refine wB1 (wpAny_field c b (x:=.int i 0) O ?_);show cR _ _ (seqItems? (.ref l) >>= _) _ _ s;refine wB1 (wpAny_seqItems d g ?_);simp only[Int.toNat_natCast,hx];refine wB1 (wpAny_rule (wB1 (wpAny_setField c b (by simp) ?_)));show cR _ _ (newExc (.type "StopIteration") [] >>= _) _ _ _;refine wB1 ?_;simp only[newExc,newTuple];refine wB1 (wO1 ?_ (by size_fits));refine wB1 (m:=firstArgMember _ _) (wpAny_of_eq (a:=Value.none) (by first|rfl|(simp only[firstArgMember];rfl)) ?_);refine wO1 ?_ (by size_fits);simp only[raiseNew];refine wB1 (wpAny_handled ?_)
 first|rw[show A.in1.handled=Y from h] | rw[h]
 refine wB1 (wP1 (wpAny_throw ?_));exact j _ _ (((Heap.SameBut.update ..).extBut.push _).push _) ⟨_,hS1 _ O,O⟩
theorem yS{b:Bool}{it l:cJ}{i:Nat}{xs:Array cH}{x:cH}{Q:cH->cI->Prop}(c:SIt b s.heap it l i)(tl:SCo b s.heap l xs)(hx:xs[i]? = Z x)(a:∀h',SIt b h' it l (i+1)->Heap.SameBut it s.heap h'->Q x {s with heap:=h'}):cR (model prog w) A (Builtin.SmallTypes.nextOf (.ref it)) Q E s:=by
 cases b
 ·exact yR c tl hx a
 ·exact wpAny_nextOf_list_item c tl hx a
theorem qg {b:Bool}{it l:cJ}{i:Nat}{xs:Array cH}{Q:cH->cI->Prop}(a:A.handled=none)(d:SIt b s.heap it l i)(tl:SCo b s.heap l xs)(hx:xs[i]? = none)
  (c:∀h' e,Heap.ExtBut it s.heap h'->(∃o,h'.get? e=Z o/\o.cls = .type "StopIteration")->E (.ref e) {s with heap:=h'}):cR (model prog w) A (Builtin.SmallTypes.nextOf (.ref it)) Q E s:=by
 cases b
 ·exact qc a d tl hx c
 ·exact wpAny_nextOf_list_end a d tl hx c
theorem z5{b:Bool}(l:cJ)(xs:Array cH):
  Meets (Builtin.«enumerate.__new__» ⟨[.type "enumerate",.ref l],[]⟩) (λ_ R s=>SCo b s.heap l xs /\
   R (.ok (.ret (.ref (s.heap.push (hY b l)).objs.size))) {s with heap:=(s.heap.push (hY b l)).push {cls:=.type "enumerate",data:=.fields #[.none,.bool J,.ref s.heap.objs.size,rawInt 0,.none,.none]}}):=
 .of_wp λprog w A R s h=>by
  obtain⟨f,g,d,tk,m⟩:=s;obtain⟨j,h⟩:=h;have i:=sub_enumerate
  have k:SCo b (Shared.heap ⟨f,g,d,tk,m⟩) l xs:=j;obtain⟨n,a⟩:∃o,f.get? l=some o:=by cases b<;>(obtain⟨o,e,_⟩:=j;exact⟨o,e⟩)
  wp_walk using wpAny_loadPart' a
  refine wpAny_stack_any λst=>wP1 ?_;split
  ·rename_i c _ _ _ _ _;cases(c == Value.type "enumerate")<;>(wp_walk using wpAny_loadPart' a,kQ k;exact⟨_,O,h⟩)
  ·wp_walk using wpAny_loadPart' a,kQ k
   exact⟨_,O,h⟩
theorem wT{b:Bool}{l:cJ}{xs:Array cH}{Q:cH->cI->Prop}(f:SCo b s.heap l xs)(h:∀h',IsEnum h' (s.heap.objs.size+1) s.heap.objs.size 0 .none->SIt b h' s.heap.objs.size l 0->h'.objs.size=s.heap.objs.size+2->(∀b o,s.heap.get? b=some o->h'.get? b=some o)->Q (.ref (s.heap.objs.size+1)) {s with heap:=h'}):
  cR (model prog w) A (call (.type "enumerate") [.ref l]) Q E s:=by
 refine callType_new F.called_enumerate (by decide) (F.typeCall_enumerate_1 _) (F.newCall_enumerate_1 _) (λa=>F.args_object_init_2 a _) F.entry_enumerate_new (z5 (b:=b) l xs) ⟨f,?_⟩;have d:(s.heap.push (hY b l)).objs.size=s.heap.objs.size+1:=hZ1 ..
 show _/\_;rw[d];have e:IsEnum ((s.heap.push (hY b l)).push {cls:=.type "enumerate",data:=.fields #[.none,.bool J,.ref s.heap.objs.size,rawInt 0,.none,.none]}) (s.heap.objs.size+1) s.heap.objs.size 0 .none:=by
  have q:=hS1 (s.heap.push (hY b l)) (o:={cls:=.type "enumerate",data:=.fields #[.none,.bool J,.ref s.heap.objs.size,rawInt 0,.none,.none]}) O;rw[d]at q;exact q
 have hi:(s.heap.push (hY b l)).get? s.heap.objs.size=Z (hY b l):=hS1 _ (by cases b<;>rfl);refine⟨⟨_,e,O⟩,h _ e (Bj (hP1 _ hi)) (by rw[hZ1,d]) λc o x=>hP1 _ (hP1 _ x)⟩
theorem wS {b:Bool}{e it l:cJ}{i:Nat}{xs:Array cH}{x old:cH}{Q:Option cH->cI->Prop}(he:IsEnum s.heap e it i old)(T:SIt b s.heap it l i)(tl:SCo b s.heap l xs)(hx:xs[i]? = some x)(r:e≠it)
  (U:∀h',IsEnumOut h' e it ((i:Int)+1) x s.heap.objs.size->SIt b h' it l (i+1)->h'.get? s.heap.objs.size=Z {cls:=.type "tuple",data:=.seq #[.int i s.toks,x]}->h'.objs.size=s.heap.objs.size+1 ->
   (∀b o,b≠e->b≠it->s.heap.get? b=Z o->h'.get? b=Z o)->Q (Z (.ref s.heap.objs.size)) {s with heap:=h',toks:=s.toks+1}):cR (model prog w) A (pyNext (.ref e)) Q E s:=by
 have S:s.TypeIs (.ref e) "enumerate":=⟨_,he,O⟩;unfold pyNext;refine wB1 (wpAny_attempt (wpAny_callSpecial?_slot (name:=Str.ofString "__next__") S F.slot_enumerate_next (wE1 F.slot_enumerate_next S F.entry_enumerate_next ?_ (F.args_enumerate_next_1 _))));obtain⟨j,g,d,tk,t⟩:=s;show cR _ _ (field (.ref e) 2 >>= _) _ _ _;refine wB1 (wpAny_field he O (x:=.ref it) O ?_);refine wB1 (yS T tl hx λh1 H G=>?_);replace G:Heap.SameBut it j h1:=G;have n:IsEnum h1 e it i old:=(G.2 e r).trans he;show cR _ _ (field (.ref e) 3 >>= _) _ _ ⟨h1,g,d,tk,t⟩;refine wB1 (wpAny_field n O (x:=rawInt i) O ?_);show cR _ _ (field (.ref e) 4 >>= _) _ _ ⟨h1,g,d,tk,t⟩;refine wB1 (wpAny_field n O (x:=.none) O ?_);show cR _ _ (mkInt i >>= _) _ _ ⟨h1,g,d,tk,t⟩;refine wB1 (wpAny_mkInt ?_);show cR _ _ (setField (.ref e) 3 (rawInt ((i:Int)+1)) >>= _) _ _ ⟨h1,g,d,tk+1,t⟩;refine wB1 (wS1 n (by simp) λh2 k D=>?_);replace D:Heap.SameBut e h1 h2:=D;replace k:IsEnum h2 e it ((i:Int)+1) old:=k;show cR _ _ (setField (.ref e) 4 .none >>= _) _ _ ⟨h2,g,d,tk+1,t⟩;refine wB1 (wS1 k (by simp) λh3 h C=>?_);replace C:Heap.SameBut e h2 h3:=C;replace h:IsEnum h3 e it ((i:Int)+1) old:=h;show cR _ _ (newTuple [.int i tk,x] >>= _) _ _ ⟨h3,g,d,tk+1,t⟩;refine wB1 (wpAny_newTuple ?_);have m:IsEnum (h3.push {cls:=.type "tuple",data:=.seq #[.int i tk,x]}) e it ((i:Int)+1) old:=hP1 _ h;generalize a:h3.push {cls:=.type "tuple",data:=.seq #[.int i tk,x]}=h4 at m;have p:h3.objs.size=j.objs.size:=by rw[C.1,D.1,G.1]
 have ao:e<j.objs.size:=hL1 he;have P:h4.get? j.objs.size=Z {cls:=.type "tuple",data:=.seq #[.int i tk,x]}:=by rw[<- a,<- p];exact hS1 _ O
 have L:h4.objs.size=j.objs.size+1:=by rw[<- a,hZ1,p]
 have N:∀b o,b≠e->b≠it->j.get? b=Z o->h4.get? b=Z o:=λb o f y ar=>by
  rw[<- a];exact hP1 _ (C.extBut b o f (D.extBut b o f (G.extBut b o y ar)))
 have R:SIt b h4 it l (i+1):=H.to λo q=>by rw[<- a];exact hP1 _ (C.extBut _ _ (Ne.symm r) (D.extBut _ _ (Ne.symm r) q))
 show cR _ _ (Builtin.SmallTypes.ownedTupleIsFree (.ref e) >>= _) _ _ ⟨h4,g,d,tk+1,t⟩;rw[p];clear a h C k D n G H p h3 h2 h1;refine wB1 ?_;unfold Builtin.SmallTypes.ownedTupleIsFree;refine wB1 (wpAny_field m O (x:=.none) O (wP1 ?_));simp only[if_true];refine wB1 (wpAny_rule ?_);refine wB1 (wpAny_field m O (x:=old) O ?_);refine wB1 (wS1 m (by simp) λh5 u am=>?_);replace am:Heap.SameBut e h4 h5:=am;replace u:IsEnum h5 e it ((i:Int)+1) x:=u;show cR _ _ (Builtin.SmallTypes.ownedTupleHandOut (.ref e) (.ref j.objs.size) >>= _) _ _ ⟨h5,g,d,tk+1,t⟩;refine wB1 ?_;unfold Builtin.SmallTypes.ownedTupleHandOut;refine wB1 (wS1 u (by simp) λh6 B K=>?_);replace K:Heap.SameBut e h5 h6:=K;replace B:IsEnumOut h6 e it ((i:Int)+1) x j.objs.size:=B;refine wS1 B (by simp) λh7 v I=>?_;replace I:Heap.SameBut e h6 h7:=I;replace v:IsEnumOut h7 e it ((i:Int)+1) x j.objs.size:=v;have up:∀c o,c≠e->h4.get? c=Z o->h7.get? c=Z o:=λc o z q=>I.extBut _ _ z (K.extBut _ _ z (am.extBut _ _ z q));refine wB1 (wpAny_letGo (wP1 ⟨_,O,wP1 (U h7 v (R.to λo q=>up _ o (Ne.symm r) q) (up _ _ (nG1 ao) P) (by rw[I.1,K.1,am.1,L]) λc o f y ar=>up c o f (N c o f y ar))⟩))
theorem z6{b:Bool}{e it l:cJ}{i:Nat}{xs:Array cH}{old:cH}{Q:Option cH->cI->Prop}(j:A.handled=Y)(he:IsEnum s.heap e it i old)(h:SIt b s.heap it l i)(tl:SCo b s.heap l xs)(hx:xs[i]? = Y)(g:∀h',Heap.ExtBut it s.heap h'->Q Y {s with heap:=h'}):cR (model prog w) A (pyNext (.ref e)) Q E s:=by
 have d:s.TypeIs (.ref e) "enumerate":=⟨_,he,O⟩;unfold pyNext;refine wB1 (wpAny_attempt (wpAny_callSpecial?_slot (name:=Str.ofString "__next__") d F.slot_enumerate_next (wE1 F.slot_enumerate_next d F.entry_enumerate_next ?_ (F.args_enumerate_next_1 _))));show cR _ _ (field (.ref e) 2 >>= _) _ _ _;refine wB1 (wpAny_field he O (x:=.ref it) O ?_);refine wB1 (qg j h tl hx λh' x a c=>?_);obtain⟨o,f,hc⟩:=c;refine wB1 (wpAny_isInstance (T:="StopIteration") (b:=M) ⟨o,f,hc⟩ isSubtype_stop ?_);exact wP1 (g _ a)
theorem pk{e it:cJ}{i:Int}{old:cH}{Q:cH->cI->Prop}(he:IsEnum s.heap e it i old)(h:Q (.ref e) s):cR (model prog w) A (pyIter (.ref e)) Q E s:=by
 have a:s.TypeIs (.ref e) "enumerate":=⟨_,he,O⟩;refine wpAny_pyIter_slot a F.slot_enumerate_iter (wE1 F.slot_enumerate_iter a F.entry_enumerate_iter ?_ (F.args_enumerate_iter_1 _));show cR _ _ (ret (.ref e)) _ _ s;exact wP1 ⟨_,O,"enumerate",_,a,F.slot_enumerate_next.lookup,h⟩
end
open PySem.AutoSeq1 (wpAny_loadPart')
section
variable{prog:cK}{w:cN}{A:cM}{E:cH->cI->Prop}{s:cI}{b1 b2:Bool}
end
def AV(K:Fg1)(b:Bool)(H:Hp)(a:cJ)(xs:List V):Prop:=match b with
 |true=>lv K H a xs
 |false=>jt K H a xs
section
variable{X:Cx}{ag:List (cJ×Obj)}{σ:L2.St}{H:Hp}{s:cI}
theorem eY{b:Bool}{a:cJ}{xs:List V}(I:Inv X ag σ H s)(h:AV X.K b H a xs):∃c:List cH,dM xs c/\SCo b s.heap a c.toArray/\xs.length<=cQ:=by
 cases b
 ·obtain⟨c,r,p,z⟩:=I.tuple h;exact⟨c,r,p,z⟩
 ·obtain⟨c,r,p,z⟩:=I.list h;exact⟨c,r,p.isList,z⟩
theorem uZ{b:Bool}{a:cJ}{xs ys:List V}(I:Inv X ag σ H s)(h:AV X.K b H a xs)(h':AV X.K b H a ys):xs=ys:=by
 cases b
 ·exact I.tuple_inj h h'
 ·exact I.list_inj h h'
theorem zz(I:Inv X ag σ H s){fp:List cJ}(hf:∀ b∈fp,kK X ag H b){h':cT}{p:cJ}{xs:List V}{its:List cH}{t':Nat}(hp:s.heap.objs.size<=p)(f:∀ b o,b∉fp->s.heap.get? b=Z o->h'.get? b=Z o)(k:IsTup h' p its.toArray)(j:dM xs its)(hz:xs.length<=cQ):Inv X ag σ (upd H p (.tup xs)) {s with heap:=h',toks:=t'}:=by
 have d:H p=Y:=I.hok.fresh hp;have g:∀{b o},s.heap.get? b=Z o->b≠p:=λe=>nN1 (nL1 (hL1 e) hp);have h:∀{b u},H b=Z u->b∉fp:=λe z=>by rw[(hf _ z).1]at e;cases e
 refine I.step (g':=s.gens) (d':=s.drawn) (ch:=fp) (λb a=>⟨(hf b a).2.2.2.1,(hf b a).2.1,(hf b a).2.2.2.2.1,(hf b a).2.2.2.2.2⟩) (λb o _ _ hc e _=>f b o hc e) (λb o _ _ hc e _=>⟨o.slots,f b o hc e⟩) (λb o _ e n=>?_)
  (λb o hc e=>⟨o,f b o hc e⟩) (λb ys e=>?_) (λb o u e=>?_) (λb ps e=>⟨#[],?_⟩) (λm l=>?_) (λb u e=>?_) I.bare
 ·rw[dD (g e)];exact n
 ·rw[dD (d2 e d)];exact e
 ·rw[dD (d2 e d)];exact e
 ·rw[dD (d2 e d),e];simp
 ·obtain⟨o,es,ep,i,r⟩:=l;exact⟨o,es,ep,f _ o (λz=>(hf _ z).2.1 O) i,r⟩
 ·by_cases a:b=p
  ·subst a;rw[dZ]at e;cases e;exact⟨hz,its,j,k⟩
  ·rw[dD a]at e;refine(I.hok b u e).stay (λc v hc q=>f c v ?_ q) (λc q=>by rw[dD (d2 q d)];exact q) λc ys q=>by rw[dD (d2 q d)];exact q
   rcases hc with z|z
   ·rw[z];exact h e
   ·exact h z
theorem uh(I:Inv X ag σ H s){fp:List cJ}(hf:∀b∈fp,kK X ag H b){h':cT}{t':Nat}(a:∀b o,b∉fp->s.heap.get? b=Z o->h'.get? b=Z o):Inv X ag σ H {s with heap:=h',toks:=t'}:=by
 have f:∀{b u},H b=Z u->b∉fp:=λe z=>by rw[(hf _ z).1]at e;cases e
 refine I.step (g':=s.gens) (d':=s.drawn) (ch:=fp) (λb d=>⟨(hf b d).2.2.2.1,(hf b d).2.1,(hf b d).2.2.2.2.1,(hf b d).2.2.2.2.2⟩) (λb o _ _ hc e _=>a b o hc e) (λb o _ _ hc e _=>⟨o.slots,a b o hc e⟩) (λb o _ e n=>n)
  (λb o hc e=>⟨o,a b o hc e⟩) (λb ys e=>e) (λb o u e=>e) (λb ps e=>⟨#[],by rw[e];simp⟩) (λm h=>?_) (λb u e=>?_) I.bare
 ·obtain⟨o,es,ep,g,r⟩:=h;exact⟨o,es,ep,a _ o (λz=>(hf _ z).2.1 O) g,r⟩
 ·refine(I.hok b u e).stay (λc v hc q=>a c v ?_ q) (λc q=>q) λc ys q=>q;rcases hc with z|z
  ·rw[z];exact f e
  ·exact f z
end
theorem xH:(2:Nat)<=cQ:=by decide
def K9(K:Fg1)(b:Bool)(a:cJ):It:=
 ⟨λi H=>∃xs x,AV K b H a xs/\xs[i]?=Z x,λi H x H'=>∃p v,H p=Y/\x = .ref p/\H'=upd H p (.tup [.int i,v]) /\ ∀xs,AV K b H a xs->xs[i]?=Z v,λi H=>∃xs,AV K b H a xs/\xs.length<=i⟩
theorem wg{P:cK}{w:cN}{K:Fg1}{elts:List Expr}{k:Nat}{pos:Pos}(b:Bool)(a e it:cJ)(ne:e≠it):xc P w K (.Tuple elts k pos) (K9 K b a) [e,it] e (λi h=>(∃old,IsEnum h e it (i:Nat) old)/\SIt b h it a i) where
 mem:=by simp
 obj:=by
  rintro i h ⟨⟨old,st⟩,y⟩ c hc;rcases aD.mp hc with z|z
  ·subst z;exact⟨_,st,λv q=>by cases q⟩
  ·have z':c=it:=by simpa using z
   subst z';exact y.rec_
 keep:=λi h h' ⟨⟨old,st⟩,y⟩ Q=>⟨⟨old,Q e (by simp) _ st⟩,y.to λo q=>Q it (by simp) o q⟩
 item:=by
  intro X am F ao hc i ag s σ H E I j st C;subst am F ao;obtain⟨⟨old,f⟩,g⟩:=st;obtain⟨xs,x,l,G⟩:=C;obtain⟨A,r,p,wq⟩:=eY I l;obtain⟨u,T,ru⟩:=r.get G;refine wS f g p (x:=u) (by simpa using T) ne λh1 D L t hz1 N=>?_;refine⟨.ref s.heap.objs.size,O,?_⟩;refine wpAny_letOwnedTupleGo_enum D λh2 B d=>?_;have R:s.heap.objs.size≠e:=nG1 (hL1 f);have n:∀c o,c∉[e,it]->s.heap.get? c=Z o->h2.get? c=Z o:=λc o hc q=>by
   have m:c≠e:=λz=>hc (by simp[z]);have c2:c≠it:=λz=>hc (by simp[z]);exact d.extBut _ _ m (N c o m c2 q)
  have tp:IsTup h2 s.heap.objs.size [.int (i:Nat) s.toks,u].toArray:=⟨_,d.extBut _ _ R t,O,_,O⟩;have U:=zz I j (t':=s.toks+1) (nR1 _) n tp (xs:=[.int i,x]) (.cons ⟨_,O⟩ (.cons ru .nil)) xH;have V:H s.heap.objs.size=Y:=I.hok.fresh (nR1 _);refine⟨.ref s.heap.objs.size,_,U,O,⟨_,x,V,O,O,λys aq=>by rw[uZ I aq l];exact G⟩,⟨⟨u,?_⟩,L.to λo q=>d.extBut _ _ (Ne.symm ne) q⟩,λc hc=>?_⟩
  ·have:((i+1:Nat):Int)=(i:Int)+1:=by push_cast;rfl
   rw[this];exact B
  ·have m:c≠s.heap.objs.size:=fun z=>by
    rcases aD.mp hc with q|q
    ·exact R (z.symm.trans q)
    ·have S:c=it:=by simpa using q
     obtain⟨o,ar,_⟩:=g.rec_;rw[<- S,z]at ar;exact ay _ (hL1 ar)
   rw[dD m];exact(j c hc).1
 done:=by
  intro X am F ao hc i ag s σ H E I j st C;subst am F ao;obtain⟨⟨old,f⟩,g⟩:=st;obtain⟨xs,l,G⟩:=C;obtain⟨A,r,p,wq⟩:=eY I l;have hl:=r.length;refine z6 (I.ok.hd hc) f g p (by simp;lia) λh' W=>⟨O,uh I (t':=s.toks) j λc o hc q=>W c o (λz=>hc (by simp[z])) q⟩
 self:=λ_ _ _ _ _ ⟨⟨_,st⟩,_⟩ h=>pk st h
section
variable{X:Cx}{elts:List Expr}{k:Nat}{tpos:Pos}
def II(K:Fg1)(ta:TA):TI:=fun σ H R=>ta σ H λvs H1=>∃a b,vs=[.ref a]/\(∃xs,AV K b H1 a xs)/\R (K9 K b a) H1
theorem BG {a:Expr}{ta:TA}{p pos:Pos}(hg:Gl X "enumerate")(hm:X.mg "enumerate"=Y)(ha:PA X [a] ta)(hs:cP [a] X.env=[(J,eval a X.env)]:=by rfl):PI X (.Tuple elts k tpos) (.Call (.Name "enumerate" p) [a] [] pos) (II X.K ta):=by
 intro ag s σ H R I h;refine Call_ (lI I hg hm boot_enumerate (PyProof.Rows.callWith_type1 (eR (ha pos ag s σ H _ I h) λC g ⟨vs,H1,f,m,x⟩=>?_) hs O));obtain⟨c,b,e,⟨xs,l⟩,q⟩:=x;subst e;cases m with
 |cons r A=>
  cases A;cases r;obtain⟨v,B,u,D⟩:=eY f l;refine wT u λh' i y w n=>pk i ?_;have t:Inv X ag σ H1 {g with heap:=h'}:=f.kept (t':=g.toks) n;refine⟨g.heap.objs.size+1,[g.heap.objs.size+1,g.heap.objs.size],_,_,H1,O,t,wg b c _ _ (Nat.succ_ne_self _),⟨⟨.none,i⟩,y⟩,λd j=>?_,q⟩;rcases aD.mp j with z|z
  ·subst z;exact f.fpOk (bF _) (f.hok.fresh (bF _))
  ·have o:d=g.heap.objs.size:=by simpa using z
   subst o;exact f.fpOk (nR1 _) (f.hok.fresh (nR1 _))
end
noncomputable def dj (S:Sto):D->Option (Bool×List D)
 | .tup xs=>some (false,xs)
 | .rol xs=>some (true,xs)
 | .ref n=>match S[n]? with
  |some (.lst xs)=>some (true,xs)
  |_=>none
 |_=>none
def lm(S:Sto):D->List (Nat×List D)
 | .ref n=>match S[n]? with
  |some (.lst xs)=>[(n,xs)]
  |_=>[]
 |_=>[]
section
variable{K:Fg1}{H:Hp}{mu:List cJ}{S:Sto}
theorem dr{d:D}{v:V}{b:Bool}{xs:List D}(r:ez K H mu d v)(s:Sim K H mu S)(h:dj S d=Z (b,xs)):∃a vs,v = .ref a/\AV K b H a vs/\dk K H mu xs vs:=by
 cases d with
 |tup ys=>cases h;cases r with|tup q t=>exact⟨_,_,rfl,q,t⟩
 |rol ys=>cases h;cases r with|rol q t=>exact⟨_,_,rfl,q.sq,t⟩
 |ref n=>
  rw[dj]at h;split at h
  ·rename_i ys e;cases h;cases r with
   |ref q=>
    obtain⟨vs,c,f⟩:=s.lst e q;exact⟨_,vs,O,lv.of c,f⟩
  ·cases h
 |_=>cases h
theorem lA{d:D}{a:cJ}{b:Bool}{xs:List D}(r:ez K H mu d (.ref a))(s:Sim K H mu S)(h:dj S d=some (b,xs)){H1:Hp}{mu1:List cJ}{S1:Sto}(x:qT mu mu1 H H1)(f:Sim K H1 mu1 S1)(ok:qS S1 (lm S d)=true):
  ∃vs,AV K b H1 a vs/\dk K H1 mu1 xs vs:=by
 have g:=r.exw x;have h1:dj S1 d=Z (b,xs):=by
  cases d with
  |ref n=>
   rw[dj]at h;split at h
   ·rename_i ys e;cases h;rw[lm,e]at ok;dsimp only[qS]at ok;rw[bH]at ok;rw[dj];split at ok
    ·rename_i zs c
     first|rw[c,D.sames_eq ok] | rw[D.sames_eq ok]
    ·cases ok
   ·cases h
  |_=>exact h
 obtain⟨i,vs,e,q,t⟩:=dr g f h1;cases e;exact⟨vs,q,t⟩
end
noncomputable def gb (m:FE):FI:=λr S=>(m r S).bind λp=>(dj p.2 p.1).bind λq=>some (⟨q.2,lm p.2 p.1⟩,p.2)
def z7:Nat->List D->List D
 |_,[]=>[]
 |n,d::ds=>.tup [.int n,d]::z7 (n+1) ds
noncomputable def vE (m:FA):FI:=λr S=>(m r S).bind λp=>match p.1 with
 |[d]=>(dj p.2 d).bind λq=>some (⟨z7 0 q.2,lm p.2 d⟩,p.2)
 |_=>none
def iL(lo:Int):Nat->List D
 |0=>[]
 |n+1=>.int lo::iL (lo+1) n
noncomputable def mZ (m:FA):FI:=λr S=>(m r S).bind λp=>match p.1 with
 |[.int j]=>if-(2^62)<=j/\j<2^62 then some (⟨iL 0 j.toNat,[]⟩,p.2)else none
 |_=>none
def IG(m:FA):FI:=λr S=>(m r S).bind λp=>match p.1 with
 |[.int i,.int j]=>if-(2^62)<=i/\i<2^62 /\ -(2^62)<=j/\j<2^62 then Z (⟨iL i (j-i).toNat,[]⟩,p.2)else Y
 |_=>Y
theorem iq:∀(ds:List D) (n i:Nat),(z7 n ds)[i]?=(ds[i]?).map λd=>.tup [.int ((n+i:Nat):Int),d]
 |[],n,i=>by simp[z7]
 |d::ds,n,0=>by simp[z7]
 |d::ds,n,i+1=>by
  rw[z7,gC1,iq ds (n+1) i,gC1];rw[show n+1+i=n+(i+1) by lia]
theorem ip:∀(ds:List D) (n:Nat),(z7 n ds).length=ds.length
 |[],_=>rfl
 |d::ds,n=>by rw[z7,lC1,ip ds,lC1]
theorem nK:∀(n:Nat) (lo:Int) (i:Nat) (d:D),(iL lo n)[i]?=Z d->i<n/\d = .int (lo+i)
 |0,lo,i,d,h=>by simp[iL]at h
 |n+1,lo,0,d,h=>by simp[iL]at h;exact⟨Nat.succ_pos _,by rw[<- h];simp⟩
 |n+1,lo,i+1,d,h=>by
  rw[iL,gC1]at h;obtain⟨h1,h2⟩:=nK n (lo+1) i d h;refine⟨Nat.succ_lt_succ h1,?_⟩;rw[h2,show lo+1+(i:Int)=lo+((i+1:Nat):Int) by push_cast;lia]
theorem d0:∀(n:Nat) (lo:Int),(iL lo n).length=n
 |0,_=>rfl
 |n+1,lo=>by rw[iL,lC1,d0 n]
section
variable{X:Cx}{tg:Expr}
theorem sg(K:Fg1)(lo:Int)(n:Nat)(mu:List cJ)(H:Hp):Ku K (Jc lo n) ⟨iL lo n,[]⟩ mu H:=by
 intro i H1 mu1 e x s ok;refine⟨λd a=>?_,λh=>by rw[d0]at h;exact h⟩;obtain⟨h1,h2⟩:=nK n lo i d a;refine⟨h1,λy H2 ⟨c,b⟩=>?_⟩;subst c;subst b;subst h2;exact⟨.refl _ _,s,.int _⟩
theorem F0{e:Expr}{m:FE}(h:ME X e m):MI X tg e (gb m):=pW (HU (BF h) (E8 h)) <| by
 rintro σ H R ⟨r,mu,S,am,I,B,C,j,hc⟩;obtain⟨⟨d,G⟩,D,j⟩:=oB1.mp j;obtain⟨⟨b,xs⟩,o,j⟩:=oB1.mp j;cases j;cases b with
 |true=>
  left;refine⟨r,mu,S,d,_,B,C,D,λv H1 mu1 z l f=>?_⟩;obtain⟨a,vs,rfl,q,t⟩:=dr l f o;refine⟨a,O,⟨vs,q⟩,hc _ H1 mu1 z (λi H2 A F x2 n ok=>?_) f⟩;obtain⟨ws,c,k⟩:=lA l f o x2 n ok;refine⟨λd x=>?_,λw=>⟨ws,c,by rw[<- k.length];exact w⟩⟩;obtain⟨v,g,p⟩:=k.get x;refine⟨⟨ws,v,c,g⟩,λy E ⟨u,s⟩=>?_⟩;subst u;have:=s ws c;rw[g]at this;cases this;exact⟨.refl _ _,n,p⟩
 |false=>
  right;refine⟨r,mu,S,d,_,B,C,D,λv H1 mu1 z l f=>?_⟩;obtain⟨a,vs,rfl,q,t⟩:=dr l f o;refine⟨a,O,⟨vs,q⟩,hc _ H1 mu1 z (λi H2 A F x2 n ok=>?_) f⟩;obtain⟨ws,c,k⟩:=lA l f o x2 n ok;refine⟨λd x=>?_,λw=>⟨ws,c,by rw[<- k.length];exact w⟩⟩;obtain⟨v,g,p⟩:=k.get x;refine⟨⟨ws,v,c,g⟩,λy E ⟨u,s⟩=>?_⟩;subst u;have:=s ws c;rw[g]at this;cases this;exact⟨.refl _ _,n,p⟩
theorem ro{K:Fg1}{H:Hp}{mu:List cJ}{d:D}{vs:List V}(r:dk K H mu [d] vs):∃v,vs=[v]/\ez K H mu d v:=by
 cases r with|cons r t=>cases t;exact⟨_,O,r⟩
theorem yg{K:Fg1}{H:Hp}{mu:List cJ}{d e:D}{vs:List V}(r:dk K H mu [d,e] vs):∃v u,vs=[v,u]/\ez K H mu d v/\ez K H mu e u:=by
 cases r with|cons r t=>cases t with|cons q t=>cases t;exact⟨_,_,O,r,q⟩
theorem wA {a:Expr}{m:FA}{p pos:Pos}(hg:Gl X "range")(hm:X.mg "range"=Y)(ha:MA X [a] m)(hs:cP [a] X.env=[(J,eval a X.env)]:=by rfl):MI X tg (.Call (.Name "range" p) [a] [] pos) (mZ m):=
 pW (wu hg hm ha hs) <| by
  rintro σ H R ⟨r,mu,S,am,k,e,hs,hm,hc⟩;obtain⟨⟨ds,i⟩,d,hm⟩:=oB1.mp hm;dsimp only at hm;split at hm
  ·rename_i j;split at hm
   ·rename_i b;cases hm;refine⟨r,mu,S,_,_,e,hs,d,λvs H1 mu1 g c h=>?_⟩;obtain⟨v,rfl,f⟩:=ro c;cases f;exact⟨j,O,b.1,b.2,hc _ H1 mu1 g (sg _ _ _ _ _) h⟩
   ·cases hm
  ·cases hm
theorem wz {a b:Expr}{m:FA}{p pos:Pos}(hg:Gl X "range")(hm:X.mg "range"=Y)(ha:MA X [a,b] m)(hs:cP [a,b] X.env=[(J,eval a X.env),(J,eval b X.env)]:=by rfl)(hs2:cP [b] X.env=[(J,eval b X.env)]:=by rfl):MI X tg (.Call (.Name "range" p) [a,b] [] pos) (IG m):=
 pW (wt hg hm ha hs hs2) <| by
  rintro σ H R ⟨r,mu,S,am,o,f,hs,hm,hc⟩;obtain⟨⟨ds,n⟩,d,hm⟩:=oB1.mp hm;dsimp only at hm;split at hm
  ·rename_i i j;split at hm
   ·rename_i e;cases hm;refine⟨r,mu,S,_,_,f,hs,d,λvs H1 mu1 h c l=>?_⟩;obtain⟨v,u,rfl,g,k⟩:=yg c;cases g;cases k;exact⟨i,j,O,e,hc _ H1 mu1 h (sg _ _ _ _ _) l⟩
   ·cases hm
  ·cases hm
variable{elts:List Expr}{k:Nat}{tpos:Pos}
theorem Cd {a:Expr}{m:FA}{p pos:Pos}(hg:Gl X "enumerate")(hm:X.mg "enumerate"=Y)(ha:MA X [a] m)(hs:cP [a] X.env=[(J,eval a X.env)]:=by rfl):MI X (.Tuple elts k tpos) (.Call (.Name "enumerate" p) [a] [] pos) (vE m):=
 pW (BG hg hm ha hs) <| by
  rintro σ H R ⟨r,mu,S,am,ao,w,hs,hm,hc⟩;obtain⟨⟨ds,G⟩,A,hm⟩:=oB1.mp hm;dsimp only at hm;split at hm
  ·rename_i d;obtain⟨⟨b,xs⟩,l,hm⟩:=oB1.mp hm;cases hm;refine⟨r,mu,S,_,_,w,hs,A,λvs H1 mu1 E D h=>?_⟩;obtain⟨v,rfl,j⟩:=ro D;obtain⟨a,vs,rfl,q,t⟩:=dr j h l;refine⟨a,b,O,⟨vs,q⟩,hc _ H1 mu1 E (λi H2 F L x2 u ok=>?_) h⟩;obtain⟨ws,g,s⟩:=lA j h l x2 u ok;refine⟨λd c=>?_,λo=>⟨ws,g,by rw[ip]at o;rw[<- s.length];exact o⟩⟩;rw[iq]at c;obtain⟨I,B,c⟩:=oM1.mp c;obtain⟨v,n,f⟩:=s.get B;refine⟨⟨ws,v,g,n⟩,λy K ⟨p,N,e,z,x,C⟩=>?_⟩;have:=C ws g;rw[n]at this;cases this;subst z;subst x;subst c;rw[bI];exact⟨Ext.fresh e,u.fresh e,.tup (jt.of dZ) (.cons (.int _) (.cons (f.ext (Ext.fresh e)) .nil))⟩
  ·cases hm
end
end Mi
namespace Mi
open PySem PySem.Spec PyProof.Rows L2 SeqAt
open AutoSeq1 (wpAny_loadPart')
open MeetsSeq
abbrev OD(e:Array DictEntry)(n:Nat)(dd:Option cJ)(sl:Array (Option cH)):Obj:={cls:=.type "dict",dict:=dd,data:=.dict e n,slots:=sl}
section
variable{l:cJ}{e:Array DictEntry}{n:Nat}{dd:Option cJ}{sl:Array (Option cH)}
theorem Ae:Meets (Builtin.«dict.__eq__» ⟨[.ref l,.none],[]⟩) (λ_ R s=>s.heap.get? l=Z (OD e n dd sl)/\R (.ok (.ret .notImplemented)) s):=.of_wp λ_ _ _ _ s h=>by
 obtain⟨f,g,d,tk,c⟩:=s;obtain⟨a,h⟩:=h;have b:=F.sub_NoneType_dict;wp_walk using wpAny_loadPart' a;exact⟨_,O,h⟩
theorem DT(b:Bool):Meets (Builtin.«dict.__eq__» ⟨[.ref l,.bool b],[]⟩) (λ_ R s=>s.heap.get? l=Z (OD e n dd sl)/\R (.ok (.ret .notImplemented)) s):=.of_wp λ_ _ _ _ s h=>by
 obtain⟨i,g,d,tk,f⟩:=s;obtain⟨a,h⟩:=h;have c:=F.sub_bool_dict;wp_walk using wpAny_loadPart' a;exact⟨_,O,h⟩
theorem Af(b:Int)(u:Tok):Meets (Builtin.«dict.__eq__» ⟨[.ref l,.int b u],[]⟩) (λ_ R s=>s.heap.get? l=Z (OD e n dd sl)/\R (.ok (.ret .notImplemented)) s):=.of_wp λ_ _ _ _ s h=>by
 obtain⟨i,g,d,tk,f⟩:=s;obtain⟨a,h⟩:=h;have c:=F.sub_int_dict;wp_walk using wpAny_loadPart' a;exact⟨_,O,h⟩
theorem Ad(b:Str)(u:Tok):Meets (Builtin.«dict.__eq__» ⟨[.ref l,.str b u],[]⟩) (λ_ R s=>s.heap.get? l=Z (OD e n dd sl)/\R (.ok (.ret .notImplemented)) s):=.of_wp λ_ _ _ _ s h=>by
 obtain⟨i,g,d,tk,f⟩:=s;obtain⟨a,h⟩:=h;have c:=F.sub_str_dict;wp_walk using wpAny_loadPart' a;exact⟨_,O,h⟩
theorem vR{a:cJ}{its:Array cH}{k:Nat}{c:Option cJ}{f:Array (Option cH)}:Meets (Builtin.«dict.__eq__» ⟨[.ref l,.ref a],[]⟩) (λ_ R s=>s.heap.get? l=Z (OD e n dd sl)/\s.heap.get? a=Z {cls:=.type "list",dict:=c,data:=.seq its k,slots:=f}/\R (.ok (.ret .notImplemented)) s):=.of_wp λ_ _ _ _ s h=>by
 obtain⟨m,g,d,tk,j⟩:=s;obtain⟨i,b,h⟩:=h;have o:=F.sub_list_dict;wp_walk using wpAny_loadPart' i,wpAny_loadPart' b;exact⟨_,O,h⟩
theorem Ac{a:cJ}{its:Array cH}{k:Nat}{c:Option cJ}{f:Array (Option cH)}:Meets (Builtin.«dict.__eq__» ⟨[.ref l,.ref a],[]⟩) (λ_ R s=>s.heap.get? l=Z (OD e n dd sl)/\s.heap.get? a=Z {cls:=.type "tuple",dict:=c,data:=.seq its k,slots:=f}/\R (.ok (.ret .notImplemented)) s):=.of_wp λ_ _ _ _ s h=>by
 obtain⟨m,g,d,tk,j⟩:=s;obtain⟨i,b,h⟩:=h;have o:=F.sub_tuple_dict;wp_walk using wpAny_loadPart' i,wpAny_loadPart' b;exact⟨_,O,h⟩
theorem DD(b:Bool):Meets (Builtin.«int.__eq__» ⟨[.bool b,.ref l],[]⟩) (λ_ R s=>s.heap.get? l=Z (OD e n dd sl)/\R (.ok (.ret .notImplemented)) s):=.of_wp λ_ _ _ _ s h=>by
 obtain⟨f,g,d,tk,c⟩:=s;obtain⟨a,h⟩:=h;wp_walk using wpAny_loadPart' a,wpAny_load a;exact⟨_,O,h⟩
theorem yo(b:Int)(u:Tok):Meets (Builtin.«int.__eq__» ⟨[.int b u,.ref l],[]⟩) (λ_ R s=>s.heap.get? l=Z (OD e n dd sl)/\R (.ok (.ret .notImplemented)) s):=.of_wp λ_ _ _ _ s h=>by
 obtain⟨f,g,d,tk,c⟩:=s;obtain⟨a,h⟩:=h;wp_walk using wpAny_loadPart' a,wpAny_load a;exact⟨_,O,h⟩
theorem yn(b:Str)(u:Tok):Meets (Builtin.«str.__eq__» ⟨[.str b u,.ref l],[]⟩) (λ_ R s=>s.heap.get? l=Z (OD e n dd sl)/\R (.ok (.ret .notImplemented)) s):=.of_wp λ_ _ _ _ s h=>by
 obtain⟨f,g,d,tk,c⟩:=s;obtain⟨a,h⟩:=h;wp_walk using wpAny_loadPart' a,wpAny_load a;exact⟨_,O,h⟩
theorem u5{a:cJ}{its:Array cH}{k:Nat}{c:Option cJ}{f:Array (Option cH)}:Meets (Builtin.«list.__eq__» ⟨[.ref a,.ref l],[]⟩) (λ_ R s=>s.heap.get? l=Z (OD e n dd sl)/\s.heap.get? a=Z {cls:=.type "list",dict:=c,data:=.seq its k,slots:=f}/\R (.ok (.ret .notImplemented)) s):=.of_wp λ_ _ _ _ s h=>by
 obtain⟨m,g,d,tk,j⟩:=s;obtain⟨i,b,h⟩:=h;have o:=F.sub_dict_list;wp_walk using wpAny_loadPart' i,wpAny_loadPart' b;exact⟨_,O,h⟩
theorem ym{a:cJ}{its:Array cH}{k:Nat}{c:Option cJ}{f:Array (Option cH)}:Meets (Builtin.«tuple.__eq__» ⟨[.ref a,.ref l],[]⟩) (λ_ R s=>s.heap.get? l=Z (OD e n dd sl)/\s.heap.get? a=Z {cls:=.type "tuple",dict:=c,data:=.seq its k,slots:=f}/\R (.ok (.ret .notImplemented)) s):=.of_wp λ_ _ _ _ s h=>by
 obtain⟨m,g,d,tk,j⟩:=s;obtain⟨i,b,h⟩:=h;have o:=F.sub_dict_tuple;wp_walk using wpAny_loadPart' i,wpAny_loadPart' b;exact⟨_,O,h⟩
end
abbrev Hb(A:cM)(s:cI)(v u:cH):Prop:=EqAt A s v u J/\EqAt A s u v J/\RcAt A s v u J/\RcAt A s u v J
section
variable{A:cM}{s:cI}{a:cJ}{o:Obj}
theorem Kj{u:cH}(hn:(Value.ref a == u)=J)(r:RcAt A s (.ref a) u J):EqAt A s (.ref a) u J:=λprog w E Q h=>by
 unfold eqBool;refine wpAny_holding (wpAny_ite_split (λz=>?_) λ_=>?_)
 ·rw[hn]at z;cases z
 ·exact wB1 (r prog w E _ (wpAny_truthy_bool h))
theorem Ki{u:cH}(hn:(u == Value.ref a)=J)(r:RcAt A s u (.ref a) J):EqAt A s u (.ref a) J:=λprog w E Q h=>by
 unfold eqBool;refine wpAny_holding (wpAny_ite_split (λz=>?_) λ_=>?_)
 ·rw[hn]at z;cases z
 ·cases u<;>exact wB1 (r prog w E _ (wpAny_truthy_bool h))
theorem rP {v:V}{u:cH}(ho:s.heap.get? a=Z o)(hc:o.cls = .type "dict")(hd:∃e n,o.data = .dict e n)(r:dt v u)(f:ji v=M)(c:A.units<cLine):Hb A s (.ref a) u:=by
 obtain⟨i,dd,g,sl⟩:=o;obtain⟨e,n,hd⟩:=hd;simp only at hc hd;subst hc hd;have two:∀{u:cH},((Value.ref a) == u)=J->(u == (Value.ref a))=J->RcAt A s (.ref a) u J->RcAt A s u (.ref a) J->Hb A s (.ref a) u:=λh1 h2 d r2=>⟨Kj h1 d,Ki h2 r2,d,r2⟩;cases v with
 |non=>
  cases r;refine two O O (λ_ _ _ _ h=>?_) λ_ _ _ _ h=>?_
  ·exact rc_eq_decline_or (k:=J) ⟨_,ho,O⟩ O (by decide) F.sub_NoneType_dict F.slot_dict_eq F.slot_NoneType_eq_refl (λ_ q=>call_meets F.slot_dict_eq ⟨_,ho,O⟩ F.entry_dict_eq (F.args_dict_eq_2 _ _) Ae ⟨ho,q⟩) (λ_ q=>call_gives F.slot_NoneType_eq_refl O F.entry_NoneType_eq (F.args_NoneType_eq_2 _ _) (NoneType___eq___none_ref_0 a) q) (λ_ q=>wpAny_of_eq (rfl:isSame (.ref a) .none=pure J) q) (.inr c) h
  ·exact rc_eq_decline_or (k:=J) O ⟨_,ho,O⟩ (by decide) F.sub_dict_NoneType F.slot_NoneType_eq F.slot_dict_eq_refl (λ_ q=>call_gives F.slot_NoneType_eq O F.entry_NoneType_eq (F.args_NoneType_eq_2 _ _) (NoneType___eq___none_ref_0 a) q) (λ_ q=>call_meets F.slot_dict_eq_refl ⟨_,ho,O⟩ F.entry_dict_eq (F.args_dict_eq_2 _ _) Ae ⟨ho,q⟩) (λ_ q=>wpAny_of_eq (rfl:isSame .none (.ref a)=pure J) q) (.inr c) h
 |bl b=>
  cases r;refine two O O (λ_ _ _ _ h=>?_) λ_ _ _ _ h=>?_
  ·exact rc_eq_decline_or (k:=J) ⟨_,ho,O⟩ O (by decide) F.sub_bool_dict F.slot_dict_eq F.slot_bool_eq_refl (λ_ q=>call_meets F.slot_dict_eq ⟨_,ho,O⟩ F.entry_dict_eq (F.args_dict_eq_2 _ _) (DT b) ⟨ho,q⟩) (λ_ q=>call_meets F.slot_bool_eq_refl O F.entry_int_eq (F.args_int_eq_2 _ _) (DD b) ⟨ho,q⟩) (λ_ q=>wpAny_of_eq (rfl:isSame (.ref a) (.bool b)=pure J) q) (.inr c) h
  ·exact rc_eq_decline_or (k:=J) O ⟨_,ho,O⟩ (by decide) F.sub_dict_bool F.slot_bool_eq F.slot_dict_eq_refl (λ_ q=>call_meets F.slot_bool_eq O F.entry_int_eq (F.args_int_eq_2 _ _) (DD b) ⟨ho,q⟩) (λ_ q=>call_meets F.slot_dict_eq_refl ⟨_,ho,O⟩ F.entry_dict_eq (F.args_dict_eq_2 _ _) (DT b) ⟨ho,q⟩) (λ_ q=>wpAny_of_eq (rfl:isSame (.bool b) (.ref a)=pure J) q) (.inr c) h
 |int b=>
  obtain⟨t,rfl⟩:=r;refine two O O (λ_ _ _ _ h=>?_) λ_ _ _ _ h=>?_
  ·exact rc_eq_decline_or (k:=J) ⟨_,ho,O⟩ (typeIs_int s b t) (by decide) F.sub_int_dict F.slot_dict_eq F.slot_int_eq_refl (λ_ q=>call_meets F.slot_dict_eq ⟨_,ho,O⟩ F.entry_dict_eq (F.args_dict_eq_2 _ _) (Af b t) ⟨ho,q⟩) (λ_ q=>call_meets F.slot_int_eq_refl (typeIs_int s b t) F.entry_int_eq (F.args_int_eq_2 _ _) (yo b t) ⟨ho,q⟩) (λ_ q=>wpAny_of_eq (rfl:isSame (.ref a) (.int b t)=pure J) q) (.inr c) h
  ·exact rc_eq_decline_or (k:=J) (typeIs_int s b t) ⟨_,ho,O⟩ (by decide) F.sub_dict_int F.slot_int_eq F.slot_dict_eq_refl (λ_ q=>call_meets F.slot_int_eq (typeIs_int s b t) F.entry_int_eq (F.args_int_eq_2 _ _) (yo b t) ⟨ho,q⟩) (λ_ q=>call_meets F.slot_dict_eq_refl ⟨_,ho,O⟩ F.entry_dict_eq (F.args_dict_eq_2 _ _) (Af b t) ⟨ho,q⟩) (λ_ q=>wpAny_of_eq (rfl:isSame (.int b t) (.ref a)=pure J) q) (.inr c) h
 |str b=>
  obtain⟨t,rfl⟩:=r;refine two O O (λ_ _ _ _ h=>?_) λ_ _ _ _ h=>?_
  ·exact rc_eq_decline_or (k:=J) ⟨_,ho,O⟩ (typeIs_str s b t) (by decide) F.sub_str_dict F.slot_dict_eq F.slot_str_eq_refl (λ_ q=>call_meets F.slot_dict_eq ⟨_,ho,O⟩ F.entry_dict_eq (F.args_dict_eq_2 _ _) (Ad b t) ⟨ho,q⟩) (λ_ q=>call_meets F.slot_str_eq_refl (typeIs_str s b t) F.entry_str_eq (F.args_str_eq_2 _ _) (yn b t) ⟨ho,q⟩) (λ_ q=>wpAny_of_eq (rfl:isSame (.ref a) (.str b t)=pure J) q) (.inr c) h
  ·exact rc_eq_decline_or (k:=J) (typeIs_str s b t) ⟨_,ho,O⟩ (by decide) F.sub_dict_str F.slot_str_eq F.slot_dict_eq_refl (λ_ q=>call_meets F.slot_str_eq (typeIs_str s b t) F.entry_str_eq (F.args_str_eq_2 _ _) (yn b t) ⟨ho,q⟩) (λ_ q=>call_meets F.slot_dict_eq_refl ⟨_,ho,O⟩ F.entry_dict_eq (F.args_dict_eq_2 _ _) (Ad b t) ⟨ho,q⟩) (λ_ q=>wpAny_of_eq (rfl:isSame (.str b t) (.ref a)=pure J) q) (.inr c) h
 |_=>cases f
theorem ve {b:Bool}{x:cJ}{its:Array cH}(ho:s.heap.get? a=Z o)(hc:o.cls = .type "dict")(hd:∃e n,o.data = .dict e n)(c:SCo b s.heap x its)(p:A.units<cLine):Hb A s (.ref a) (.ref x):=by
 obtain⟨v,dd,u,sl⟩:=o;obtain⟨e,n,hd⟩:=hd;simp only at hc hd;subst hc hd;cases b with
 |false=>
  obtain⟨⟨l,r,j,t⟩,d,i,w,g⟩:=(show s.heap.IsTuple x its from c);simp only at i g;subst i g;have f:a≠x:=λz=>by subst z;rw[ho]at d;exact absurd (congrArg Obj.cls (Option.some.inj d)) (by simp)
  have m:RcAt A s (.ref a) (.ref x) J:=λ_ _ _ _ h=>rc_eq_decline_or (k:=J) ⟨_,ho,O⟩ ⟨_,d,O⟩ (by decide) F.sub_tuple_dict F.slot_dict_eq F.slot_tuple_eq_refl (λ_ q=>call_meets F.slot_dict_eq ⟨_,ho,O⟩ F.entry_dict_eq (F.args_dict_eq_2 _ _) Ac ⟨ho,d,q⟩) (λ_ q=>call_meets F.slot_tuple_eq_refl ⟨_,d,O⟩ F.entry_tuple_eq (F.args_tuple_eq_2 _ _) ym ⟨ho,d,q⟩) (λ_ q=>wpAny_isSame_ref_other f ho d (by simp) q) (.inr p) h;have r2:RcAt A s (.ref x) (.ref a) J:=λ_ _ _ _ h=>rc_eq_decline_or (k:=J) ⟨_,d,O⟩ ⟨_,ho,O⟩ (by decide) F.sub_dict_tuple F.slot_tuple_eq F.slot_dict_eq_refl (λ_ q=>call_meets F.slot_tuple_eq ⟨_,d,O⟩ F.entry_tuple_eq (F.args_tuple_eq_2 _ _) ym ⟨ho,d,q⟩) (λ_ q=>call_meets F.slot_dict_eq_refl ⟨_,ho,O⟩ F.entry_dict_eq (F.args_dict_eq_2 _ _) Ac ⟨ho,d,q⟩) (λ_ q=>wpAny_isSame_ref_other' f.symm d ho (by simp) q) (.inr p) h;exact⟨.of_refs f m,.of_refs f.symm r2,m,r2⟩
 |true=>
  obtain⟨⟨l,r,j,t⟩,d,i,w,g⟩:=(show s.heap.IsList x its from c);simp only at i g;subst i g;have f:a≠x:=λz=>by subst z;rw[ho]at d;exact absurd (congrArg Obj.cls (Option.some.inj d)) (by simp)
  have m:RcAt A s (.ref a) (.ref x) J:=λ_ _ _ _ h=>rc_eq_decline_or (k:=J) ⟨_,ho,O⟩ ⟨_,d,O⟩ (by decide) F.sub_list_dict F.slot_dict_eq F.slot_list_eq_refl (λ_ q=>call_meets F.slot_dict_eq ⟨_,ho,O⟩ F.entry_dict_eq (F.args_dict_eq_2 _ _) vR ⟨ho,d,q⟩) (λ_ q=>call_meets F.slot_list_eq_refl ⟨_,d,O⟩ F.entry_list_eq (F.args_list_eq_2 _ _) u5 ⟨ho,d,q⟩) (λ_ q=>wpAny_isSame_ref_other f ho d (by simp) q) (.inr p) h;have r2:RcAt A s (.ref x) (.ref a) J:=λ_ _ _ _ h=>rc_eq_decline_or (k:=J) ⟨_,d,O⟩ ⟨_,ho,O⟩ (by decide) F.sub_dict_list F.slot_list_eq F.slot_dict_eq_refl (λ_ q=>call_meets F.slot_list_eq ⟨_,d,O⟩ F.entry_list_eq (F.args_list_eq_2 _ _) u5 ⟨ho,d,q⟩) (λ_ q=>call_meets F.slot_dict_eq_refl ⟨_,ho,O⟩ F.entry_dict_eq (F.args_dict_eq_2 _ _) vR ⟨ho,d,q⟩) (λ_ q=>wpAny_isSame_ref_other' f.symm d ho (by simp) q) (.inr p) h;exact⟨.of_refs f m,.of_refs f.symm r2,m,r2⟩
end
abbrev G1:=D->Sto->Option (D×Sto)
abbrev G2:=D->D->Sto->Option (D×Sto)
abbrev G3:=D->D->D->Sto->Option (D×Sto)
noncomputable def b1 (f:G1):FN:=λds S=>match ds with
 |[a]=>f a S
 |_=>none
noncomputable def b2 (f:G2):FN:=λds S=>match ds with
 |[a,b]=>f a b S
 |_=>none
noncomputable def b3 (f:G3):FN:=λds S=>match ds with
 |[a,b,c]=>f a b c S
 |_=>none
section
variable{X:Cx}{K:Fg1}{H:Hp}{Q:VK}
theorem oR{f:G2}{x y:V}(h:rN K (b2 f) [x,y] H Q):∃mu S d e r a,ez K H mu d x/\ez K H mu e y/\Sim K H mu S/\f d e S=Z (r,a)/\qM K mu H r a Q:=by
 obtain⟨mu,S,ds,r,a,c,b,i,hc⟩:=h;cases c with
 |cons q t=>cases t with
  |cons g t=>cases t;exact⟨mu,S,_,_,r,a,q,g,b,i,hc⟩
theorem AT{f:G1}{xs:List V}(h:rN K (b1 f) xs H Q):∃x mu S d r a,xs=[x]/\ez K H mu d x/\Sim K H mu S/\f d S=Z (r,a)/\qM K mu H r a Q:=by
 obtain⟨mu,S,ds,r,a,e,c,b,hc⟩:=h;cases e with
 |nil=>cases b
 |cons q t=>cases t with
  |nil=>exact⟨_,mu,S,_,r,a,O,q,c,b,hc⟩
  |cons g t=>cases b
theorem Bm{f:G2}{xs:List V}(h:rN K (b2 f) xs H Q):∃x y mu S d e r a,xs=[x,y]/\ez K H mu d x/\ez K H mu e y/\Sim K H mu S/\f d e S=Z (r,a)/\qM K mu H r a Q:=by
 obtain⟨mu,S,ds,r,a,g,c,b,hc⟩:=h;cases g with
 |nil=>cases b
 |cons q t=>cases t with
  |nil=>cases b
  |cons i t=>cases t with
   |nil=>exact⟨_,_,mu,S,_,_,r,a,O,q,i,c,b,hc⟩
   |cons j t=>cases b
theorem qM.now{mu:List cJ}{S:Sto}{d:D}{v:V}(c:qM K mu H d S Q)(r:ez K H mu d v)(s:Sim K H mu S):Q v H:=c v H mu (.refl _ _) r s
end
def gh(i j:Int):Bool:=(decide (-(2^64)<i)&&decide (i<2^64))||(decide (-(2^64)<j)&&decide (j<2^64))||(decide (i.natAbs<2^1000)&&decide (j.natAbs<2^1000))
def dS:G2:=λd e S=>match d,e with
 | .int i,.int j=>Z (.int (i+j),S)
 | .tup xs,.tup ys=>if xs.length+ys.length<=cQ then Z (.tup (xs++ys),S)else Y
 | .str x,.str y=>if x.length+y.length<=cQ then Z (.str (x++y),S)else Y
 | .ref a,.ref b=>match S[a]?,S[b]? with
  |some (.lst xs),Z (.lst ys)=>if xs.length+ys.length<=cQ then Z (.ref S.length,S++[.lst (xs++ys)])else Y
  |_,_=>Y
 |_,_=>Y
def gSub:G2:=λd e S=>match d,e with
 | .int i,.int j=>Z (.int (i-j),S)
 |_,_=>Y
def gB:G2:=λd e S=>match d,e with
 | .int i,.int j=>if gh i j=M then Z (.int (i*j),S)else Y
 |_,_=>Y
def jZ:G2:=λd e S=>match d,e with
 | .int i,.int j=>if 0<j then Z (.int (i%j),S)else Y
 |_,_=>Y
def wP:G2:=λd e S=>match d,e with
 | .int i,.int j=>if 0<j/\j<1073741824 then Z (.int (i/j),S)else Y
 |_,_=>Y
def gA:G2:=λd e S=>match d,e with
 | .int i,.int j=>if 0<=j/\j<=1000000/\i.natAbs<2^64 then Z (.int (i^j.toNat),S)else Y
 |_,_=>Y
def lO:G1:=λd S=>match d with
 | .int i=>Z (.int (-i),S)
 |_=>Y
section
variable{X:Cx}
theorem t1{i j:Int}(h:gh i j=M):IntMulOk i j:=by
 unfold gh at h;simp only[bJ,bA1,al]at h;rcases h with(⟨h1,h2⟩|⟨h1,h2⟩)|⟨h1,h2⟩
 ·exact .of_left (intBits_le_64 h1 h2)
 ·exact .of_right (intBits_le_64 h1 h2)
 ·exact .of_bits (aB (intBits_le h1) (by decide)) (aB (intBits_le h2) (by decide))
theorem mX{f:cH->cH->Sem cH}{g:G2}{c:Int->Int->Prop}{v:Int->Int->D}(hg:∀ d e S r a,g d e S=Z (r,a) -> ∃ i j,d = .int i/\e = .int j/\c i j/\r=v i j/\a=S){b:Int->Int->V}(hv:∀i j K H mu,ez K H mu (v i j) (b i j))(ho:fJ X f (rI c b)):fJ X f (r2 X.K (b2 g)):=by
 intro ag s σ H x y u w Q I o k h;obtain⟨mu,S,d,e,r,a,n,r2,l,p,hc⟩:=oR h;obtain⟨i,j,rfl,rfl,m,rfl,rfl⟩:=hg d e S r a p;cases n;cases r2;exact ho ag s σ H _ _ u w Q I o k ⟨i,j,O,O,m,hc.now (hv i j _ _ _) l⟩
theorem k1{f:cH->cH->Sem cH}{g:G2}{v:Int->Int->D}(hg:∀ d e S r a,g d e S=Z (r,a) -> ∃ i j,d = .int i/\e = .int j/\r=v i j/\a=S){b:Int->Int->V}(hv:∀i j K H mu,ez K H mu (v i j) (b i j))(ho:fJ X f (Bq b)):fJ X f (r2 X.K (b2 g)):=by
 intro ag s σ H x y u w Q I m c h;obtain⟨mu,S,d,e,r,a,l,r2,k,n,hc⟩:=oR h;obtain⟨i,j,rfl,rfl,rfl,rfl⟩:=hg d e S r a n;cases l;cases r2;exact ho ag s σ H _ _ u w Q I m c ⟨i,j,O,O,hc.now (hv i j _ _ _) k⟩
theorem ke:fJ X (binaryOp .Sub) (r2 X.K (b2 gSub)):=k1 (v:=λi j=>.int (i-j)) (λd e S r a h=>by
 unfold gSub at h;split at h
 ·cases h;exact⟨_,_,O,O,O,O⟩
 ·cases h) (λ_ _ _ _ _=>.int _) Fp
theorem jf:fJ X (binaryOp .Mult) (r2 X.K (b2 gB)):=mX (c:=λi j=>IntMulOk i j) (v:=λi j=>.int (i*j)) (λd e S r a h=>by
 unfold gB at h;split at h
 ·split at h
  ·rename_i q;cases h;exact⟨_,_,O,O,t1 q,O,O⟩
  ·cases h
 ·cases h) (λ_ _ _ _ _=>.int _) (Jl λ_ _ _ _ _ _ _ hc q=>mul_int q hc)
theorem kf:fJ X (binaryOp .Mod) (r2 X.K (b2 jZ)):=mX (c:=λ_ j=>0<j) (v:=λi j=>.int (i%j)) (λd e S r a h=>by
 unfold jZ at h;split at h
 ·split at h
  ·rename_i q;cases h;exact⟨_,_,O,O,q,O,O⟩
  ·cases h
 ·cases h) (λ_ _ _ _ _=>.int _) Ft
theorem DG:fJ X (binaryOp .FloorDiv) (r2 X.K (b2 wP)):=mX (c:=Jf) (v:=λi j=>.int (i/j)) (λd e S r a h=>by
 unfold wP at h;split at h
 ·split at h
  ·rename_i q;cases h;exact⟨_,_,O,O,q,O,O⟩
  ·cases h
 ·cases h) (λ_ _ _ _ _=>.int _) BS
theorem mh:fJ X (binaryOp .Pow) (r2 X.K (b2 gA)):=mX (c:=Je) (v:=λi j=>.int (i^j.toNat)) (λd e S r a h=>by
 unfold gA at h;split at h
 ·split at h
  ·rename_i q;cases h;exact⟨_,_,O,O,q,O,O⟩
  ·cases h
 ·cases h) (λ_ _ _ _ _=>.int _) Fs
theorem nI:Hh X (unaryOp .USub) (λx H Q=>rN X.K (b1 lO) [x] H Q):=by
 intro ag s σ H x v Q I f h;obtain⟨j,mu,S,d,r,g,e,c,b,a,hc⟩:=AT h;cases e;cases d with
 |int i=>cases a;cases c;exact Eh ag s σ H _ v Q I f ⟨i,O,hc.now (.int _) b⟩
 |_=>cases a
theorem wY{s:cI}{prog:cK}{w:cN}{A:cM}{E:cH->cI->Prop}{t b:cJ}{ws:List cH}{Q:cH->cI->Prop}(ht:IsTup s.heap t ([]:List cH).toArray)(hb:IsTup s.heap b ws.toArray)(h:Q (.ref b) s):
  cR (model prog w) A (binaryOp .Add (.ref t) (.ref b)) Q E s:=by
 obtain⟨⟨m,dd,l,sl⟩,k,hc,n,i⟩:=id ht;obtain⟨⟨j,e,f,g⟩,d,c,o,a⟩:=id hb;simp only at hc i c a;subst hc i c a;exact concat_meets ⟨_,k,O⟩ ⟨_,d,O⟩ noFill_tuple_add seq_tuple_add PySem.F.slot_tuple_add PySem.F.entry_tuple_add (PySem.F.args_tuple_add_2 _ _) (tuple_addW0 t b ([]:List cH).toArray ws.toArray n o dd e sl g (by simp)) ⟨k,d,h⟩
theorem dN:fJ X (binaryOp .Add) (r2 X.K (b2 dS)):=by
 intro ag s σ H x y u w Q I t o h;obtain⟨mu,S,d,e,r,R,v,r2,g,c,hc⟩:=oR h;unfold dS at c;split at c
 ·cases c;cases v;cases r2;exact Fw ag s σ H _ _ u w Q I t o ⟨_,_,O,O,hc.now (.int _) g⟩
 ·rename_i xs ys;split at c
  ·rename_i q;cases c;cases v with
   |tup B l=>
    cases r2 with
    |tup C m=>
     rename_i f a1 k a2;by_cases E:f=[]
     ·subst E;have:xs=[]:=by cases l;rfl
      subst this;cases t;cases o;obtain⟨A,G,F,_⟩:=I.tuple B;obtain⟨D,ao,p2,_⟩:=I.tuple C;have:A=[]:=G.nil_iff.mpr O;subst this;exact wY F p2 ⟨.ref a2,H,I,O,hc.now (.tup C m) g⟩
     ·refine BU ag s σ H _ _ u w Q I t o ⟨a1,a2,f,k,O,O,B,C,E,by rw[<- l.length,<- m.length];exact q,λz=>?_,λz p n=>?_⟩
      ·subst z;have:ys=[]:=by cases m;rfl
       subst this;rw[aK]at hc;exact hc.now (.tup B l) g
      ·exact hc _ _ mu (Ext.fresh n) (.tup (jt.of dZ) ((l.append m).ext (Ext.fresh n))) (g.fresh n)
  ·cases c
 ·rename_i i j;split at c
  ·rename_i q;cases c;cases v;cases r2;exact tV ag s σ H _ _ u w Q I t o ⟨i,j,O,O,q,hc.now (.str _) g⟩
  ·cases c
 ·rename_i a b;split at c
  ·rename_i xs ys ar K;split at c
   ·rename_i q;cases c;cases v with
    |ref N=>
     cases r2 with
     |ref P=>
      obtain⟨f,am,l⟩:=g.lst ar N;obtain⟨k,L,m⟩:=g.lst K P;refine Fv ag s σ H _ _ u w Q I t o ⟨_,_,f,k,O,O,am,L,by rw[<- l.length,<- m.length];exact q,λp n=>?_⟩;exact hc _ _ (mu++[p]) (Ext.new_ n) (.ref (g4 g.len p)) (g.newL (l.append m) n)
   ·cases c
  ·cases c
 ·cases c
end
def fA(p:Int->Int->Bool):G2:=λd e S=>match d,e with
 | .int i,.int j=>Z (.bl (p i j),S)
 |_,_=>Y
section
variable{X:Cx}
theorem qr{p:Int->Int->Bool}(d e:D)(S:Sto)(r:D)(a:Sto)(h:fA p d e S=Z (r,a)):∃i j,d = .int i/\e = .int j/\r = .bl (p i j)/\a=S:=by
 unfold fA at h;split at h
 ·cases h;exact⟨_,_,O,O,O,O⟩
 ·cases h
theorem k8:fJ X (compareOp .LtE) (r2 X.K (b2 (fA λi j=>decide (i<=j)))):=k1 qr (λ_ _ _ _ _=>.bl _) H9
theorem yN:fJ X (compareOp .Gt) (r2 X.K (b2 (fA λi j=>decide (j<i)))):=k1 qr (λ_ _ _ _ _=>.bl _) Ia
theorem J8:fJ X (compareOp .GtE) (r2 X.K (b2 (fA λi j=>decide (j<=i)))):=k1 qr (λ_ _ _ _ _=>.bl _) Ib
end
def em:D->Bool
 | .non=>M
 | .bl _=>M
 | .int _=>M
 | .str _=>M
 |_=>J
noncomputable def DR:D->D->Option Bool
 | .non,.non=>some true
 | .bl a,.bl b=>some (a == b)
 | .bl a,.int b=>some ((if a then 1 else 0) == b)
 | .int a,.bl b=>some (a == (if b then 1 else 0))
 | .int a,.int b=>some (a == b)
 | .str a,.str b=>some (a == b)
 |d,e=>if em d&&em e then some false else none
def wR(f:D->D->Option Bool):List D->List D->Option Bool
 |x::xs,y::ys=>(f x y).bind λb=>(wR f xs ys).map λc=>b&&c
 |[],[]=>Z M
 |_,_=>Z J
def mI(S:Sto):D->Bool
 | .ref n=>match S[n]? with
  |some (.dct _)=>M
  |some (.dcT _)=>M
  |_=>J
 |_=>J
def CU(S:Sto)(d e:D):Option Bool:=match mI S d,mI S e with
 |false,J=>DR d e
 |true,J=>if em e=M then Z J else Y
 |false,M=>if em d=M then Z J else Y
 |true,M=>Y
def hB(S:Sto):Nat->D->D->Option Bool
 |0,_,_=>Y
 |n+1,d,e=>match dj S d,dj S e with
  |some p,Z q=>if p.1=q.1 then(if p.1=M/\p.2.length≠q.2.length then Z J else wR (hB S n) p.2 q.2)else Z J
  |some _,Y=>if em e=M then Z J else if mI S e=M then Z J else Y
  |none,Z _=>if em d=M then Z J else if mI S d=M then Z J else Y
  |none,Y=>CU S d e
section
variable{X:Cx}{ag:List (cJ×Obj)}{σ:L2.St}{H:Hp}{s:cI}{mu:List cJ}{S:Sto}
theorem ev{K:Fg1}{d:D}{v:V}(r:ez K H mu d v)(h:em d=M):ji v=M /\ ∀e w,ez K H mu e w->em e=M->DR d e=Z (sY v w):=by
 cases d with
 |non=>cases r;refine⟨O,λe w q f=>?_⟩;cases e with
  |non=>cases q;rfl
  |bl _=>cases q;rfl
  |int _=>cases q;rfl
  |str _=>cases q;rfl
  |_=>cases f
 |bl b=>cases r;refine⟨O,λe w q f=>?_⟩;cases e with
  |non=>cases q;rfl
  |bl _=>cases q;rfl
  |int _=>cases q;rfl
  |str _=>cases q;rfl
  |_=>cases f
 |int i=>cases r;refine⟨O,λe w q f=>?_⟩;cases e with
  |non=>cases q;rfl
  |bl _=>cases q;rfl
  |int _=>cases q;rfl
  |str _=>cases q;rfl
  |_=>cases f
 |str x=>cases r;refine⟨O,λe w q f=>?_⟩;cases e with
  |non=>cases q;rfl
  |bl _=>cases q;rfl
  |int _=>cases q;rfl
  |str _=>cases q;rfl
  |_=>cases f
 |_=>cases h
theorem nY{d e:D}{b:Bool}(h:DR d e=Z b):em d=M/\em e=M:=by
 cases d<;>cases e<;>first|exact⟨rfl,rfl⟩|(cases h;done)|exact nomatch h|(simp[DR,em]at h)
theorem z0{v:V}(h:ji v=M):sY v v=M:=by
 cases v<;>first|rfl|(cases h;done)|exact beq_self_eq_true _|(simp[sY];done)
theorem jj(I:Inv X ag σ H s)(hs:Sim X.K H mu S){d:D}{v:V}(r:ez X.K H mu d v)(h:mI S d=M):∃a o,v = .ref a/\s.heap.get? a=Z o/\o.cls = .type "dict" /\ ∃e n,o.data = .dict e n:=by
 cases d with
 |ref n=>
  rw[mI]at h;cases r with
  | @ref _ a i=>
   split at h
   ·rename_i ks e;obtain⟨ws,c,_⟩:=hs.dct e i;obtain⟨_,_,vs,_,o,es,ep,g,f,b,_⟩:=(show ew X.prog X.w H s.heap a (.dK ws)from I.hok a _ c);exact⟨a,o,O,g,f.1,es,ep,b⟩
   ·rename_i ks e;obtain⟨ws,c,_⟩:=hs.dcT e i;obtain⟨⟨_,_,o,es,ep,g,f,b,_⟩,_⟩:=(show ew X.prog X.w H s.heap a (.ext (i7 a ws))from I.hok a _ c);exact⟨a,o,O,g,f.1,es,ep,b⟩
   ·cases h
 |_=>cases h
theorem sA(I:Inv X ag σ H s)(hs:Sim X.K H mu S):∀(n:Nat) {d e:D} {v:V} {b:Bool},ez X.K H mu d v->ez X.K H mu e v->hB S n d e=Z b->b=M
 |0,_,_,_,_,_,_,h=>by cases h
 |n + 1,d,e,v,b,m,k,h=>by
  rw[hB]at h;have l:∀{xs ys:List D} {vs:List V} {b:Bool},dk X.K H mu xs vs->dk X.K H mu ys vs->wR (hB S n) xs ys=Z b->b=M:=by
   intro xs
   induction xs with
   |nil=>intro ys vs b G K h;cases G;cases K;cases h;rfl
   |cons x xs ih=>
    intro ys vs b G K h;cases G with
    |cons r t=>
     cases K with
     |cons U R=>
      rw[wR]at h;obtain⟨b1,u,h⟩:=oB1.mp h;obtain⟨b2,i,h⟩:=oM1.mp h;subst h;rw[sA I hs n r U u,ih t R i];rfl
  cases hd:dj S d with
  |some p=>
   obtain⟨F,xs⟩:=p;obtain⟨a,vs,rfl,q,t⟩:=dr m hs hd;cases he:dj S e with
   |some p2=>
    obtain⟨qb,ys⟩:=p2;obtain⟨a2,E,i,C,am⟩:=dr k hs he;cases i;rw[hd,he]at h;dsimp only at h;obtain⟨w,ao,j,_⟩:=eY I q;obtain⟨N,W,y,_⟩:=eY I C;have hb:F=qb:=by
     cases F<;>cases qb
     ·rfl
     ·obtain⟨o,u,L,_⟩:=j;obtain⟨B,i,A,_⟩:=y;rw[u]at i;cases i;rw[L]at A;exact absurd A (by decide)
     ·obtain⟨o,u,L,_⟩:=j;obtain⟨B,i,A,_⟩:=y;rw[u]at i;cases i;rw[L]at A;exact absurd A (by decide)
     ·rfl
    subst hb;have ar:=uZ I q C;subst ar;rw[ak O,aj (by rw[t.length,am.length];simp)]at h;exact l t am h
   |none=>
    rw[hd,he]at h;dsimp only at h;split at h
    ·rename_i f;have:=(ev k f).1;cases this
    ·split at h
     ·rename_i f;obtain⟨a2,o,i,z,hc,_⟩:=jj I hs k f;cases i;obtain⟨w,ao,j,_⟩:=eY I q;cases F with
      |false=>obtain⟨B,g,c,_⟩:=j;rw[z]at g;cases g;rw[hc]at c;exact absurd c (by decide)
      |true=>obtain⟨B,g,c,_⟩:=j;rw[z]at g;cases g;rw[hc]at c;exact absurd c (by decide)
     ·cases h
  |none=>
   cases he:dj S e with
   |some p2=>
    obtain⟨qb,ys⟩:=p2;obtain⟨a2,E,i,C,am⟩:=dr k hs he;subst i;rw[hd,he]at h;dsimp only at h;split at h
    ·rename_i f;have:=(ev m f).1;cases this
    ·split at h
     ·rename_i f;obtain⟨a,o,i,z,hc,_⟩:=jj I hs m f;cases i;obtain⟨w,ao,j,_⟩:=eY I C;cases qb with
      |false=>obtain⟨B,g,c,_⟩:=j;rw[z]at g;cases g;rw[hc]at c;exact absurd c (by decide)
      |true=>obtain⟨B,g,c,_⟩:=j;rw[z]at g;cases g;rw[hc]at c;exact absurd c (by decide)
     ·cases h
   |none=>
    rw[hd,he]at h;dsimp only at h;unfold CU at h;split at h
    ·obtain⟨wq,f2⟩:=nY h;obtain⟨aq,P⟩:=ev m wq;rw[P e v k f2]at h;cases h;exact z0 aq
    ·rename_i Q _;split at h
     ·rename_i f;obtain⟨a,o,rfl,_⟩:=jj I hs m Q;have:=(ev k f).1;cases this
     ·cases h
    ·rename_i _ T;split at h
     ·rename_i f;obtain⟨a,o,rfl,_⟩:=jj I hs k T;have:=(ev m f).1;cases this
     ·cases h
    ·cases h
theorem fb{A:cM}{b:Bool}{a:cJ}{its:Array cH}{v:V}{u:cH}(c:SCo b s.heap a its)(r:dt v u)(f:ji v=true)(d:A.units<cLine):
   SeqAt.EqAt A s (.ref a) u J/\SeqAt.EqAt A s u (.ref a) J/\SeqAt.RcAt A s (.ref a) u J/\SeqAt.RcAt A s u (.ref a) J:=by
 cases v with
 | non => cases r;cases b
          · exact⟨.tuple_none c d,.none_tuple c d,.tuple_none c d,.none_tuple c d⟩
          · exact⟨.list_none c d,.none_list c d,.list_none c d,.none_list c d⟩
 | bl k => cases r;cases b
           · exact⟨.tuple_bool k c d,.bool_tuple k c d,.tuple_bool k c d,.bool_tuple k c d⟩
           · exact⟨.list_bool k c d,.bool_list k c d,.list_bool k c d,.bool_list k c d⟩
 | int i => obtain ⟨t,rfl⟩:=r;cases b
            · exact⟨.tuple_int i t c d,.int_tuple i t c d,.tuple_int i t c d,.int_tuple i t c d⟩
            · exact⟨.list_int i t c d,.int_list i t c d,.list_int i t c d,.int_list i t c d⟩
 | str x => obtain ⟨t,rfl⟩:=r;cases b
            · exact⟨.tuple_str x t c d,.str_tuple x t c d,.tuple_str x t c d,.str_tuple x t c d⟩
            · exact⟨.list_str x t c d,.str_list x t c d,.list_str x t c d,.str_list x t c d⟩
 |_=>cases f
theorem Bp{A:cM}{x y:V}{u w:cH}(f:dt x u)(a:dt y w)(fx:ji x=M)(e:ji y=M):SeqAt.RcAt A s u w (sY x y):=by
 cases x with
 |non=>cases f;cases y with
  |non=>cases a;exact .none_none
  |bl k=>cases a;exact .none_bool k
  |int i=>obtain⟨t,rfl⟩:=a;exact .none_int i t
  |str z=>obtain⟨t,rfl⟩:=a;exact .none_str z t
  |_=>cases e
 |bl c=>cases f;cases y with
  |non=>cases a;exact .bool_none c
  |bl k=>cases a;exact .bool_bool c k
  |int i=>obtain⟨t,rfl⟩:=a;exact .bool_int c i t
  |str z=>obtain⟨t,rfl⟩:=a;exact .bool_str c z t
  |_=>cases e
 |int g=>obtain⟨b,rfl⟩:=f;cases y with
  |non=>cases a;exact .int_none g b
  |bl k=>cases a;exact .int_bool g b k
  |int i=>obtain⟨t,rfl⟩:=a;exact .int_int g b i t
  |str z=>obtain⟨t,rfl⟩:=a;exact .int_str g b z t
  |_=>cases e
 |str d=>obtain⟨b,rfl⟩:=f;cases y with
  |non=>cases a;exact .str_none d b
  |bl k=>cases a;exact .str_bool d b k
  |int i=>obtain⟨t,rfl⟩:=a;exact .str_int d b i t
  |str z=>obtain⟨t,rfl⟩:=a;exact .str_str d b z t
  |_=>cases e
 |_=>cases fx
theorem uu(f:D->D->Option Bool):∀{xs ys:List D} {b:Bool},wR f xs ys=Z b -> ∃e:Nat->Bool,(∀j x y,xs[j]?=Z x->ys[j]?=Z y->f x y=Z (e j))/\b=((af (min xs.length ys.length)).all e&&xs.length == ys.length)
 |[],[],b,h=>by cases h;exact⟨λ_=>M,λj x y h=>by simp at h,O⟩
 |[],y::ys,b,h=>by cases h;exact⟨λ_=>M,λj x y h=>by simp at h,by simp⟩
 |x::xs,[],b,h=>by cases h;exact⟨λ_=>M,λj x y h h'=>by simp at h',by simp⟩
 |x::xs,y::ys,b,h=>by
  rw[wR]at h;obtain⟨b1,d,h⟩:=oB1.mp h;obtain⟨b2,k,h⟩:=oM1.mp h;obtain⟨e,l,g⟩:=uu f k;refine⟨λj=>match j with|0=>b1|j+1=>e j,λj m i a c=>?_,?_⟩
  ·cases j with
   |zero=>simp at a c;subst a;subst c;exact d
   |succ j=>exact l j m i (by simpa using a) (by simpa using c)
  ·rw[<- h,g,lC1,lC1,Nat.succ_min_succ,List.range_succ_eq_map,bK,List.all_map];have:((xs.length+1 == ys.length+1):Bool)=(xs.length == ys.length):=by simp
   rw[this,Bool.and_assoc];rfl
theorem nX(I:Inv X ag σ H s)(hs:Sim X.K H mu S):∀(n:Nat) {A:cM} {d e:D} {v w:V} {u z:cH} {b:Bool},A.units+n<cLine->ez X.K H mu d v->ez X.K H mu e w->dt v u->dt w z->hB S n d e=Z b->SeqAt.EqAt A s u z b/\SeqAt.RcAt A s u z b
 |0,_,_,_,_,_,_,_,_,_,_,_,_,_,h=>by cases h
 |n + 1,A,d,e,v,w,u,z,b,hu,K,B,ao,E,h=>by
  have c:A.units<cLine:=by lia
  have h0:=h;rw[hB]at h;cases hd:dj S d with
  |some p=>
   obtain⟨pb,xs⟩:=p;obtain⟨a,vs,rfl,q,t⟩:=dr K hs hd;obtain⟨l,aq,C,_⟩:=eY I q;cases ao;cases he:dj S e with
   |some p2=>
    obtain⟨qb,ys⟩:=p2;obtain⟨a2,N,rfl,q2,t2⟩:=dr B hs he;obtain⟨i,m,g,_⟩:=eY I q2;cases E;rw[hd,he]at h;dsimp only at h;have r:SeqAt.RcAt A s (.ref a) (.ref a2) b->SeqAt.EqAt A s (.ref a) (.ref a2) b/\SeqAt.RcAt A s (.ref a) (.ref a2) b:=λrc=>by
     refine⟨?_,rc⟩;by_cases ha:a=a2
     ·subst ha;rw[sA I hs (n+1) K B h0];exact .same _
     ·exact .of_refs ha rc
    split at h
    ·rename_i hb;have hb':pb=qb:=hb;subst hb';split at h
     ·rename_i hl;cases h;obtain⟨h1,h2⟩:=hl;subst h1;refine r (.lists_lengths C g ?_ c);have l1:=t.length;have l2:=t2.length;have l3:=aq.length;have l4:=m.length
      simp only[aJ,bne_iff_ne,ne_eq];lia
     ·rename_i hl;obtain ⟨f,hf,U⟩:=uu _ h;have elts:∀ j (h1:j<l.toArray.size) (h2:j<i.toArray.size),SeqAt.EqAt A.in1 s l.toArray[j] i.toArray[j] (f j):=fun j h1 h2=>by
       have ar:j<l.length:=by simpa using h1
       have Q:j<i.length:=by simpa using h2
       have wq:j<vs.length:=by rw[aq.length];exact ar
       have k2:j<N.length:=by rw[m.length];exact Q
       obtain⟨x,ex,rx⟩:=t.getV (gG1 wq);obtain⟨y,ey,ry⟩:=t2.getV (gG1 k2);obtain⟨u1,W,ru1⟩:=aq.get (gG1 wq);obtain⟨u2,P,ru2⟩:=m.get (gG1 k2);have R:l.toArray[j]=u1:=by
        rw[gG1 ar]at W;simpa using W
       have e2:i.toArray[j]=u2:=by
        rw[gG1 Q]at P;simpa using P
       rw[R,e2];exact(nX I hs n (A:=A.in1) (by show A.units+1+n<cLine;lia) rx ry ru1 ru2 (hf j x y ex ey)).1
      have l1:=t.length;have l2:=t2.length;have l3:=aq.length;have l4:=m.length
      cases pb with
      |false=>
       refine r ?_;have:=SeqAt.RcAt.tuples C g c elts;rw[U];have R:l.toArray.size=xs.length:=by simp;lia
       have e2:i.toArray.size=ys.length:=by simp;lia
       rw[R,e2]at this;exact this
      |true=>
       refine r ?_;have T:xs.length=ys.length:=by
        by_cases z:xs.length=ys.length
        ·exact z
        ·exact absurd ⟨O,z⟩ hl
       have:=SeqAt.RcAt.lists C g (by simp;lia) c elts;rw[U];have R:l.toArray.size=xs.length:=by simp;lia
       rw[R]at this;rw[T,Nat.min_self,beq_self_eq_true,bH,<- T];exact this
    ·rename_i hb;cases h;cases pb with
     |true=>
      cases qb with
      |true=>exact absurd O hb
      |false=>exact⟨.list_tuple C g c,.list_tuple C g c⟩
     |false=>
      cases qb with
      |false=>exact absurd O hb
      |true=>exact⟨.tuple_list C g c,.tuple_list C g c⟩
   |none=>
    rw[hd,he]at h;dsimp only at h;split at h
    ·rename_i f;cases h;obtain⟨am,r2,G,F⟩:=fb C E (ev B f).1 c;exact⟨am,G⟩
    ·split at h
     ·rename_i f;cases h;obtain⟨a2,o,rfl,L,hc,k⟩:=jj I hs B f;cases E;obtain⟨am,r2,G,F⟩:=ve L hc k C c;exact⟨r2,F⟩
     ·cases h
  |none=>
   cases he:dj S e with
   |some p2=>
    obtain⟨qb,ys⟩:=p2;obtain⟨a2,N,rfl,q2,t2⟩:=dr B hs he;obtain⟨i,m,g,_⟩:=eY I q2;cases E;rw[hd,he]at h;dsimp only at h;split at h
    ·rename_i f;cases h;obtain⟨am,r2,G,F⟩:=fb g ao (ev K f).1 c;exact⟨r2,F⟩
    ·split at h
     ·rename_i f;cases h;obtain⟨a,o,rfl,L,hc,k⟩:=jj I hs K f;cases ao;obtain⟨am,r2,G,F⟩:=ve L hc k g c;exact⟨am,G⟩
     ·cases h
   |none=>
    rw[hd,he]at h;dsimp only at h;unfold CU at h;split at h
    ·obtain⟨f1,f2⟩:=nY h;obtain⟨g1,g2⟩:=ev K f1;have g3:=(ev B f2).1;rw[g2 e w B f2]at h;cases h;exact⟨kG ao E g1 g3,Bp ao E g1 g3⟩
    ·rename_i wq _;split at h
     ·rename_i f;cases h;obtain⟨a,o,rfl,L,hc,k⟩:=jj I hs K wq;cases ao;obtain⟨am,r2,G,F⟩:=rP L hc k E (ev B f).1 c;exact⟨am,G⟩
     ·cases h
    ·rename_i _ k2;split at h
     ·rename_i f;cases h;obtain⟨a,o,rfl,L,hc,k⟩:=jj I hs B k2;cases E;obtain⟨am,r2,G,F⟩:=rP L hc k ao (ev K f).1 c;exact⟨r2,F⟩
     ·cases h
    ·cases h
end
def dQ:Nat:=60
def gEq:G2:=λd e S=>(hB S dQ d e).map λb=>(.bl b,S)
section
variable{X:Cx}
theorem h9(k:X.A.units+64<cLine):fJ X (compareOp .Eq) (r2 X.K (b2 gEq)):=by
 intro ag s σ H x y u w Q I j f h;obtain⟨mu,S,d,e,r,l,g,r2,c,a,hc⟩:=oR h;obtain⟨b,i,a⟩:=oM1.mp a;cases a;exact(nX I c dQ (by show _+60<cLine;lia) g r2 j f i).2 X.prog X.w X.xe _ ⟨.bl b,H,I,O,hc.now (.bl b) c⟩
end
end Mi
namespace Mi
open PySem PySem.Spec PyProof.Rows L2 SeqAt
open AutoSeq1 (wpAny_loadPart')
open MeetsSeq
section
variable{l:cJ}{e:Array DictEntry}{n:Nat}{dd:Option cJ}{sl:Array (Option cH)}
theorem Ai:Meets (Builtin.«dict.__ne__» ⟨[.ref l,.none],[]⟩) (λ_ R s=>s.heap.get? l=Z (OD e n dd sl)/\R (.ok (.ret .notImplemented)) s):=.of_wp λ_ _ _ _ s h=>by
 obtain⟨f,g,d,tk,c⟩:=s;obtain⟨a,h⟩:=h;have b:=F.sub_NoneType_dict;wp_walk using wpAny_loadPart' a;exact⟨_,O,h⟩
theorem DU(b:Bool):Meets (Builtin.«dict.__ne__» ⟨[.ref l,.bool b],[]⟩) (λ_ R s=>s.heap.get? l=Z (OD e n dd sl)/\R (.ok (.ret .notImplemented)) s):=.of_wp λ_ _ _ _ s h=>by
 obtain⟨i,g,d,tk,f⟩:=s;obtain⟨a,h⟩:=h;have c:=F.sub_bool_dict;wp_walk using wpAny_loadPart' a;exact⟨_,O,h⟩
theorem Aj(b:Int)(u:Tok):Meets (Builtin.«dict.__ne__» ⟨[.ref l,.int b u],[]⟩) (λ_ R s=>s.heap.get? l=Z (OD e n dd sl)/\R (.ok (.ret .notImplemented)) s):=.of_wp λ_ _ _ _ s h=>by
 obtain⟨i,g,d,tk,f⟩:=s;obtain⟨a,h⟩:=h;have c:=F.sub_int_dict;wp_walk using wpAny_loadPart' a;exact⟨_,O,h⟩
theorem Ah(b:Str)(u:Tok):Meets (Builtin.«dict.__ne__» ⟨[.ref l,.str b u],[]⟩) (λ_ R s=>s.heap.get? l=Z (OD e n dd sl)/\R (.ok (.ret .notImplemented)) s):=.of_wp λ_ _ _ _ s h=>by
 obtain⟨i,g,d,tk,f⟩:=s;obtain⟨a,h⟩:=h;have c:=F.sub_str_dict;wp_walk using wpAny_loadPart' a;exact⟨_,O,h⟩
theorem vT{a:cJ}{its:Array cH}{k:Nat}{c:Option cJ}{f:Array (Option cH)}:Meets (Builtin.«dict.__ne__» ⟨[.ref l,.ref a],[]⟩) (λ_ R s=>s.heap.get? l=Z (OD e n dd sl)/\s.heap.get? a=Z {cls:=.type "list",dict:=c,data:=.seq its k,slots:=f}/\R (.ok (.ret .notImplemented)) s):=.of_wp λ_ _ _ _ s h=>by
 obtain⟨m,g,d,tk,j⟩:=s;obtain⟨i,b,h⟩:=h;have o:=F.sub_list_dict;wp_walk using wpAny_loadPart' i,wpAny_loadPart' b;exact⟨_,O,h⟩
theorem Ag{a:cJ}{its:Array cH}{k:Nat}{c:Option cJ}{f:Array (Option cH)}:Meets (Builtin.«dict.__ne__» ⟨[.ref l,.ref a],[]⟩) (λ_ R s=>s.heap.get? l=Z (OD e n dd sl)/\s.heap.get? a=Z {cls:=.type "tuple",dict:=c,data:=.seq its k,slots:=f}/\R (.ok (.ret .notImplemented)) s):=.of_wp λ_ _ _ _ s h=>by
 obtain⟨m,g,d,tk,j⟩:=s;obtain⟨i,b,h⟩:=h;have o:=F.sub_tuple_dict;wp_walk using wpAny_loadPart' i,wpAny_loadPart' b;exact⟨_,O,h⟩
theorem DH(b:Bool):Meets (Builtin.«int.__ne__» ⟨[.bool b,.ref l],[]⟩) (λ_ R s=>s.heap.get? l=Z (OD e n dd sl)/\R (.ok (.ret .notImplemented)) s):=.of_wp λ_ _ _ _ s h=>by
 obtain⟨f,g,d,tk,c⟩:=s;obtain⟨a,h⟩:=h;wp_walk using wpAny_loadPart' a,wpAny_load a;exact⟨_,O,h⟩
theorem yW(b:Int)(u:Tok):Meets (Builtin.«int.__ne__» ⟨[.int b u,.ref l],[]⟩) (λ_ R s=>s.heap.get? l=Z (OD e n dd sl)/\R (.ok (.ret .notImplemented)) s):=.of_wp λ_ _ _ _ s h=>by
 obtain⟨f,g,d,tk,c⟩:=s;obtain⟨a,h⟩:=h;wp_walk using wpAny_loadPart' a,wpAny_load a;exact⟨_,O,h⟩
theorem yV(b:Str)(u:Tok):Meets (Builtin.«str.__ne__» ⟨[.str b u,.ref l],[]⟩) (λ_ R s=>s.heap.get? l=Z (OD e n dd sl)/\R (.ok (.ret .notImplemented)) s):=.of_wp λ_ _ _ _ s h=>by
 obtain⟨f,g,d,tk,c⟩:=s;obtain⟨a,h⟩:=h;wp_walk using wpAny_loadPart' a,wpAny_load a;exact⟨_,O,h⟩
theorem vk{a:cJ}{its:Array cH}{k:Nat}{c:Option cJ}{f:Array (Option cH)}:Meets (Builtin.«list.__ne__» ⟨[.ref a,.ref l],[]⟩) (λ_ R s=>s.heap.get? l=Z (OD e n dd sl)/\s.heap.get? a=Z {cls:=.type "list",dict:=c,data:=.seq its k,slots:=f}/\R (.ok (.ret .notImplemented)) s):=.of_wp λ_ _ _ _ s h=>by
 obtain⟨m,g,d,tk,j⟩:=s;obtain⟨i,b,h⟩:=h;have o:=F.sub_dict_list;wp_walk using wpAny_loadPart' i,wpAny_loadPart' b;exact⟨_,O,h⟩
theorem yU{a:cJ}{its:Array cH}{k:Nat}{c:Option cJ}{f:Array (Option cH)}:Meets (Builtin.«tuple.__ne__» ⟨[.ref a,.ref l],[]⟩) (λ_ R s=>s.heap.get? l=Z (OD e n dd sl)/\s.heap.get? a=Z {cls:=.type "tuple",dict:=c,data:=.seq its k,slots:=f}/\R (.ok (.ret .notImplemented)) s):=.of_wp λ_ _ _ _ s h=>by
 obtain⟨m,g,d,tk,j⟩:=s;obtain⟨i,b,h⟩:=h;have o:=F.sub_dict_tuple;wp_walk using wpAny_loadPart' i,wpAny_loadPart' b;exact⟨_,O,h⟩
end
abbrev Ha(A:cM)(s:cI)(v u:cH):Prop:=RcNeAt A s v u M/\RcNeAt A s u v M
section
variable{A:cM}{s:cI}{a:cJ}{o:Obj}
theorem rO {v:V}{u:cH}(ho:s.heap.get? a=Z o)(hc:o.cls = .type "dict")(hd:∃e n,o.data = .dict e n)(r:dt v u)(f:ji v=M)(c:A.units<cLine):Ha A s (.ref a) u:=by
 obtain⟨i,dd,d,sl⟩:=o;obtain⟨e,n,hd⟩:=hd;simp only at hc hd;subst hc hd;have two:∀{u:cH},RcNeAt A s (.ref a) u M->RcNeAt A s u (.ref a) M->Ha A s (.ref a) u:=λg r2=>⟨g,r2⟩;cases v with
 |non=>
  cases r;refine two (λ_ _ _ _ h=>?_) λ_ _ _ _ h=>?_
  ·exact rc_ne_decline_or (k:=J) ⟨_,ho,O⟩ O (by decide) F.sub_NoneType_dict F.slot_dict_ne F.slot_NoneType_ne_refl (λ_ q=>call_meets F.slot_dict_ne ⟨_,ho,O⟩ F.entry_dict_ne (F.args_dict_ne_2 _ _) Ai ⟨ho,q⟩) (λ_ q=>call_gives F.slot_NoneType_ne_refl O F.entry_NoneType_ne (F.args_NoneType_ne_2 _ _) (NoneType___ne___none_ref_0 a) q) (λ_ q=>wpAny_of_eq (rfl:isSame (.ref a) .none=pure J) q) (.inr c) h
  ·exact rc_ne_decline_or (k:=J) O ⟨_,ho,O⟩ (by decide) F.sub_dict_NoneType F.slot_NoneType_ne F.slot_dict_ne_refl (λ_ q=>call_gives F.slot_NoneType_ne O F.entry_NoneType_ne (F.args_NoneType_ne_2 _ _) (NoneType___ne___none_ref_0 a) q) (λ_ q=>call_meets F.slot_dict_ne_refl ⟨_,ho,O⟩ F.entry_dict_ne (F.args_dict_ne_2 _ _) Ai ⟨ho,q⟩) (λ_ q=>wpAny_of_eq (rfl:isSame .none (.ref a)=pure J) q) (.inr c) h
 |bl b=>
  cases r;refine two (λ_ _ _ _ h=>?_) λ_ _ _ _ h=>?_
  ·exact rc_ne_decline_or (k:=J) ⟨_,ho,O⟩ O (by decide) F.sub_bool_dict F.slot_dict_ne F.slot_bool_ne_refl (λ_ q=>call_meets F.slot_dict_ne ⟨_,ho,O⟩ F.entry_dict_ne (F.args_dict_ne_2 _ _) (DU b) ⟨ho,q⟩) (λ_ q=>call_meets F.slot_bool_ne_refl O F.entry_int_ne (F.args_int_ne_2 _ _) (DH b) ⟨ho,q⟩) (λ_ q=>wpAny_of_eq (rfl:isSame (.ref a) (.bool b)=pure J) q) (.inr c) h
  ·exact rc_ne_decline_or (k:=J) O ⟨_,ho,O⟩ (by decide) F.sub_dict_bool F.slot_bool_ne F.slot_dict_ne_refl (λ_ q=>call_meets F.slot_bool_ne O F.entry_int_ne (F.args_int_ne_2 _ _) (DH b) ⟨ho,q⟩) (λ_ q=>call_meets F.slot_dict_ne_refl ⟨_,ho,O⟩ F.entry_dict_ne (F.args_dict_ne_2 _ _) (DU b) ⟨ho,q⟩) (λ_ q=>wpAny_of_eq (rfl:isSame (.bool b) (.ref a)=pure J) q) (.inr c) h
 |int b=>
  obtain⟨t,rfl⟩:=r;refine two (λ_ _ _ _ h=>?_) λ_ _ _ _ h=>?_
  ·exact rc_ne_decline_or (k:=J) ⟨_,ho,O⟩ (typeIs_int s b t) (by decide) F.sub_int_dict F.slot_dict_ne F.slot_int_ne_refl (λ_ q=>call_meets F.slot_dict_ne ⟨_,ho,O⟩ F.entry_dict_ne (F.args_dict_ne_2 _ _) (Aj b t) ⟨ho,q⟩) (λ_ q=>call_meets F.slot_int_ne_refl (typeIs_int s b t) F.entry_int_ne (F.args_int_ne_2 _ _) (yW b t) ⟨ho,q⟩) (λ_ q=>wpAny_of_eq (rfl:isSame (.ref a) (.int b t)=pure J) q) (.inr c) h
  ·exact rc_ne_decline_or (k:=J) (typeIs_int s b t) ⟨_,ho,O⟩ (by decide) F.sub_dict_int F.slot_int_ne F.slot_dict_ne_refl (λ_ q=>call_meets F.slot_int_ne (typeIs_int s b t) F.entry_int_ne (F.args_int_ne_2 _ _) (yW b t) ⟨ho,q⟩) (λ_ q=>call_meets F.slot_dict_ne_refl ⟨_,ho,O⟩ F.entry_dict_ne (F.args_dict_ne_2 _ _) (Aj b t) ⟨ho,q⟩) (λ_ q=>wpAny_of_eq (rfl:isSame (.int b t) (.ref a)=pure J) q) (.inr c) h
 |str b=>
  obtain⟨t,rfl⟩:=r;refine two (λ_ _ _ _ h=>?_) λ_ _ _ _ h=>?_
  ·exact rc_ne_decline_or (k:=J) ⟨_,ho,O⟩ (typeIs_str s b t) (by decide) F.sub_str_dict F.slot_dict_ne F.slot_str_ne_refl (λ_ q=>call_meets F.slot_dict_ne ⟨_,ho,O⟩ F.entry_dict_ne (F.args_dict_ne_2 _ _) (Ah b t) ⟨ho,q⟩) (λ_ q=>call_meets F.slot_str_ne_refl (typeIs_str s b t) F.entry_str_ne (F.args_str_ne_2 _ _) (yV b t) ⟨ho,q⟩) (λ_ q=>wpAny_of_eq (rfl:isSame (.ref a) (.str b t)=pure J) q) (.inr c) h
  ·exact rc_ne_decline_or (k:=J) (typeIs_str s b t) ⟨_,ho,O⟩ (by decide) F.sub_dict_str F.slot_str_ne F.slot_dict_ne_refl (λ_ q=>call_meets F.slot_str_ne (typeIs_str s b t) F.entry_str_ne (F.args_str_ne_2 _ _) (yV b t) ⟨ho,q⟩) (λ_ q=>call_meets F.slot_dict_ne_refl ⟨_,ho,O⟩ F.entry_dict_ne (F.args_dict_ne_2 _ _) (Ah b t) ⟨ho,q⟩) (λ_ q=>wpAny_of_eq (rfl:isSame (.str b t) (.ref a)=pure J) q) (.inr c) h
 |_=>cases f
theorem vc {b:Bool}{x:cJ}{its:Array cH}(ho:s.heap.get? a=Z o)(hc:o.cls = .type "dict")(hd:∃e n,o.data = .dict e n)(c:SCo b s.heap x its)(m:A.units<cLine):Ha A s (.ref a) (.ref x):=by
 obtain⟨v,dd,u,sl⟩:=o;obtain⟨e,n,hd⟩:=hd;simp only at hc hd;subst hc hd;cases b with
 |false=>
  obtain⟨⟨l,r,j,t⟩,d,g,w,f⟩:=(show s.heap.IsTuple x its from c);simp only at g f;subst g f;have i:a≠x:=λz=>by subst z;rw[ho]at d;exact absurd (congrArg Obj.cls (Option.some.inj d)) (by simp)
  have p:RcNeAt A s (.ref a) (.ref x) M:=λ_ _ _ _ h=>rc_ne_decline_or (k:=J) ⟨_,ho,O⟩ ⟨_,d,O⟩ (by decide) F.sub_tuple_dict F.slot_dict_ne F.slot_tuple_ne_refl (λ_ q=>call_meets F.slot_dict_ne ⟨_,ho,O⟩ F.entry_dict_ne (F.args_dict_ne_2 _ _) Ag ⟨ho,d,q⟩) (λ_ q=>call_meets F.slot_tuple_ne_refl ⟨_,d,O⟩ F.entry_tuple_ne (F.args_tuple_ne_2 _ _) yU ⟨ho,d,q⟩) (λ_ q=>wpAny_isSame_ref_other i ho d (by simp) q) (.inr m) h;have r2:RcNeAt A s (.ref x) (.ref a) M:=λ_ _ _ _ h=>rc_ne_decline_or (k:=J) ⟨_,d,O⟩ ⟨_,ho,O⟩ (by decide) F.sub_dict_tuple F.slot_tuple_ne F.slot_dict_ne_refl (λ_ q=>call_meets F.slot_tuple_ne ⟨_,d,O⟩ F.entry_tuple_ne (F.args_tuple_ne_2 _ _) yU ⟨ho,d,q⟩) (λ_ q=>call_meets F.slot_dict_ne_refl ⟨_,ho,O⟩ F.entry_dict_ne (F.args_dict_ne_2 _ _) Ag ⟨ho,d,q⟩) (λ_ q=>wpAny_isSame_ref_other' i.symm d ho (by simp) q) (.inr m) h;exact⟨p,r2⟩
 |true=>
  obtain⟨⟨l,r,j,t⟩,d,g,w,f⟩:=(show s.heap.IsList x its from c);simp only at g f;subst g f;have i:a≠x:=λz=>by subst z;rw[ho]at d;exact absurd (congrArg Obj.cls (Option.some.inj d)) (by simp)
  have p:RcNeAt A s (.ref a) (.ref x) M:=λ_ _ _ _ h=>rc_ne_decline_or (k:=J) ⟨_,ho,O⟩ ⟨_,d,O⟩ (by decide) F.sub_list_dict F.slot_dict_ne F.slot_list_ne_refl (λ_ q=>call_meets F.slot_dict_ne ⟨_,ho,O⟩ F.entry_dict_ne (F.args_dict_ne_2 _ _) vT ⟨ho,d,q⟩) (λ_ q=>call_meets F.slot_list_ne_refl ⟨_,d,O⟩ F.entry_list_ne (F.args_list_ne_2 _ _) vk ⟨ho,d,q⟩) (λ_ q=>wpAny_isSame_ref_other i ho d (by simp) q) (.inr m) h;have r2:RcNeAt A s (.ref x) (.ref a) M:=λ_ _ _ _ h=>rc_ne_decline_or (k:=J) ⟨_,d,O⟩ ⟨_,ho,O⟩ (by decide) F.sub_dict_list F.slot_list_ne F.slot_dict_ne_refl (λ_ q=>call_meets F.slot_list_ne ⟨_,d,O⟩ F.entry_list_ne (F.args_list_ne_2 _ _) vk ⟨ho,d,q⟩) (λ_ q=>call_meets F.slot_dict_ne_refl ⟨_,ho,O⟩ F.entry_dict_ne (F.args_dict_ne_2 _ _) vT ⟨ho,d,q⟩) (λ_ q=>wpAny_isSame_ref_other' i.symm d ho (by simp) q) (.inr m) h;exact⟨p,r2⟩
end
section
variable{X:Cx}{ag:List (cJ×Obj)}{σ:L2.St}{H:Hp}{s:cI}{mu:List cJ}{S:Sto}
theorem B2{A:cM}{x y:V}{u w:cH}(f:dt x u)(a:dt y w)(fx:ji x=M)(e:ji y=M):SeqAt.RcNeAt A s u w (!sY x y):=by
 cases x with
 |non=>cases f;cases y with
  |non=>cases a;exact .none_none
  |bl k=>cases a;exact .none_bool k
  |int i=>obtain⟨t,rfl⟩:=a;exact .none_int i t
  |str z=>obtain⟨t,rfl⟩:=a;exact .none_str z t
  |_=>cases e
 |bl c=>cases f;cases y with
  |non=>cases a;exact .bool_none c
  |bl k=>cases a;exact .bool_bool c k
  |int i=>obtain⟨t,rfl⟩:=a;exact .bool_int c i t
  |str z=>obtain⟨t,rfl⟩:=a;exact .bool_str c z t
  |_=>cases e
 |int g=>obtain⟨b,rfl⟩:=f;cases y with
  |non=>cases a;exact .int_none g b
  |bl k=>cases a;exact .int_bool g b k
  |int i=>obtain⟨t,rfl⟩:=a;exact .int_int g b i t
  |str z=>obtain⟨t,rfl⟩:=a;exact .int_str g b z t
  |_=>cases e
 |str d=>obtain⟨b,rfl⟩:=f;cases y with
  |non=>cases a;exact .str_none d b
  |bl k=>cases a;exact .str_bool d b k
  |int i=>obtain⟨t,rfl⟩:=a;exact .str_int d b i t
  |str z=>obtain⟨t,rfl⟩:=a;exact .str_str d b z t
  |_=>cases e
 |_=>cases fx
theorem mi{A:cM}{b:Bool}{a:cJ}{its:Array cH}{v:V}{u:cH}(c:SCo b s.heap a its)(r:dt v u)(f:ji v=M)(d:A.units<cLine):SeqAt.RcNeAt A s (.ref a) u M/\SeqAt.RcNeAt A s u (.ref a) M:=by
 cases v with
 | non => cases r;cases b
          · exact⟨.tuple_none c d,.none_tuple c d⟩
          · exact⟨.list_none c d,.none_list c d⟩
 | bl k => cases r;cases b
           · exact⟨.tuple_bool k c d,.bool_tuple k c d⟩
           · exact⟨.list_bool k c d,.bool_list k c d⟩
 | int i => obtain ⟨t,rfl⟩:=r;cases b
            · exact⟨.tuple_int i t c d,.int_tuple i t c d⟩
            · exact⟨.list_int i t c d,.int_list i t c d⟩
 | str x => obtain ⟨t,rfl⟩:=r;cases b
            · exact⟨.tuple_str x t c d,.str_tuple x t c d⟩
            · exact⟨.list_str x t c d,.str_list x t c d⟩
 |_=>cases f
theorem FK(I:Inv X ag σ H s)(hs:Sim X.K H mu S)(n:Nat){A:cM}{d e:D}{v w:V}{u z:cH}{b:Bool}(hu:A.units+n<cLine)(F:ez X.K H mu d v)(r:ez X.K H mu e w)(G:dt v u)(C:dt w z)(h:hB S n d e=Z b):SeqAt.RcNeAt A s u z (!b):=by
 cases n with
 |zero=>cases h
 |succ n=>
  have c:A.units<cLine:=by lia
  rw[hB]at h;cases hd:dj S d with
  |some p=>
   obtain⟨pb,xs⟩:=p;obtain⟨a,vs,rfl,q,t⟩:=dr F hs hd;obtain⟨l,W,B,_⟩:=eY I q;cases G;cases he:dj S e with
   |some p2=>
    obtain⟨qb,ys⟩:=p2;obtain⟨a2,am,rfl,q2,t2⟩:=dr r hs he;obtain⟨g,m,i,_⟩:=eY I q2;cases C;rw[hd,he]at h;dsimp only at h;have l1:=t.length;have l2:=t2.length;have l3:=W.length;have l4:=m.length
    split at h
    ·rename_i U;have hb':pb=qb:=U;subst hb';split at h
     ·rename_i hl;cases h;obtain⟨h1,h2⟩:=hl;subst h1;refine .lists_lengths B i ?_ c;simp only[aJ,bne_iff_ne,ne_eq];lia
     ·rename_i hl;obtain ⟨f,hf,P⟩:=uu _ h;have elts:∀ j (h1:j<l.toArray.size) (h2:j<g.toArray.size),SeqAt.EqAt A.in1 s l.toArray[j] g.toArray[j] (f j):=fun j h1 h2=>by
       have K:j<l.length:=by simpa using h1
       have ao:j<g.length:=by simpa using h2
       have R:j<vs.length:=by rw[W.length];exact K
       have T:j<am.length:=by rw[m.length];exact ao
       obtain⟨x,ex,rx⟩:=t.getV (gG1 R);obtain⟨y,ey,ry⟩:=t2.getV (gG1 T);obtain⟨u1,Q,ru1⟩:=W.get (gG1 R);obtain⟨u2,L,aq⟩:=m.get (gG1 T);have N:l.toArray[j]=u1:=by
        rw[gG1 K]at Q;simpa using Q
       have wq:g.toArray[j]=u2:=by
        rw[gG1 ao]at L;simpa using L
       rw[N,wq];exact(nX I hs n (A:=A.in1) (by show A.units+1+n<cLine;lia) rx ry ru1 aq (hf j x y ex ey)).1
      cases pb with
      |false=>
       have:=SeqAt.RcNeAt.tuples B i c elts;rw[P];have N:l.toArray.size=xs.length:=by simp;lia
       have wq:g.toArray.size=ys.length:=by simp;lia
       rw[N,wq]at this;exact this
      |true=>
       have ar:xs.length=ys.length:=by
        by_cases z:xs.length=ys.length
        ·exact z
        ·exact absurd ⟨O,z⟩ hl
       have:=SeqAt.RcNeAt.lists B i (by simp;lia) c elts;rw[P];have N:l.toArray.size=xs.length:=by simp;lia
       rw[N]at this;rw[ar,Nat.min_self,beq_self_eq_true,bH,<- ar];exact this
    ·rename_i U;cases h;cases pb with
     |true=>
      cases qb with
      |true=>exact absurd O U
      |false=>exact .list_tuple B i c
     |false=>
      cases qb with
      |false=>exact absurd O U
      |true=>exact .tuple_list B i c
   |none=>
    rw[hd,he]at h;dsimp only at h;split at h
    ·rename_i f;cases h;exact(mi B C (ev r f).1 c).1
    ·split at h
     ·rename_i f;cases h;obtain⟨a2,o,rfl,E,hc,k⟩:=jj I hs r f;cases C;exact(vc E hc k B c).2
     ·cases h
  |none=>
   cases he:dj S e with
   |some p2=>
    obtain⟨qb,ys⟩:=p2;obtain⟨a2,am,rfl,q2,t2⟩:=dr r hs he;obtain⟨g,m,i,_⟩:=eY I q2;cases C;rw[hd,he]at h;dsimp only at h;split at h
    ·rename_i f;cases h;exact(mi i G (ev F f).1 c).2
    ·split at h
     ·rename_i f;cases h;obtain⟨a,o,rfl,E,hc,k⟩:=jj I hs F f;cases G;exact(vc E hc k i c).1
     ·cases h
   |none=>
    rw[hd,he]at h;dsimp only at h;unfold CU at h;split at h
    ·obtain⟨f1,f2⟩:=nY h;obtain⟨g1,g2⟩:=ev F f1;have g3:=(ev r f2).1;rw[g2 e w r f2]at h;cases h;exact B2 G C g1 g3
    ·rename_i R _;split at h
     ·rename_i f;cases h;obtain⟨a,o,rfl,E,hc,k⟩:=jj I hs F R;cases G;exact(rO E hc k C (ev r f).1 c).1
     ·cases h
    ·rename_i _ T;split at h
     ·rename_i f;cases h;obtain⟨a,o,rfl,E,hc,k⟩:=jj I hs r T;cases C;exact(rO E hc k G (ev F f).1 c).2
     ·cases h
    ·cases h
end
def gNe:G2:=λd e S=>(hB S dQ d e).map λb=>(.bl (!b),S)
def sm(f:D->D->Option Bool)(x:D):List D->Option Bool
 |[]=>Z J
 |y::ys=>(f y x).bind λb=>(sm f x ys).map λc=>b||c
def IJ:G2:=λd e S=>(dj S e).bind λp=>(sm (hB S dQ) d p.2).map λb=>(.bl b,S)
def nV:G2:=λd e S=>(dj S e).bind λp=>(sm (hB S dQ) d p.2).map λb=>(.bl (!b),S)
def pe:D->Bool
 | .non=>M
 |_=>J
def Kh:G2:=λd e S=>match e with
 | .non=>Z (.bl (pe d),S)
 |_=>Y
section
variable{X:Cx}
theorem tZ(k:X.A.units+64<cLine):fJ X (compareOp .NotEq) (r2 X.K (b2 gNe)):=by
 intro ag s σ H x y u w Q I j f h;obtain⟨mu,S,d,e,r,l,g,r2,c,a,hc⟩:=oR h;obtain⟨b,i,a⟩:=oM1.mp a;cases a;exact FK I c dQ (by show _+60<cLine;lia) g r2 j f i X.prog X.w X.xe _ ⟨.bl (!b),H,I,O,hc.now (.bl _) c⟩
theorem zD(f:D->D->Option Bool)(x:D):∀{ys:List D} {b:Bool},sm f x ys=Z b -> ∃bs:List Bool,bs.length=ys.length/\(∀(j:Nat) (y:D) (k:Bool),ys[j]?=Z y->bs[j]?=Z k->f y x=Z k)/\b=bs.any id
 |[],b,h=>by cases h;exact⟨[],O,λj y k h=>by simp at h,O⟩
 |y::ys,b,h=>by
  rw[sm]at h;obtain⟨b1,e,h⟩:=oB1.mp h;obtain⟨b2,i,h⟩:=oM1.mp h;obtain⟨bs,m,g,a⟩:=zD f x i;refine⟨b1::bs,by simp[m],λj l k d c=>?_,?_⟩
  ·cases j with
   |zero=>simp at d c;subst d;subst c;exact e
   |succ j=>exact g j l k (by simpa using d) (by simpa using c)
  ·rw[<- h,a];simp
open Classical in
theorem DK{ag:List (cJ×Obj)}{σ:L2.St}{H:Hp}{s:cI}{mu:List cJ}{S:Sto}(I:Inv X ag σ H s)(hs:Sim X.K H mu S){A:cM}(E:A.units+61<cLine){x:D}{v:V}{u:cH}(C:ez X.K H mu x v)(B:dt v u){ys:List D}{vs:List V}{us:List cH}{b:Bool}(m:dk X.K H mu ys vs)(l:dM vs us)(h:sm (hB S dQ) x ys=Z b):∃e:cH->Bool,(∀w∈us,SeqAt.EqAt A.in1 s w u (e w))/\us.any e=b:=by
 obtain⟨bs,F,t,rfl⟩:=zD _ x h;have G:=m.length;have am:=l.length;have at_:∀(j:Nat) w k,us[j]?=Z w->bs[j]?=Z k->SeqAt.EqAt A.in1 s w u k:=λj w k f d=>by
  have o:j<us.length:=(gE1.mp f).1;obtain⟨y,ey,q⟩:=m.getV (i:=j) (v:=vs[j]'(by lia)) (gG1 (by lia));obtain⟨K,p,r2⟩:=l.get (i:=j) (x:=vs[j]'(by lia)) (gG1 (by lia));rw[f]at p;cases p;exact(nX I hs dQ (A:=A.in1) (by show A.units+1+60<cLine;lia) q C r2 B (t j y k ey d)).1
 refine⟨λw=>decide (∃j:Nat,us[j]?=Z w/\bs[j]?=Z M),λw f=>?_,?_⟩
 ·by_cases z:∃j:Nat,us[j]?=Z w/\bs[j]?=Z M
  ·dsimp only;rw[ah z];obtain⟨j,n,a⟩:=z;exact at_ j w M n a
  ·dsimp only;rw[ai z];obtain⟨j,c⟩:=bt f;have o:j<us.length:=(gE1.mp c).1;have g:j<bs.length:=by lia
   have a:=gG1 g;cases d:bs[j]with
   |true=>rw[d]at a;exact absurd ⟨j,c,a⟩ z
   |false=>rw[d]at a;exact at_ j w J c a
 ·rw[bL,bM,bM];constructor
  ·rintro⟨w,f,z⟩;obtain⟨j,n,a⟩:=of_decide_eq_true z;exact⟨M,gM1 a,O⟩
  ·rintro⟨k,d,z⟩;obtain⟨j,c⟩:=bt d;have o:j<bs.length:=(gE1.mp c).1;have g:j<us.length:=by lia
   have r:k=M:=z;subst r;exact⟨us[j],bN g,ah ⟨j,gG1 g,c⟩⟩
theorem J7(E:X.A.units+64<cLine):fJ X (compareOp .In) (r2 X.K (b2 IJ)):=by
 intro ag s σ H x y u w Q I D n h;obtain⟨mu,S,d,e,r,F,o,r2,j,i,hc⟩:=oR h;obtain⟨⟨p,ys⟩,v,i⟩:=oB1.mp i;obtain⟨b,B,i⟩:=oM1.mp i;cases i;obtain⟨a,vs,rfl,q,t⟩:=dr r2 j v;cases n;obtain⟨c,z,l,_⟩:=eY I q;obtain⟨f,m,C⟩:=DK I j (A:=X.A) (by lia) o D t z B;have g:EP X ag σ Q (.bool (c.toArray.any f)) s:=⟨.bl b,H,I,by rw[show c.toArray.any f=c.any f by simp,C];rfl,hc.now (.bl b) j⟩;cases p
 ·exact SeqAt.in_tupleAt f l (λy k=>m y (by simpa using k)) g
 ·exact SeqAt.in_listAt f l (λy k=>m y (by simpa using k)) g
theorem BX(E:X.A.units+64<cLine):fJ X (compareOp .NotIn) (r2 X.K (b2 nV)):=by
 intro ag s σ H x y u w Q I D n h;obtain⟨mu,S,d,e,r,F,o,r2,j,i,hc⟩:=oR h;obtain⟨⟨p,ys⟩,v,i⟩:=oB1.mp i;obtain⟨b,B,i⟩:=oM1.mp i;cases i;obtain⟨a,vs,rfl,q,t⟩:=dr r2 j v;cases n;obtain⟨c,z,l,_⟩:=eY I q;obtain⟨f,m,C⟩:=DK I j (A:=X.A) (by lia) o D t z B;have g:EP X ag σ Q (.bool (!c.toArray.any f)) s:=⟨.bl (!b),H,I,by rw[show c.toArray.any f=c.any f by simp,C];rfl,hc.now (.bl _) j⟩;cases p
 ·exact SeqAt.notIn_tupleAt f l (λy k=>m y (by simpa using k)) g
 ·exact SeqAt.notIn_listAt f l (λy k=>m y (by simpa using k)) g
theorem BZ{K:Fg1}{H:Hp}{mu:List cJ}{d:D}{v:V}(r:ez K H mu d v):pe d=decide (v = .non):=by
 cases r<;>simp[pe]
theorem Ih:fJ X (compareOp .Is) (r2 X.K (b2 Kh)):=by
 intro ag s σ H x y u w Q I g b h;obtain⟨mu,S,d,e,r,i,f,r2,c,a,hc⟩:=oR h;cases e with
 |non=>
  cases a;cases r2;refine Fu ag s σ H _ _ u w Q I g b ⟨O,?_⟩;rw[<- BZ f];exact hc.now (.bl _) c
 |_=>cases a
end
def dX:G1:=λd S=>match d with
 | .str x=>if x.length<=cQ then Z (.int x.length,S)else Y
 |_=>(dj S d).map λp=>(.int p.2.length,S)
def xi:G2:=λd e S=>match e with
 | .int i=>(dj S d).bind λp=>(pE p.2 i).map λx=>(x,S)
 |_=>Y
def gTup:G1:=λd S=>(dj S d).map λp=>(.tup p.2,S)
def jr:G1:=λd S=>(dj S d).map λp=>(.ref S.length,S++[.lst p.2])
def jI:G3:=λo i v S=>match o,i with
 | .ref n,.int k=>match S[n]? with
  |some (.lst xs)=>(sX xs.length k).map λj=>(.non,S.set n (.lst (xs.set j v)))
  |_=>Y
 |_,_=>Y
def uB:List D->Option Bool
 |[]=>Z M
 | .bl b::r=>(uB r).map λc=>b&&c
 |_=>Y
def AE:List D->Option Bool
 |[]=>Z J
 | .bl b::r=>(AE r).map λc=>b||c
 |_=>Y
def gn:G1:=λd S=>(dj S d).bind λp=>(uB p.2).map λb=>(.bl b,S)
def zN:G1:=λd S=>(dj S d).bind λp=>(AE p.2).map λb=>(.bl b,S)
def mL:G1:=λd S=>match d with
 | .int i=>Z (.int i,S)
 | .bl b=>Z (.int (if b then 1 else 0),S)
 |_=>Y
def sr:G2:=λd e S=>match d,e with
 | .int i,.int j=>Z (.int (if j>i then j else i),S)
 |_,_=>Y
def wN:G2:=λd e S=>match d,e with
 | .int i,.int j=>Z (.int (if j<i then j else i),S)
 |_,_=>Y
section
variable{X:Cx}
theorem eb:eK X (.builtin "len") (rN X.K (b1 dX)):=by
 intro ag s σ H xs g Q I r h;obtain⟨x,mu,S,d,l,k,rfl,f,e,c,hc⟩:=AT h;unfold dX at c;split at c
 ·split at c
  ·rename_i z j;cases c;cases f;exact qx ag s σ H _ g Q I r ⟨_,O,j,hc.now (.int _) e⟩
  ·cases c
 ·obtain⟨⟨b,ys⟩,i,c⟩:=oM1.mp c;cases c;obtain⟨a,vs,rfl,q,t⟩:=dr f e i;refine qy ag s σ H _ g Q I r ⟨a,vs,O,?_,?_⟩
  ·cases b
   ·exact .inr q
   ·exact .inl q
  ·rw[<- t.length];exact hc.now (.int _) e
theorem Df{K:Fg1}{H:Hp}{mu:List cJ}{ds:List D}{vs:List V}{i:Int}{d:D}(t:dk K H mu ds vs)(h:pE ds i=Z d):∃v,pE vs i=Z v/\ez K H mu d v:=by
 unfold pE at h ⊢;rw[<- t.length];obtain⟨j,c,h⟩:=oB1.mp h;obtain⟨v,b,a⟩:=t.get h;exact⟨v,by rw[c];exact b,a⟩
theorem Jy:D4 X (r2 X.K (b2 xi)):=by
 intro value c ag s σ H x y v u Q I o k h g;obtain⟨mu,S,d,e,r,B,p,r2,j,f,hc⟩:=oR h;cases e with
 |int i=>
  obtain⟨⟨b,ys⟩,w,f⟩:=oB1.mp f;obtain⟨z,A,f⟩:=oM1.mp f;cases f;cases r2;obtain⟨a,vs,rfl,q,t⟩:=dr p j w;obtain⟨n,m,l⟩:=Df t A;cases b
  ·exact ix_tup value c ag s σ H _ _ v u Q I o k ⟨a,vs,i,n,O,O,q,m,hc.now l j⟩ g
  ·exact Cy value c ag s σ H _ _ v u Q I o k ⟨a,vs,i,n,O,O,q,m,hc.now l j⟩ g
 |_=>cases f
theorem gr:eK X (.type "tuple") (rN X.K (b1 gTup)):=by
 intro ag s σ H xs j Q I r h;obtain⟨x,mu,S,d,m,k,rfl,g,c,f,hc⟩:=AT h;obtain⟨⟨b,ys⟩,i,f⟩:=oM1.mp f;cases f;obtain⟨a,vs,rfl,q,t⟩:=dr g c i;refine oK ag s σ H _ j Q I r ⟨a,vs,O,?_⟩;cases b
 ·exact .inr ⟨q,hc.now (.tup q t) c⟩
 ·exact .inl ⟨q,λl e=>hc _ _ mu (Ext.fresh e) (.tup (jt.of dZ) (t.ext (Ext.fresh e))) (c.fresh e)⟩
theorem c_list:eK X (.type "list") (rN X.K (b1 jr)):=by
 intro ag s σ H xs j Q I r h;obtain⟨x,mu,S,d,m,k,rfl,g,c,e,hc⟩:=AT h;obtain⟨⟨b,ys⟩,i,e⟩:=oM1.mp e;cases e;obtain⟨a,vs,rfl,q,t⟩:=dr g c i;refine qw ag s σ H _ j Q I r ⟨a,vs,O,?_,λl f=>hc _ _ (mu++[l]) (Ext.new_ f) (.ref (g4 c.len l)) (c.newL t f)⟩;cases b
 ·exact .inr q
 ·exact .inl q
theorem HE:uJ X (rU X.K (b3 jI)):=by
 intro ag s σ H o i v l A u Q I C q m h;obtain⟨mu,S,ds,d,G,g,f,a,hc⟩:=h;cases g with
 |cons x r=>cases r with
  |cons B y=>cases y with
   |cons p w=>
    cases w;rename_i E D F;dsimp only[b3]at a;unfold jI at a;split at a
    ·rename_i n k;split at a
     ·rename_i xs e;obtain⟨j,z,a⟩:=oM1.mp a;cases a;cases x with
      |ref c=>
       cases B;obtain⟨vs,b,t⟩:=f.lst e c;refine x9 ag s σ H _ _ v l A u Q I C q m ⟨_,vs,k,j,O,O,b,by rw[<- t.length];exact z,?_⟩;exact hc _ mu (Ext.put b trivial (gM1 c)) (f.putL (t.set p j) c b)
     ·cases a
    ·cases a
theorem Dl{K:Fg1}{H:Hp}{mu:List cJ}:∀{ds:List D} {vs:List V} {us:List cH} {b:Bool},dk K H mu ds vs->dM vs us->uB ds=Z b -> ∃bs:List Bool,us=bs.map Value.bool/\b=bs.all id:=by
 intro ds
 induction ds with
 |nil=>intro vs us b r v h;cases r;cases v;cases h;exact⟨[],O,O⟩
 |cons d ds ih=>
  intro vs us b r v h;cases r with
  |cons g t=>
   cases v with
   |cons r i=>
    cases g
    case bl k=>
     obtain⟨c,e,h⟩:=oM1.mp h;obtain⟨bs,f,a⟩:=ih t i e;cases r;exact⟨k::bs,by rw[f];rfl,by rw[<- h,a];rfl⟩
    all_goals cases h
theorem Dh{K:Fg1}{H:Hp}{mu:List cJ}:∀{ds:List D} {vs:List V} {us:List cH} {b:Bool},dk K H mu ds vs->dM vs us->AE ds=Z b -> ∃bs:List Bool,us=bs.map Value.bool/\b=bs.any id:=by
 intro ds
 induction ds with
 |nil=>intro vs us b r v h;cases r;cases v;cases h;exact⟨[],O,O⟩
 |cons d ds ih=>
  intro vs us b r v h;cases r with
  |cons g t=>
   cases v with
   |cons r i=>
    cases g
    case bl k=>
     obtain⟨c,e,h⟩:=oM1.mp h;obtain⟨bs,f,a⟩:=ih t i e;cases r;exact⟨k::bs,by rw[f];rfl,by rw[<- h,a];rfl⟩
    all_goals cases h
theorem oU(bs:List Bool):(af bs.length).all (λi=>bs.getD i M)=bs.all id:=by
 rw[bL,bA,bA];constructor
 ·intro h b c;obtain⟨i,hi,rfl⟩:=List.mem_iff_getElem.mp c;have:=h i (aA.mpr hi);simpa[bG,hi]using this
 ·intro h i hi;have a:=aA.mp hi;have:=h _ (bN a);simpa[bG,a]using this
theorem oT(bs:List Bool):(af bs.length).any (λi=>bs.getD i M)=bs.any id:=by
 rw[bL,bM,bM];constructor
 ·rintro⟨i,hi,h⟩;have a:=aA.mp hi;exact⟨bs[i],bN a,by simpa[bG,a]using h⟩
 ·rintro⟨b,c,h⟩;obtain⟨i,hi,rfl⟩:=List.mem_iff_getElem.mp c;exact⟨i,aA.mpr hi,by simpa[bG,hi]using h⟩
theorem tz{s:cI}{b:Bool}{a:cJ}{bs:List Bool}(hc:X.A.handled=Y)(g:SCo b s.heap a (bs.map Value.bool).toArray){Q:cH->cI->Prop}(all:∀h' tk,(∀c o,s.heap.get? c=Z o->h'.get? c=Z o)->Q (.bool (bs.all id)) {s with heap:=h',toks:=tk}):cR (model X.prog X.w) X.A (call (.builtin "all") [.ref a]) Q X.xe s:=by
 refine call_all_walk (kQ g ?_);have j:a<s.heap.objs.size:=by cases b<;>(obtain⟨o,e,_⟩:=g;exact hL1 e)
 have ne:a≠s.heap.objs.size:=nN1 j;have l:TruthOf X.prog X.w X.A.in1 (λi v=>(bs.map Value.bool).toArray[i]?=Z v) (λi=>bs.getD i M):=λi v s' p q m h=>by
  have f:(bs.map Value.bool)[i]?=Z v:=by simpa using m
  rw[gP1]at f;obtain⟨k,n,rfl⟩:=oM1.mp f;dsimp only at h;rw[bG,n]at h;exact wpAny_truthy_bool h
 have keep:∀(h':cT),(∀c o,c∉[s.heap.objs.size]->(s.heap.push (hY b a)).get? c=Z o->h'.get? c=Z o) -> ∀c o,s.heap.get? c=Z o->h'.get? c=Z o:=λh' d c o e=>
  d c o (by simpa using nN1 (hL1 e)) (hP1 _ e)
 have hi:(s.heap.push (hY b a)).get? s.heap.objs.size=Z (hY b a):=hS1 _ (by cases b<;>rfl);cases b with
 |true=>
  refine⟨s.heap.objs.size,_,_,_,_,_,_,O,Walks.list (A:=X.A.in1) hc s.heap.objs.size a ne (bs.map Value.bool).toArray,⟨⟨_,hi,O,O⟩,SCo.to (b:=M) g λo e=>hP1 _ e⟩,l,λh' tk d=>?_⟩;have e:(bs.map Value.bool).toArray.size=bs.length:=by simp
  rw[e,oU];exact all h' tk (keep h' d)
 |false=>
  refine⟨s.heap.objs.size,_,_,_,_,_,_,O,Walks.tuple (A:=X.A.in1) hc s.heap.objs.size a ne (bs.map Value.bool).toArray,⟨⟨_,hi,O,O⟩,SCo.to (b:=J) g λo e=>hP1 _ e⟩,l,λh' tk d=>?_⟩;have e:(bs.map Value.bool).toArray.size=bs.length:=by simp
  rw[e,oU];exact all h' tk (keep h' d)
theorem walk_bools'{s:cI}{b:Bool}{a:cJ}{bs:List Bool}(hc:X.A.handled=Y)(g:SCo b s.heap a (bs.map Value.bool).toArray){Q:cH->cI->Prop}(all:∀h' tk,(∀c o,s.heap.get? c=Z o->h'.get? c=Z o)->Q (.bool (bs.any id)) {s with heap:=h',toks:=tk}):cR (model X.prog X.w) X.A (call (.builtin "any") [.ref a]) Q X.xe s:=by
 refine call_any_walk (kQ g ?_);have j:a<s.heap.objs.size:=by cases b<;>(obtain⟨o,e,_⟩:=g;exact hL1 e)
 have ne:a≠s.heap.objs.size:=nN1 j;have l:TruthOf X.prog X.w X.A.in1 (λi v=>(bs.map Value.bool).toArray[i]?=Z v) (λi=>bs.getD i M):=λi v s' p q m h=>by
  have f:(bs.map Value.bool)[i]?=Z v:=by simpa using m
  rw[gP1]at f;obtain⟨k,n,rfl⟩:=oM1.mp f;dsimp only at h;rw[bG,n]at h;exact wpAny_truthy_bool h
 have keep:∀(h':cT),(∀c o,c∉[s.heap.objs.size]->(s.heap.push (hY b a)).get? c=Z o->h'.get? c=Z o) -> ∀c o,s.heap.get? c=Z o->h'.get? c=Z o:=λh' d c o e=>
  d c o (by simpa using nN1 (hL1 e)) (hP1 _ e)
 have hi:(s.heap.push (hY b a)).get? s.heap.objs.size=Z (hY b a):=hS1 _ (by cases b<;>rfl);cases b with
 |true=>
  refine⟨s.heap.objs.size,_,_,_,_,_,_,O,Walks.list (A:=X.A.in1) hc s.heap.objs.size a ne (bs.map Value.bool).toArray,⟨⟨_,hi,O,O⟩,SCo.to (b:=M) g λo e=>hP1 _ e⟩,l,λh' tk d=>?_⟩;have e:(bs.map Value.bool).toArray.size=bs.length:=by simp
  rw[e,oT];exact all h' tk (keep h' d)
 |false=>
  refine⟨s.heap.objs.size,_,_,_,_,_,_,O,Walks.tuple (A:=X.A.in1) hc s.heap.objs.size a ne (bs.map Value.bool).toArray,⟨⟨_,hi,O,O⟩,SCo.to (b:=J) g λo e=>hP1 _ e⟩,l,λh' tk d=>?_⟩;have e:(bs.map Value.bool).toArray.size=bs.length:=by simp
  rw[e,oT];exact all h' tk (keep h' d)
theorem jk(hc:X.calm=M):eK X (.builtin "all") (rN X.K (b1 gn)):=by
 intro ag s σ H xs w Q I r h;obtain⟨x,mu,S,d,v,y,rfl,g,f,c,e⟩:=AT h;obtain⟨⟨b,ys⟩,j,c⟩:=oB1.mp c;obtain⟨k,n,c⟩:=oM1.mp c;cases c;obtain⟨a,vs,rfl,q,t⟩:=dr g f j;obtain⟨u,rfl,p⟩:=hQ r;cases p;obtain⟨m,o,l,_⟩:=eY I q;obtain⟨bs,rfl,rfl⟩:=Dl t o n;exact tz (I.ok.hd hc) l λh' tk i=>⟨.bl _,H,I.kept i,O,e.now (.bl _) f⟩
theorem c_any(hc:X.calm=M):eK X (.builtin "any") (rN X.K (b1 zN)):=by
 intro ag s σ H xs w Q I r h;obtain⟨x,mu,S,d,v,y,rfl,g,f,c,e⟩:=AT h;obtain⟨⟨b,ys⟩,j,c⟩:=oB1.mp c;obtain⟨k,n,c⟩:=oM1.mp c;cases c;obtain⟨a,vs,rfl,q,t⟩:=dr g f j;obtain⟨u,rfl,p⟩:=hQ r;cases p;obtain⟨m,o,l,_⟩:=eY I q;obtain⟨bs,rfl,rfl⟩:=Dh t o n;exact walk_bools' (I.ok.hd hc) l λh' tk i=>⟨.bl _,H,I.kept i,O,e.now (.bl _) f⟩
theorem oa:eK X (.type "int") (rN X.K (b1 mL)):=by
 intro ag s σ H xs f Q I r h;obtain⟨x,mu,S,d,j,g,rfl,e,c,a,hc⟩:=AT h;cases d with
 |int i=>cases a;cases e;exact pw ag s σ H _ f Q I r (.inl ⟨i,O,hc.now (.int _) c⟩)
 |bl b=>cases a;cases e;exact pw ag s σ H _ f Q I r (.inr ⟨b,O,hc.now (.int _) c⟩)
 |_=>cases a
theorem As(hc:X.calm=M):eK X (.builtin "max") (rN X.K (b2 sr)):=by
 intro ag s σ H xs g Q I r h;obtain⟨x,y,mu,S,d,e,j,i,rfl,f,r2,c,a,b⟩:=Bm h;unfold sr at a;split at a
 ·cases a;cases f;cases r2;exact w9 hc ag s σ H _ g Q I r ⟨_,_,O,b.now (.int _) c⟩
 ·cases a
theorem DX(hc:X.calm=M):eK X (.builtin "min") (rN X.K (b2 wN)):=by
 intro ag s σ H xs g Q I r h;obtain⟨x,y,mu,S,d,e,j,i,rfl,f,r2,c,a,b⟩:=Bm h;unfold wN at a;split at a
 ·cases a;cases f;cases r2;exact w8 hc ag s σ H _ g Q I r ⟨_,_,O,b.now (.int _) c⟩
 ·cases a
end
open PySem.SeqAt
open PySem.AutoSeq1 (wpAny_loadPart')
open PySem.MeetsSeq PySem.MeetsSeq2 PySem.MeetsSeq3
def Dn(A:cM)(s:cI)(y x:cH)(b:Bool):Prop:=∀(prog:cK) (w:cN) (E:cH->cI->Prop) (Q:cH->cI->Prop),Q (.bool b) s->cR (model prog w) A (richCompare .Lt y x) Q E s
inductive xk (A:cM)(s:cI):List cH->List cH->Bool->Prop
 |nn:xk A s [] [] false
 |nc (y:cH) (ys:List cH):xk A s [] (y::ys) true
 |cn (x:cH) (xs:List cH):xk A s (x::xs) [] false
 |eq {x y:cH} {xs ys:List cH} {k:Bool} (e:EqAt A.in1 s x y true) (t:xk A s xs ys k):xk A s (x::xs) (y::ys) k
 |lt {x y:cH} {xs ys:List cH} {k:Bool} (e:EqAt A.in1 s x y false) (t:Dn A.in1 s x y k):xk A s (x::xs) (y::ys) k
theorem En(l b:cJ)(items items2:Array cH)(n D:Nat)(dd m:Option cJ)(sl o:Array (Option cH))(c:Bool):
  Meets (Builtin.«tuple.__lt__» ⟨[.ref l,.ref b],[]⟩) (fun A R s=>s.heap.get? l=some {cls:=.type "tuple",dict:=dd,data:=.seq items n,slots:=sl}/\s.heap.get? b=some {cls:=.type "tuple",dict:=m,data:=.seq items2 D,slots:=o} /\
    xk A s items.toList items2.toList c/\R (.ok (.ret (.bool c))) s):=
 .of_wp λprog w A R s h=>by
  obtain⟨v,g,d,tk,u⟩:=s;obtain⟨E,F,B,h⟩:=h;have G:=AutoSeq1.sub_tuple_tuple
  wp_walk using wpAny_loadPart' E,wpAny_loadPart' F,wpAny_forIn_list _ (λrest b s'=>b.1=Y/\s'=⟨v,g,d,tk,u⟩ /\ ∃vs ws:List cH,rest=vs.zip ws/\xk A ⟨v,g,d,tk,u⟩ vs ws c/\vs.length+items2.size=ws.length+items.size) _
  case turn=>
   rintro⟨y,x⟩ rest b s' ⟨k,rfl,vs,ws,f,r,a⟩;cases r with
   |nn=>cases f
   |nc _ _=>cases f
   |cn _ _=>cases f
   |eq e t=>
    rw[bO]at f;injection f with j i;injection j with q p;subst q p
    simp only[lC1]at a;refine wB1 (e prog w _ _ ?_)
    wp_walk
    exact⟨O,O,_,_,i,t,by lia⟩
   |lt e t=>
    rw[bO]at f;injection f with j i;injection j with q p;subst q p
    refine wB1 (e prog w _ _ ?_);have C:=t prog w
    wp_walk using C
    exact⟨_,O,by simpa using h⟩
  case fin=>
   rintro⟨b1,b2⟩ s' ⟨k,rfl,vs,ws,f,r,a⟩;simp only at k;subst k;have z:c=decide (items.size<items2.size):=by
    cases r with
    |nn=>simp only[bf]at a;exact(ai (by lia)).symm
    |nc _ _=>simp only[bf,lC1]at a;exact(ah (by lia)).symm
    |cn _ _=>simp only[bf,lC1]at a;exact(ai (by lia)).symm
    |eq _ _=>rw[bO]at f;cases f
    |lt _ _=>rw[bO]at f;cases f
   rw[z]at h
   wp_walk
   exact⟨_,O,by simpa[Builtin.Tuple.tupleCompareSizes]using h⟩
  case h=>exact⟨O,O,items.toList,items2.toList,O,B,by simp;lia⟩
theorem zp(l b:cJ)(items items2:Array cH)(n G:Nat)(dd r:Option cJ)(sl u:Array (Option cH))(c:Bool)(k:Nat):
  ∀i:Nat,items.size-i=k->i<=items.size->i<=items2.size->Meets (Builtin.«list.__eq__.loop» ⟨[.ref l,.ref b,rawInt i,rawInt 0],[]⟩)
   (λA R s=>s.heap.get? l=Z {cls:=.type "list",dict:=dd,data:=.seq items n,slots:=sl}/\s.heap.get? b=Z {cls:=.type "list",dict:=r,data:=.seq items2 G,slots:=u} /\
    xk A s (items.toList.drop i) (items2.toList.drop i) c/\R (.ok (.ret (.bool c))) s):=by
 induction k with
 |zero=>
  intro i I B v prog w A R s h;obtain⟨E,g,d,tk,D⟩:=s;obtain⟨j,m,a,h⟩:=h
  wp_walk using wpAny_loadPart' j,wpAny_loadPart' m
  have o:items[((i:Nat):Int).toNat]?=Y:=by simp;lia
  have z:items.toList.drop i=[]:=by simp;lia
  rw[z]at a;rw[o]
  wp_walk using wpAny_loadPart' j,wpAny_loadPart' m
  have C:c=decide (items.size<items2.size):=by
   cases h2:items2.toList.drop i with
   |nil=>
    rw[h2]at a;cases a;have:=congrArg List.length h2;simp at this;exact(ai (by lia)).symm
   |cons y ys=>
    rw[h2]at a;cases a;have:=congrArg List.length h2;simp at this;exact(ah (by lia)).symm
  show R (.ok (.ret (.bool (decide (items.size<items2.size))))) _;rw[<- C];exact h
 |succ k ih=>
  intro i I B v prog w A R s h;obtain⟨E,g,d,tk,D⟩:=s;obtain⟨j,m,a,h⟩:=h;have p:i<items.size:=by lia
  have z:items.toList.drop i=items[i]::items.toList.drop (i+1):=by simp[List.drop_eq_getElem_cons,p]
  have o:items[((i:Nat):Int).toNat]?=Z items[i]:=by simp[p]
  have hc:((i:Int)+1)=((i+1:Nat):Int):=by push_cast;rfl
  rw[z]at a;rcases bP i items2.size with f|H
  ·have x:items2.toList.drop i=items2[i]::items2.toList.drop (i+1):=by simp[List.drop_eq_getElem_cons,f]
   have q:items2[((i:Nat):Int).toNat]?=Z items2[i]:=by simp[f]
   rw[x]at a
   wp_walk using wpAny_loadPart' j,wpAny_loadPart' m
   rw[o,q];cases a with
   |eq e t=>
    refine wB1 (e prog w _ _ ?_)
    wp_walk
    rw[hc];exact⟨plainId_quiet plain_eq_loop _,wD1 entry_eq_loop (by rw[Around.under_plainId plain_eq_loop _];exact ih (i+1) (by lia) (by lia) (by lia) prog w A R _ ⟨j,m,t,h⟩)⟩
   |lt e t=>
    refine wB1 (e prog w _ _ ?_);have F:=t prog w
    wp_walk using wpAny_loadPart' j,wpAny_loadPart' m
    rw[o,q]
    wp_walk using F
    simpa using h
  ·have q:items2[((i:Nat):Int).toNat]?=Y:=by simp;lia
   have x:items2.toList.drop i=[]:=by simp;lia
   rw[x]at a;cases a
   wp_walk using wpAny_loadPart' j,wpAny_loadPart' m
   rw[o,q]
   wp_walk using wpAny_loadPart' j,wpAny_loadPart' m
   show R (.ok (.ret (.bool (decide (items.size<items2.size))))) _;rw[ai (by lia)];exact h
theorem Gg(l b:cJ)(items items2:Array cH)(n f:Nat)(dd a:Option cJ)(sl e:Array (Option cH))(c:Bool):
  Meets (Builtin.«list.__lt__» ⟨[.ref l,.ref b],[]⟩) (fun A R s=>s.heap.get? l=some {cls:=.type "list",dict:=dd,data:=.seq items n,slots:=sl}/\s.heap.get? b=some {cls:=.type "list",dict:=a,data:=.seq items2 f,slots:=e} /\
    xk A s items.toList items2.toList c/\R (.ok (.ret (.bool c))) s):=by
 intro prog w A R s h;obtain⟨o,g,d,tk,m⟩:=s;obtain⟨j,i,k,h⟩:=h;have p:=AutoSeq1.sub_list_list
 wp_walk using wpAny_loadPart' j,wpAny_loadPart' i
 exact⟨plainId_quiet plain_eq_loop _,wD1 entry_eq_loop (by rw[Around.under_plainId plain_eq_loop _];exact zp l b items items2 n f dd a sl e c _ 0 O (bj _) (bj _) prog w A R _ ⟨j,i,by simpa using k,h⟩)⟩
theorem EE{A:cM}{s:cI}{k:Bool}{l b:cJ}{xs ys:Array cH}{c:Bool}(u:SCo k s.heap l xs)(v:SCo k s.heap b ys)(y:A.units<cLine)(h:xk A s xs.toList ys.toList c):Dn A s (.ref l) (.ref b) c:=λprog w E Q q=>by
 cases k
 ·obtain⟨⟨r,dd,o,sl⟩,p,hc,n,j⟩:=id u;obtain⟨⟨m,f,g,i⟩,e,d,t,a⟩:=id v;simp only at hc j d a;subst hc j d a;exact richCompare_meets_room (op:=.Lt) ⟨_,p,O⟩ ⟨_,e,O⟩ PySem.F.slot_tuple_lt PySem.F.entry_tuple_lt (PySem.F.args_tuple_lt_2 _ _) (En l b xs ys n t dd f sl i c) ⟨p,e,h,show Value.bool c≠Value.notImplemented/\Q (.bool c) s from⟨(λx=>nomatch x),q⟩⟩ y
 ·obtain⟨⟨r,dd,o,sl⟩,p,hc,n,j⟩:=id u;obtain⟨⟨m,f,g,i⟩,e,d,t,a⟩:=id v;simp only at hc j d a;subst hc j d a;exact richCompare_meets_room (op:=.Lt) ⟨_,p,O⟩ ⟨_,e,O⟩ PySem.F.slot_list_lt PySem.F.entry_list_lt (PySem.F.args_list_lt_2 _ _) (Gg l b xs ys n t dd f sl i c) ⟨p,e,h,show Value.bool c≠Value.notImplemented/\Q (.bool c) s from⟨(λx=>nomatch x),q⟩⟩ y
def Jo(f g:D->D->Option Bool):List D->List D->Option Bool
 |[],[]=>Z J
 |[],_::_=>Z M
 |_::_,[]=>Z J
 |x::xs,y::ys=>(f x y).bind λb=>if b=M then Jo f g xs ys else g x y
def KN:D->D->Option Bool
 | .int i,.int j=>Z (decide (i<j))
 | .str x,.str y=>Z (decide (x.cps.toList<y.cps.toList))
 |_,_=>Y
def Hg(S:Sto):Nat->D->D->Option Bool
 |0,_,_=>Y
 |n+1,d,e=>match KN d e with
  |some b=>Z b
  |none=>match dj S d,dj S e with
   |some p,Z q=>if p.1=q.1 then Jo (hB S n) (Hg S n) p.2 q.2 else Y
   |_,_=>Y
def oA:G2:=λd e S=>(Hg S dQ d e).map λb=>(.bl b,S)
section
variable{X:Cx}{ag:List (cJ×Obj)}{σ:L2.St}{H:Hp}{s:cI}{mu:List cJ}{S:Sto}
theorem Gf(I:Inv X ag σ H s)(hs:Sim X.K H mu S){n:Nat}{A:cM}(p:A.units+1+n<cLine)(ih:∀ {d e:D} {v w:V} {u z:cH} {b:Bool},ez X.K H mu d v->ez X.K H mu e w->dt v u->dt w z->Hg S n d e=some b->Dn A.in1 s u z b):
  ∀{xs ys:List D} {vs ws:List V} {us zs:List cH} {b:Bool},dk X.K H mu xs vs->dk X.K H mu ys ws->dM vs us->dM ws zs->Jo (hB S n) (Hg S n) xs ys=Z b->xk A s us zs b
 :=by
 intro xs
 induction xs with
 |nil=>
  intro ys vs ws us zs b a r2 f c h;cases a;cases f;cases r2 with
  |nil=>cases c;cases h;exact .nn
  |cons _ _=>cases c;cases h;exact .nc _ _
 |cons x xs l=>
  intro ys vs ws us zs b a r2 f c h;cases a with
  |cons a j=>
   cases f with
   |cons i m=>
    cases r2 with
    |nil=>cases c;cases h;exact .cn _ _
    |cons r2 q=>
     cases c with
     |cons g p2=>
      rw[Jo]at h;obtain⟨k,o,h⟩:=oB1.mp h;have eq:=(nX I hs n (A:=A.in1) p a r2 i g o).1;cases k with
      |true=>exact .eq eq (l j q m p2 h)
      |false=>exact .lt eq (ih a r2 i g h)
theorem zo(I:Inv X ag σ H s)(hs:Sim X.K H mu S):∀(n:Nat) {A:cM} {d e:D} {v w:V} {u z:cH} {b:Bool},A.units+n<cLine->ez X.K H mu d v->ez X.K H mu e w->dt v u->dt w z->Hg S n d e=Z b->Dn A s u z b
 |0,_,_,_,_,_,_,_,_,_,_,_,_,_,h=>by cases h
 |n + 1,A,d,e,v,w,u,z,b,W,j,f,o,g,h=>by
  rw[Hg]at h;split at h
  ·rename_i k c;cases h;unfold KN at c;split at c
   ·cases c;cases j;cases f;obtain⟨t,rfl⟩:=o;obtain⟨i,rfl⟩:=g;exact λprog w E Q q=>(PyProof.Rows.lt_int q:cR (model prog w) A (compareOp .Lt (.int _ t) (.int _ i)) Q E s)
   ·cases c;cases j;cases f;obtain⟨t,rfl⟩:=o;obtain⟨i,rfl⟩:=g;exact λprog w E Q q=>(PyProof.Rows.lt_str q:cR (model prog w) A (compareOp .Lt (.str _ t) (.str _ i)) Q E s)
   ·cases c
  ·split at h
   ·rename_i p q ao C;split at h
    ·rename_i U;obtain⟨N,xs⟩:=p;obtain⟨qb,ys⟩:=q;have r:N=qb:=U;subst r;obtain⟨a,vs,rfl,ar,G⟩:=dr j hs ao;obtain⟨a2,y,rfl,T,P⟩:=dr f hs C;cases o;cases g;obtain⟨K,F,B,_⟩:=eY I ar;obtain⟨x,l,m,_⟩:=eY I T;refine EE B m (by lia) ?_;have:=Gf I hs (A:=A) (n:=n) (by lia) (λR r2 L am h=>zo I hs n (A:=A.in1) (by show A.units+1+n<cLine;lia) R r2 L am h) G P F l h;simpa using this
    ·cases h
   ·cases h
theorem jg(k:X.A.units+64<cLine):fJ X (compareOp .Lt) (r2 X.K (b2 oA)):=by
 intro ag s σ H x y u w Q I j f h;obtain⟨mu,S,d,e,r,l,g,r2,c,a,hc⟩:=oR h;obtain⟨b,i,a⟩:=oM1.mp a;cases a;exact zo I c dQ (by show _+60<cLine;lia) g r2 j f i X.prog X.w X.xe _ ⟨.bl b,H,I,O,hc.now (.bl b) c⟩
end
inductive Ty where
 |int|bool|str|tuple|list|dict
 deriving DecidableEq
def Ty.nm:Ty->String
 | .int=>"int" | .bool=>"bool" | .str=>"str" | .tuple=>"tuple" | .list=>"list" | .dict=>"dict"
noncomputable def i3 (S:Sto)(T:Ty):D->Option Bool
 | .non=>some false
 | .bl _=>some (decide (T = .bool)||decide (T = .int))
 | .int _=>some (decide (T = .int))
 | .str _=>some (decide (T = .str))
 | .tup _=>some (decide (T = .tuple))
 | .rol _=>some (decide (T = .list))
 | .ref n=>match S[n]? with
  |some (.lst _)=>some (decide (T = .list))
  |some (.dct _)=>some (decide (T = .dict))
  |some (.dcT _)=>some (decide (T = .dict))
  |_=>none
 | .fn _=>none
def d8(T:Ty)(m:FE):FE:=λr S=>(m r S).bind λp=>(i3 p.2 T p.1).map λb=>(.bl b,p.2)
section
variable{X:Cx}{ag:List (cJ×Obj)}{σ:L2.St}{H:Hp}{s:cI}{mu:List cJ}{S:Sto}{K:Fg1}
theorem Ct(T:Ty):PySem.W.kitOne K (.type "NoneType") (.type T.nm)=Z J:=by cases T<;>rfl
theorem Gn(T:Ty):PySem.W.kitOne K (.type "bool") (.type T.nm)=Z (decide (T = .bool)||decide (T = .int)):=by cases T<;>rfl
theorem Cv(T:Ty):PySem.W.kitOne K (.type "int") (.type T.nm)=Z (decide (T = .int)):=by cases T<;>rfl
theorem Cs(T:Ty):PySem.W.kitOne K (.type "str") (.type T.nm)=Z (decide (T = .str)):=by cases T<;>rfl
theorem Cr(T:Ty):PySem.W.kitOne K (.type "tuple") (.type T.nm)=Z (decide (T = .tuple)):=by cases T<;>rfl
theorem Cu(T:Ty):PySem.W.kitOne K (.type "list") (.type T.nm)=Z (decide (T = .list)):=by cases T<;>rfl
theorem vy(T:Ty):PySem.W.kitOne K (.type "dict") (.type T.nm)=Z (decide (T = .dict)):=by cases T<;>rfl
theorem CC{T:Ty}{d:D}{v:V}{u:cH}{b:Bool}{Q:cH->cI->Prop}{E:cH->cI->Prop}(I:Inv X ag σ H s)(hs:Sim X.K H mu S)(r:ez X.K H mu d v)(f:dt v u)(h:i3 S T d=some b)(q:∀ tk,Q (.bool b) {s with toks:=tk}):
  cR (model X.prog X.w) X.A (call (.builtin "isinstance") [u,.type T.nm]) Q E s:=by
 have seq:∀{k:Bool} {a:cJ} {vs:List V},AV X.K k H a vs->b=(match k with|true=>decide (T = .list)|false=>decide (T = .tuple))->cR (model X.prog X.w) X.A (call (.builtin "isinstance") [.ref a,.type T.nm]) Q E s:=λ{k a vs} g p=>by
  obtain⟨w,B,m,_⟩:=eY I g;cases k
  ·obtain⟨o,e,c,_⟩:=m;subst p;exact PySem.W.kia_one PySem.W.kitx_tuple I.kIn ⟨o,e,c⟩ (Cr T) (λz=>nomatch z) q
  ·obtain⟨o,e,c,_⟩:=m;subst p;exact PySem.W.kia_one PySem.W.kitx_list I.kIn ⟨o,e,c⟩ (Cu T) (λz=>nomatch z) q
 cases d with
 |non=>cases h;cases r;exact iP I f .non (Ct T) q
 |bl k=>cases h;cases r;exact iP I f (.bl k) (Gn T) q
 |int i=>cases h;cases r;exact iP I f (.int i) (Cv T) q
 |str x=>cases h;cases r;exact iP I f (.str x) (Cs T) q
 |tup xs=>
  cases h;obtain⟨a,vs,rfl,g,t⟩:=dr (S:=S) r hs O;cases f;exact seq g O
 |fn x=>cases h
 |rol xs=>
  cases h;obtain⟨a,vs,rfl,g,t⟩:=dr (S:=S) r hs O;cases f;exact seq g O
 |ref n=>
  rw[i3]at h;split at h
  ·rename_i xs e;cases h;obtain⟨a,vs,rfl,g,t⟩:=dr (S:=S) r hs (by rw[dj,e]);cases f;exact seq g O
  ·rename_i ks e;cases h;cases r with
   |ref l=>
    obtain⟨ws,j,_⟩:=hs.dct e l;exact iP I f (.dK j) (vy T) q
  ·rename_i ks e;cases h;cases r with
   | @ref _ a l=>
    cases(show u=Value.ref a from f);obtain⟨ws,j,_⟩:=hs.dcT e l;obtain⟨⟨_,_,o,_,_,A,y,_⟩,_⟩:=(show ew X.prog X.w H s.heap a (.ext (i7 a ws))from I.hok a _ j);exact PySem.W.kia_one PySem.W.kitx_dict I.kIn ⟨o,A,y.1⟩ (vy T) (λz=>nomatch z) q
  ·cases h
theorem Au(T:Ty):eK X (.builtin "isinstance") (λxs H Q=>∃x mu S d b,xs=[x,.ty T.nm]/\ez X.K H mu d x/\Sim X.K H mu S/\i3 S T d=Z b/\Q (.bl b) H):=by
 intro ag s σ H xs i Q I r h;obtain⟨x,mu,S,d,b,rfl,c,a,f,hc⟩:=h;obtain⟨u,g,rfl,e,rt⟩:=xB r;cases rt;exact CC I a c e f λtk=>⟨.bl b,H,I.tok tk,O,hc⟩
theorem wB (T:Ty){e:Expr}{m:FE}{nm:Str}{p p2 pos:Pos}(hg:Gl X "isinstance")(hm:X.mg "isinstance"=none)(hg2:Gl X nm)(hm2:X.mg nm=none)(hv2:bootBuiltins nm=some (.type T.nm))(h:ME X e m)
  (hn:nm≠"__name__":=by decide) (hd:(nm == ("__debug__":Str))=J:=by decide)
  (hs1:cP [e,.Name nm p2] X.env=(J,eval e X.env)::cP [.Name nm p2] X.env:=by rfl) (hs2:cP [.Name nm p2] X.env=(J,eval (.Name nm p2) X.env)::cP [] X.env:=by rfl)
  (hpl:(backTo pos (cP [.Name nm p2] X.env)).any (·.1)=J:=by rfl):ME X (.Call (.Name "isinstance" p) [e,.Name nm p2] [] pos) (d8 T m):=
 eo (k0 (Au T) hg hm (by decide+kernel) (iZ h (iZ (BO (v:=.ty T.nm) hg2 hm2 hv2 O hn hd) lC hs2) hs1) (by decide) (by decide) hs1 hpl) <| by
  rintro σ H Q ⟨r,mu,S,d,o,k,f,hm,hc⟩;obtain⟨⟨a,n⟩,i,hm⟩:=oB1.mp hm;obtain⟨b,j,hm⟩:=oM1.mp hm;cases hm;refine⟨r,mu,S,a,_,k,f,i,λv H1 mu1 l g c=>?_⟩;exact⟨v,mu1,_,a,b,O,g,c,j,hc _ H1 mu1 l (.bl b) c⟩
end
abbrev FO:=Ev->Sto->Option (Option Int×Sto)
def Lf(K:Fg1)(m:FO):TO:=fun σ H Q=>∃r mu S o S',fy K H mu r σ/\Sim K H mu S/\m r S=Z (o,S') /\ ∀H' mu',Ext mu mu' H H'->Sim K H' mu' S'->Q o H'
abbrev MO(X:Cx)(e:Option Expr)(m:FO):Prop:=PO X e (Lf X.K m)
def eF:FO:=λ_ S=>Z (Y,S)
def eE(m:FE):FO:=λr S=>(m r S).bind λp=>match p.1 with
 | .int i=>Z (Z i,p.2)
 |_=>Y
def oI(xs:List D)(lo hi:Option Int):List D:=(xs.drop (HT.sIx xs.length 0 lo)).take (HT.sIx xs.length xs.length hi-HT.sIx xs.length 0 lo)
section
variable{X:Cx}
theorem Ca:MO X Y eF:=by
 rintro ag s σ H Q I ⟨r,mu,S,o,d,c,a,b,hc⟩;cases b;exact BE ag s σ H Q I (hc H mu (.refl _ _) a)
theorem B9{e:Expr}{m:FE}(h:ME X e m):MO X (Z e) (eE m):=by
 rintro ag s σ H Q I ⟨r,mu,S,o,n,g,b,a,hc⟩;obtain⟨⟨d,l⟩,f,a⟩:=oB1.mp a;cases d with
 |int i=>
  cases a;refine BD h ag s σ H Q I ⟨r,mu,S,_,_,g,b,f,λv H1 mu1 j c k=>?_⟩;cases c;exact⟨i,O,hc H1 mu1 j k⟩
 |_=>cases a
theorem vV{K:Fg1}{H:Hp}{mu:List cJ}{ds:List D}{vs:List V}(t:dk K H mu ds vs)(lo hi:Option Int):dk K H mu (oI ds lo hi) (sE vs lo hi):=by
 unfold oI sE;rw[<- t.length];exact(t.drop _).take _
end
def mM:G2:=λo v S=>match o with
 | .ref n=>match S[n]? with
  |some (.lst xs)=>if xs.length<cQ then Z (.non,S.set n (.lst (xs++[v])))else Y
  |_=>Y
 |_=>Y
noncomputable def vq (f:FN)(o:FE)(a:FA):FE:=λr S=>(o r S).bind λp=>match p.1 with
 | .ref n=>match p.2[n]? with
  |some (.lst _)=>(a r p.2).bind λq=>f (p.1::q.1) q.2
  |_=>none
 |_=>none
section
variable{X:Cx}
theorem Hr:He X "list.append" (λx xs H Q=>rN X.K (b2 mM) (x::xs) H Q):=by
 intro ag s σ H x xs v j Q I m i h;obtain⟨r,y,mu,S,d,e,q,p,k,g,r2,f,a,hc⟩:=Bm h;cases k;cases d with
 |ref n=>
  rw[mM]at a;split at a
  ·rename_i ys o;split at a
   ·rename_i l;cases a;cases g with
    |ref c=>
     obtain⟨vs,b,t⟩:=f.lst o c;refine oW ag s σ H _ [y] v j Q I m i ⟨_,vs,y,O,O,b,by rw[<- t.length];exact l,?_⟩;exact hc _ _ mu (Ext.put b trivial (gM1 c)) .non (f.putL (t.append (.cons r2 .nil)) c b)
   ·cases a
  ·cases a
 |_=>cases a
theorem zf {o e:Expr}{es:List Expr}{m:FE}{a:FA}{f:FN}{name:Str}{apos cpos:Pos}{id:String}(slot:Slot "list" name id)(hty:typeOf (.builtin id)=pure (.type "method_descriptor"))(hm:He X id (fun x xs H Q=>rN X.K f (x::xs) H Q))(ho:ME X o m)(ha:MA X (e::es) a)
  (hbase:attributeBase o name X.env (eval o X.env)=eval o X.env:=by rfl)
  (hfew:((backTo cpos (cP (e::es) X.env)).all (λx=> !x.1)&&(backToKw cpos (keywordEach [] X.env)).all (λx=>x.1.isSome)&&decide ((e::es).length+([]:List Keyword).length+(if([]:List Keyword).isEmpty then 0 else 1)<30))=M:=by rfl)
  (hline:(apos.endLine == cpos.line)=M:=by rfl) (hs:cP (e::es) X.env=(J,eval e X.env)::cP es X.env:=by rfl) (hplain:(backTo cpos (cP es X.env)).any (·.1)=J:=by rfl):
  ME X (.Call (.Attribute o name apos) (e::es) [] cpos) (vq f m a):=
 eo (HY PySem.F.plainAttrs_list slot hty hm ho ha hbase hfew hline hs hplain) <| by
  rintro σ H Q ⟨r,mu,S,d,y,j,hs,hm,hc⟩;obtain⟨⟨g,i⟩,s,hm⟩:=oB1.mp hm;refine⟨r,mu,S,g,i,j,hs,s,λv H1 mu1 k h p=>?_⟩;cases g with
  |ref n=>
   dsimp only at hm;split at hm
   ·rename_i xs C;obtain⟨⟨ds,l⟩,u,hm⟩:=oB1.mp hm;refine⟨?_,r,mu1,i,ds,l,j.ext k,p,u,λvs H2 c x2 r2 A=>?_⟩
    ·cases h with
     |ref z=>
      obtain⟨vs,w,t⟩:=p.lst C z;exact .inl ⟨O,vs,lv.of w⟩
    ·exact⟨c,l,.ref n::ds,d,y,.cons (h.ext x2) r2,A,hm,λB q b x3=>hc B q b ((k.trans x2).trans x3)⟩
   ·cases hm
  |_=>cases hm
end
theorem BB{X:Cx}(hc:X.calm=true){elt tg iter:Expr}{ifs:List Expr}{rest:List Comprehension}{scope:cW}{pos n N:Pos}{y:Str}{i:Nat}{T:List Str}{keep:List Nat}{A:List (Str×cJ)}{wi:TI}{g:TG}{ti:TT}{tb:cJ->TS}{emit:cH->Env->Sem Unit}(wq:swapsWith (.ListComp elt (⟨tg,iter,ifs,0⟩::rest) scope pos) (some (.Name y N)) n.line X.env=pure true)(eq:∀it t k,compTurn (.ListComp elt (⟨tg,iter,ifs,0⟩::rest) scope pos) 0 it t k=kO iter.pos tg ifs it k (emit t k) (.compLoop (.ListComp elt (⟨tg,iter,ifs,0⟩::rest) scope pos) 0 it t k))(C:Hi X scope T keep)(L:jJ X.env.cells scope.names []=some A)(hi:PI X tg iter wi)(hb:∀s H d p,PG (cxC X scope A T keep s H d) tg g/\oy (cxC X scope A T keep s H d) ifs ti/\PU (cxC X scope A T keep s H d) (emit (.ref p) (cxC X scope A T keep s H d).env) (tb p))(hN:X.N.Nodup)(hy:X.N[i]?=some y)(hx:uK X.env.scope y)(hf:X.fn y=true\/X.env.scope.names.lookup y=some .local)(hs:∀x,foldedSetIterable iter X.env x=pure x:=by intro _;rfl):
  PS X (.Assign [.Name y N] (.ListComp elt (⟨tg,iter,ifs,0⟩::rest) scope pos) n) (xX (xW T.length keep wi g ti tb) (vH i)):=by
 intro ag s σ H D I h;rw[exec_Assign_Name_used _ _ _ _ wq];refine wB1 (wpAny_standAt (wB1 ?_));show cR _ X.A (do let _<-comprehension (.ListComp elt (⟨tg,iter,ifs,0⟩::rest) scope pos) scope X.env _ (newList []) J (eval iter X.env) (Z (assign (.Name y N) X.env))) _ _ s;refine wB1 (wpAny_mono (wpAny_comprehension_free (use:=Z (assign (.Name y N) X.env)) (Q:=λ_ s'=>SP X ag D .next s') O hs (An L) C.kind C.names ?_) (λ_ s' hq=>wP1 (wP1 hq)) λ_ _ e=>e);refine eR (hi ag s σ H _ I h) λv s1 h1=>eR h1 λitv a h2=>?_;obtain⟨it,d,tn,am,H2,rfl,I2,TT,E,f2,q2⟩:=h2;refine wO1 ?_;have u:Inv X ag σ (upd H2 a.heap.objs.size (.lst [])) {a with heap:=a.heap.push {cls:=.type "list",data:=.seq ([]:List cH).toArray}}:=I2.lnew (t':=a.toks) .nil (bj _);have old:∀b∈d,∃o,a.heap.get? b=Z o:=λb hb=>by
  obtain⟨o,e,_⟩:=TT.obj 0 a.heap E b hb;exact⟨o,e⟩
 have W:∀b∈d,b≠a.heap.objs.size:=λb hb z=>by
  obtain⟨o,e⟩:=old b hb;have:=hL1 e;rw[z]at this;exact ay _ this
 have P:∀b∈d,kK X ag (upd H2 a.heap.objs.size (.lst [])) b:=λb hb=>⟨by rw[dD (W b hb)];exact(f2 b hb).1,(f2 b hb).2⟩;have o3:∀b∈d,∃o,({a with heap:=a.heap.push {cls:=.type "list",data:=.seq ([]:List cH).toArray}}:cI).heap.get? b=Z o:=λb hb=>by
  obtain⟨o,e⟩:=old b hb;exact⟨o,hP1 _ e⟩
 have R:=si u C L P o3;obtain⟨hg,S,he⟩:=hb {a with heap:=a.heap.push {cls:=.type "list",data:=.seq ([]:List cH).toArray}} (upd H2 a.heap.objs.size (.lst [])) d a.heap.objs.size;refine kg ?_;have f4:∀b∈d,kK (cxC X scope A T keep {a with heap:=a.heap.push {cls:=.type "list",data:=.seq ([]:List cH).toArray}} (upd H2 a.heap.objs.size (.lst [])) d) [] (upd H2 a.heap.objs.size (.lst [])) b:=λb hb=>
  ⟨(P b hb).1,(R.ok.exf b hb).1,R.ok.exfs b hb,.inl hb,(R.ok.exf b hb).2,λp G=>absurd (show p∈([]:List (cJ×Obj))from G) (by simp)⟩
 have ao:tn 0 (pushCells ((a.heap.push {cls:=.type "list",data:=.seq ([]:List cH).toArray}).push {cls:=.type "dict",data:=.dict #[]}) scope.names):=
  TT.keep 0 a.heap _ E λb hb o e=>pushCells_keeps scope.names _ b o (hP1 _ (hP1 _ e))
 have l:=lT (X:=cxC X scope A T keep {a with heap:=a.heap.push {cls:=.type "list",data:=.seq ([]:List cH).toArray}} (upd H2 a.heap.objs.size (.lst [])) d) O hc (eq (.ref it) (.ref a.heap.objs.size) _) TT hg S he R ao f4
  (q2 a.heap.objs.size (I2.hok.fresh (nR1 _)))
 refine codeAny_mono (codeAny_compStart_list l (TT.self X.A 0 _ _ _ ao l)) λr s' hr=>?_;cases r with
 |error e=>exact hr.elim
 |ok f=>
  obtain⟨σ',H',B,q'⟩:=hr;have J1:Inv X ag σ H' s':=u.call' (s':=s') (ch:=d) B.os B.base B.hok B.bare λb hb=>(P b hb).2.2.2 |> λz=>⟨z.1,(P b hb).2.1,z.2.1,z.2.2⟩
  -- the block's own dict is kept aside
  obtain⟨m,hn,_⟩:=id B.loc;obtain⟨ar,es,ep,eC,dC,rC⟩:=id hn;have hCz:(a.heap.push {cls:=.type "list",data:=.seq ([]:List cH).toArray}).get? (a.heap.push {cls:=.type "list",data:=.seq ([]:List cH).toArray}).objs.size=Y:=Heap.get?_none_of_le (nR1 _);have F:(a.heap.push {cls:=.type "list",data:=.seq ([]:List cH).toArray}).objs.size≠X.env.locals:=λz=>by
   have:=u.lt;rw[<- z]at this;exact ay _ this
  have aq:H' (a.heap.push {cls:=.type "list",data:=.seq ([]:List cH).toArray}).objs.size=Y:=B.free;have J2:Inv X (ag++[((a.heap.push {cls:=.type "list",data:=.seq ([]:List cH).toArray}).objs.size,ar)]) σ H' s':=J1.pins_of λp G=>by
   rcases aE.mp G with z|z
   ·exact J1.pin p (mA1 _ z)
   ·have z':p=((a.heap.push {cls:=.type "list",data:=.seq ([]:List cH).toArray}).objs.size,ar):=by simpa using z
    subst z';exact⟨eC,aq,F,u.nofs (nR1 _),λv q=>by rw[dC]at q;cases q⟩
  refine eR (u7 hN hy hx hf _ s' σ H' (.ref a.heap.objs.size) (.ref a.heap.objs.size) D.nx J2 O q') λ_ s5 ⟨K,H5,J5,q5⟩=>?_;obtain⟨e5,n5,_⟩:=J5.pin ((a.heap.push {cls:=.type "list",data:=.seq ([]:List cH).toArray}).objs.size,ar) (mA1 _ (mA1 _ mS1));refine⟨m,⟨ar,es,ep,e5,dC,rC⟩,λh' V=>?_⟩;have J6:Inv X ag K H5 s5:=J5.unpinned;refine⟨K,H5,J6.turned (t':=s5.toks) (λb o hb e=>(V.2 b hb).trans e) n5 F (.inr ?_) (λx c w z=>?_) (λp G z=>?_),q5⟩
  ·exact u.sz
  ·obtain⟨w',zc⟩:=u.cell x c w;have j:=zc.lt;rw[z]at j;exact ay _ j
  ·obtain⟨U,_⟩:=u.pin p G;have j:=hL1 U;rw[z]at j;exact ay _ j
section
variable{X:Cx}
theorem GZ{K:Fg1}{te:TE}{m:FE}{i:Nat}(hm:∀ σ H Q,tM K m σ H Q->te σ H Q){E:js}{σ:L2.St}{H:Hp}(h:uV K (dI m (gN i)) E σ H):xX te (vH i) E σ H:=by
 obtain⟨r,mu,S,d,g,h1,h2,k,o⟩:=ql h;refine hm _ _ _ ⟨r,mu,S,d,g,h1,h2,k,λv H' mu' p c n=>?_⟩;obtain⟨r2,a,t,q,u,s,l,e,j,b,f⟩:=o v H' mu' p c n;cases b;exact f _ H' a (.refl _ _) (l.set j) e
theorem mv (i:Nat){x:Str}{pos:Pos}(hN:X.N[i]? = some x:=by rfl)(hv:Vis X.env.scope x:=by first | exact Or.inl rfl | exact Or.inr (Or.inl rfl) | exact Or.inr (Or.inr rfl))(hd:(x == ("__debug__":Str))=false:=by decide)(hcd:(x == ("__classdict__":Str))=false:=by decide):
  ME X (.Name x pos) (mV i):=F3 i hN hv hd hcd
end
def Own(P:cK)(w:cN)(K:Fg1)(mg:Str->Option cH)(base:cT)(k:Nat)(x:Str)(n:Nat)(m:FN):Prop:=
 ∃(f:cJ) (fd:cU) (ps:List Str),lY P w K mg base sT k f fd ps (spM K n m)/\jP K fd ps []/\wK1 K (.ref f)=M/\mg x=Z (.ref f)
theorem F6 {X:Cx}{k k' n:Nat}{x:Str}{m:FN}{p pos:Pos}{e:Expr}{es:List Expr}{a:FA}(h:Own X.prog X.w X.K X.mg X.base k x n m)(hr:gf k' X.A)(hk:k<=k')(hg:Gl X x)(ha:MA X (e::es) a)(hdb:(x == ("__debug__":Str))=false:=by decide)
  (he:cP (e::es) X.env=(J,eval e X.env)::cP es X.env:=by rfl) (hpl:(backTo pos (cP es X.env)).any (·.1)=J:=by rfl):ME X (.Call (.Name x p) (e::es) [] pos) (mN (c9 n m) a):=by
 obtain⟨f,fd,ps,F,b,c,d⟩:=h;exact Ch F (hr.mono hk) hg d c b ha hdb he hpl
theorem Fn{P:cK}{w:cN}{K:Fg1}{mg:Str->Option cH}{base:cT}{x a:Str}{st:cV}{f:cJ}{fd:cU}{N ps:List Str}{k n:Nat}{b:FS}(F:v8 K x a st f fd)(hb:jP K fd ps [])(hm:mg x=some (.ref f))(S:gH N ps (dA st))(hn:ps.length=n)(d:∀(e:cH) (A:cM) (c:List Env) (s:cI) (H:Hp) (E:XK),gf k (A.deeper (envOfC a (dA st) s.heap.objs.size f e)) ->
   xf (mO sT P w K mg base N a (dA st) f e A c s H E).nox (fg st) b):Own P w K mg base (k+1) x n (gC N.length b):=by
 subst hn;exact⟨f,fd,ps,IM F S d,hb,F.kp,hm⟩
def CGl(K:Fg1)(mg:Str->Option cH)(x:Str)(d:D):Prop:=∃(v:V) (u:cH),mg x=Z u/\dt v u /\ ∀H mu,ez K H mu d v
theorem Cg {X:Cx}{x:Str}{d:D}{pos:Pos}(h:CGl X.K X.mg x d)(hg:Gl X x)(hd:(x == ("__debug__":Str))=J:=by decide):ME X (.Name x pos) (mC d):=by
 obtain⟨v,u,a,r,q⟩:=h;exact zi d (BJ hg a r hd) q
def fK:List Bool->Ev->Ev
 |true::bs,o::r=>o::fK bs r
 |false::bs,_::r=>Y::fK bs r
 |[],_::r=>Y::fK [] r
 |_,[]=>[]
def kS:Ev->Bool
 |[]=>M
 |none::r=>kS r
 |some d::r=>d.und 0&&kS r
noncomputable def oX (ki ko:List Bool)(b:FS):FS:=fun r S=>if kS (fK ki r)=true then
  (b (fK ki r) []).bind λp=>match p.1 with
   | .rt d=>if d.und 0=true then some (.rt d,[],S)else none
   |f=>if kS (fK ko p.2.1)=true then some (f,fK ko p.2.1,S)else none
 else none
theorem jS:∀(bs:List Bool) (r:Ev),(fK bs r).length=r.length
 |true::bs,o::r=>congrArg (· + 1) (jS bs r)
 |false::bs,o::r=>congrArg (· + 1) (jS bs r)
 |[],o::r=>congrArg (· + 1) (jS [] r)
 |[],[]=>rfl
 |true::_,[]=>rfl
 |false::_,[]=>rfl
theorem jT:∀(bs:List Bool) (r:Ev) (i:Nat) (d:D),(fK bs r)[i]?=Z (Z d)->r[i]?=Z (Z d)
 |true::bs,o::r,0,d,h=>h
 |true::bs,o::r,i+1,d,h=>by
  rw[gC1];exact jT bs r i d (by rw[fK,gC1]at h;exact h)
 |false::bs,o::r,0,d,h=>by simp[fK]at h
 |false::bs,o::r,i+1,d,h=>by
  rw[gC1];exact jT bs r i d (by rw[fK,gC1]at h;exact h)
 |[],o::r,0,d,h=>by simp[fK]at h
 |[],o::r,i+1,d,h=>by
  rw[gC1];exact jT [] r i d (by rw[fK,gC1]at h;exact h)
 |[],[],i,d,h=>by simp[fK]at h
 |true::_,[],i,d,h=>by simp[fK]at h
 |false::_,[],i,d,h=>by simp[fK]at h
theorem lz:∀(r:Ev) (i:Nat) (d:D),kS r=M->r[i]?=Z (Z d)->d.und 0=M
 |none::r,0,d,_,h=>by simp at h
 |none::r,i+1,d,hs,h=>lz r i d hs (by simpa using h)
 |some e::r,0,d,hs,h=>by
  rw[kS,bA1]at hs;simp at h;subst h;exact hs.1
 |some e::r,i+1,d,hs,h=>by
  rw[kS,bA1]at hs;exact lz r i d hs.2 (by simpa using h)
theorem fy.mask{K:Fg1}{H:Hp}{mu mu':List cJ}{r:Ev}{σ:L2.St}{bs:List Bool}(h:fy K H mu r σ)(hs:kS (fK bs r)=M):fy K H mu' (fK bs r) σ:=
 ⟨by rw[jS];exact h.len,λi d e=>by
  obtain⟨v,b,c⟩:=h.val i d (jT bs r i d e);exact⟨v,b,c.cut (n:=0) (λk a=>absurd a (bw _)) (lz _ i d hs e)⟩⟩
theorem zk{K:Fg1}{l A:List Bool}{b:FS}{E:js}{σ:L2.St}{H:Hp}(h:uV K (oX l A b) E σ H):uV K b E σ H:=by
 obtain⟨r,mu,S,f,B,C,y,j,c,hc⟩:=h;unfold oX at c;split at c
 ·rename_i w;obtain⟨⟨m,p,t⟩,u,c⟩:=oB1.mp c;refine⟨fK l r,[],[],m,p,t,y.mask w,.nil,u,?_⟩;have back:∀{H':Hp} {mu':List cJ},Ext [] mu' H H'->Ext mu mu H H':=λ{H' mu'} x=>⟨bp,λa o e _=>x.old a o e (by simp),x.tup,x.frz,λ_ z=>.inl z⟩;have keep:∀{H':Hp} {mu':List cJ},Ext [] mu' H H'->Sim K H' mu S:=λ{H' mu'} x=>⟨j.len,j.nd,λn o a h1 h2=>(j.ob n o a h1 h2).keep (back x) λo e=>x.old a o e (by simp)⟩;cases m with
  |rt d=>
   dsimp only at c;split at c
   ·rename_i i;cases c;exact λv H' mu' x r s=>hc v H' mu (back x) (r.cut (n:=0) (λk q=>absurd q (bw _)) i) (keep x)
   ·cases c
  |nx=>
   dsimp only at c;split at c
   ·rename_i i;cases c;exact λg H' mu' x r s=>hc g H' mu (back x) (r.mask i) (keep x)
   ·cases c
  |bk=>
   dsimp only at c;split at c
   ·rename_i i;cases c;exact λg H' mu' x r s=>hc g H' mu (back x) (r.mask i) (keep x)
   ·cases c
  |ct=>
   dsimp only at c;split at c
   ·rename_i i;cases c;exact λg H' mu' x r s=>hc g H' mu (back x) (r.mask i) (keep x)
   ·cases c
 ·cases c
theorem y6{X:Cx}{sts:List cV}{b:FS}(a c:List Bool)(h:xf X sts b):xf X sts (oX a c b):=pU h λ_ _ _=>zk
def CV(K:Fg1)(d:D)(u:cH):Prop:=∃v:V,dt v u /\ ∀H mu,ez K H mu d v
def Jx(K:Fg1)(ds:List D)(us:List cH):Prop:=∃vs:List V,dM vs us /\ ∀H mu,dk K H mu ds vs
section
variable{K:Fg1}
theorem hZ{i:Int}{t}:CV K (.int i) (.int i t):=⟨.int i,⟨t,O⟩,λ_ _=>.int i⟩
theorem kH{x:Str}{t}:CV K (.str x) (.str x t):=⟨.str x,⟨t,O⟩,λ_ _=>.str x⟩
theorem jW:Jx K [] []:=⟨[],.nil,λ_ _=>.nil⟩
theorem eO{d:D}{u:cH}{ds:List D}{us:List cH}(h:CV K d u)(t:Jx K ds us):Jx K (d::ds) (u::us):=by
 obtain⟨v,r,q⟩:=h;obtain⟨vs,a,b⟩:=t;exact⟨v::vs,.cons r a,λH mu=>.cons (q H mu) (b H mu)⟩
theorem lS {a:cJ}{d:Option cJ}{us:List cH}{n:Nat}{sl:Array (Option cH)}{ds:List D}(h:K.lookup a=Z ⟨.type "tuple",d,.seq us.toArray n,sl⟩)(hs:us.length<=cQ)(t:Jx K ds us):CV K (.tup ds) (.ref a):=by
 obtain⟨vs,b,c⟩:=t;exact⟨.ref a,O,λH mu=>.tup (.inr ⟨_,us.toArray,n,h,O,O,by simpa using hs,by simpa using b⟩) (c H mu)⟩
theorem i6{mg:Str->Option cH}{x:Str}{d:D}{u:cH}(hm:mg x=Z u)(h:CV K d u):CGl K mg x d:=by
 obtain⟨v,r,q⟩:=h;exact⟨v,u,hm,r,q⟩
end
theorem iI{K:Fg1}{H:Hp}{mu:List cJ}:∀ns:List Int,dk K H mu (ns.map D.int) (ns.map V.int)
 |[]=>.nil
 |n::ns=>.cons (.int n) (iI ns)
theorem Gm{K:Fg1}{m:FN}(hm:∀ ns:List Int,ns.length<=63 -> ∃ S,m [.rol (ns.map D.int)] []=some (.bl true,S))(H:Hp)(a:cJ)(ns:List Int)(b:ns.length<=63)(f:Do H)(d:lv K H a (ns.map V.int)):
  spM K 1 m [.ref a] H (λv _=>v = .bl M) λ_ _ _=>False:=by
 refine⟨O,?_⟩;obtain⟨S,e⟩:=hm ns b;have c:RoL K H a (ns.map V.int):=by
  rcases d with h|h
  ·rcases h with h|h
   ·rcases f a with z|⟨o,xs,z⟩
    ·rw[h]at z;cases z
    ·rw[h]at z;cases z
   ·exact .inl h
  ·exact .inr h
 refine⟨[],[],[.rol (ns.map D.int)],.bl M,S,.cons (.rol c (iI ns)) .nil,.nil,e,λv H' mu' x r s=>?_⟩;cases r;rfl
theorem walk_m{l:PySem.W.OpenLaw}{q:cK}{b:List Str}{XP:(Str->Option cH)->cT->Prop}{g:cN->cT->Prop}{d:DefRec}{K:Params->Fg1}{m:FN}{k:Nat}{x:Str}(hn:l.most=some 63)(c:d.params.defaults=[])(hr:gf k callerA)(j:∀(w:cN) (h:cT),g w h->(K w.params).In h)(hm:∀ns:List Int,ns.length<=63 -> ∃S,m [.rol (ns.map D.int)] []=some (.bl true,S))(F:∀(w:cN) (mg:Str->Option cH) (e:cJ) (h:cT),(K w.params).In h->h.Ns cO mg->mg d.name=some (.ref e) ->
   ∃fd:cU,(∀(s:cI) (u:cH),BindsTo s fd ⟨[u],[]⟩ [(x,u)]) /\ ∀base:cT,(K w.params).In base->base.Ns cO mg->lY l.prog w (K w.params) mg base sT k e fd [x] (spM (K w.params) 1 m)):
  PySem.W.WalkO q b XP g l.row.toRowW d [] (λf vs=>PySem.call f vs):=
 L2.A8 (n:=63) (k:=k) (x:=x) (CX:=λ_=>sT) (sp:=λw=>spM (K w.params) 1 m) hn (by decide) c hr j F (λ_ H a ns p o i=>Gm hm H a ns p o i) λ_ _ _ _ _ z=>z
structure XE (X:Cx)(e:Expr)(m:FE):Prop where
 h:ME X e m
structure XT (X:Cx)(e:Expr)(m:FT):Prop where
 h:MT X e m
structure XW (X:Cx)(e:Expr)(m:FT):Prop where
 h:MW X e m
structure XA (X:Cx)(e:List Expr)(m:FA):Prop where
 h:MA X e m
structure XS (X:Cx)(e:cV)(m:FS):Prop where
 h:MS X e m
structure uE (X:Cx)(e:List cV)(m:FS):Prop where
 h:xf X e m
structure XI (X:Cx)(tg e:Expr)(m:FI):Prop where
 h:MI X tg e m
structure XG (X:Cx)(e:Expr)(m:FG):Prop where
 h:MG X e m
structure Jt (X:Cx)(e:List Expr)(m:AR):Prop where
 h:Jb X e m
structure XO (X:Cx)(e:Option Expr)(m:FO):Prop where
 h:MO X e m
structure XF (X:Cx)(K:Fg1)(ifs:List Expr)(t:FT):Prop where
 h:oy X ifs (xU K t)
theorem dY{X:Cx}:XF X X.K [] eH:=⟨Cc⟩
theorem hO{X:Cx}{c:Expr}{t:FT}(h:XT X c t):XF X X.K [c] t:=⟨Cb h.h⟩
theorem v9{X:Cx}{sts:List cV}{b:FS}(a c:List Bool)(h:uE X sts b):uE X sts (oX a c b):=⟨y6 a c h.h⟩
section
variable{X:Cx}{pos:Pos}
theorem qK{i:Int}{j}:XE X (.Constant (.int i) j pos) (mC (.int i)):=⟨Gb⟩
theorem d4{b:Bool}{j}:XE X (.Constant (.bool b) j pos) (mC (.bl b)):=⟨Iv⟩
theorem ia{j}:XE X (.Constant .none j pos) (mC .non):=⟨F9⟩
theorem dE{x:Str}{j}:XE X (.Constant (.str x) j pos) (mC (.str x)):=⟨F5⟩
end
section
variable{X:Cx}{pos:Pos}{e:Expr}{es:List Expr}{m:FE}{n:FA}
theorem qN:XA X [] cY:=⟨Ge⟩
theorem qA(h:XE X e m)(ht:XA X es n)(hs:cP (e::es) X.env=(J,eval e X.env)::cP es X.env:=by rfl):XA X (e::es) (cX m n):=⟨Ci (h:=h.h) (ht:=ht.h) (hs:=hs)⟩
end
section
variable{X:Cx}{K:Fg1}{f:FN}{a b:FE}{σ:L2.St}{H:Hp}{Q:VK}
theorem qI{op:Operator}{x y:Expr}{pos:Pos}(ho:fJ X (binaryOp op) (r2 X.K f))(hx:XE X x a)(hy:XE X y b):XE X (.BinOp x op y pos) (m2 f a b):=⟨Iq (ho:=ho) (hx:=hx.h) (hy:=hy.h)⟩
theorem kx{op:UnaryOp}{x:Expr}{pos:Pos}(ho:Hh X (unaryOp op) (λx H Q=>rN X.K f [x] H Q))(hx:XE X x a):XE X (.UnaryOp op x pos) (m1 f a):=⟨Ip (ho:=ho) (hx:=hx.h)⟩
theorem AZ{op:CmpOp}{x y:Expr}{pos:Pos}(ho:fJ X (compareOp op) (r2 X.K f))(hx:XE X x a)(hy:XE X y b)(hm:behindInMarks op y=J):XE X (.Compare x [op] [y] pos) (m2 f a b):=⟨Gc (ho:=ho) (hx:=hx.h) (hy:=hy.h) (hm:=hm)⟩
theorem qJ{x y:Expr}{pos:Pos}(ho:D4 X (r2 X.K f))(hx:XE X x a)(hy:XE X y b)(hs:na y):XE X (.Subscript x y pos) (m2 f a b):=⟨Ir (ho:=ho) (hx:=hx.h) (hy:=hy.h) (hs:=hs)⟩
theorem qD {x:Str}{p pos:Pos}{e:Expr}{es:List Expr}{id:String}{a:FA}(hc:eK X (.builtin id) (rN X.K f))(hg:Gl X x)(hm:X.mg x=Y)(hv:bootBuiltins x=Z (.builtin id))(ha:XA X (e::es) a)(hn:x≠"__name__":=by decide)(hdb:(x == ("__debug__":Str))=J:=by decide)(he:cP (e::es) X.env=(J,eval e X.env)::cP es X.env:=by rfl)(hpl:(backTo pos (cP es X.env)).any (·.1)=J:=by rfl):XE X (.Call (.Name x p) (e::es) [] pos) (mN f a):=⟨zh (hc:=hc) (hg:=hg) (hm:=hm) (hv:=hv) (ha:=ha.h) (hn:=hn) (hdb:=hdb) (he:=he) (hpl:=hpl)⟩
theorem qE {x:Str}{p pos:Pos}{e:Expr}{es:List Expr}{T:String}{a:FA}(hc:eK X (.type T) (rN X.K f))(hg:Gl X x)(hm:X.mg x=Y)(hv:bootBuiltins x=Z (.type T))(ha:XA X (e::es) a)(hn:x≠"__name__":=by decide)(hdb:(x == ("__debug__":Str))=J:=by decide)(he:cP (e::es) X.env=(J,eval e X.env)::cP es X.env:=by rfl)(hpl:(backTo pos (cP es X.env)).any (·.1)=J:=by rfl):XE X (.Call (.Name x p) (e::es) [] pos) (mN f a):=⟨wC (hc:=hc) (hg:=hg) (hm:=hm) (hv:=hv) (ha:=ha.h) (hn:=hn) (hdb:=hdb) (he:=he) (hpl:=hpl)⟩
end
section
variable{X:Cx}{x y c:Expr}{rest:List Expr}{pos:Pos}{a b:FT}{f g:FE}
theorem qX{op:CmpOp}{f:FN}{a b:FE}(ho:fJ X (compareOp op) (r2 X.K f))(hx:XE X x a)(hy:XE X y b)(hm:behindInMarks op y=J):XT X (.Compare x [op] [y] pos) (mB (m2 f a b)):=⟨FP (ho:=ho) (hx:=hx.h) (hy:=hy.h) (hm:=hm)⟩
theorem ek(ha:XT X x a):XW X (.BoolOp .Or [x] pos) a:=⟨FL (ha:=ha.h)⟩
theorem d7(ha:XT X x a)(hb:XW X (.BoolOp .Or (y::rest) pos) b):XW X (.BoolOp .Or (x::y::rest) pos) (iN a b):=⟨Il (ha:=ha.h) (hb:=hb.h)⟩
theorem fC(h:XW X x a):XT X x a:=⟨Ka (h:=h.h)⟩
theorem dn(ha:XT X x a):XT X (.UnaryOp .Not x pos) (eu a):=⟨FM (ha:=ha.h)⟩
theorem eP{op}(h:XE X x f):XE X (.BoolOp op [x] pos) f:=⟨F7 (h:=h.h)⟩
theorem d9(ha:XE X x f)(hb:XE X (.BoolOp .And (y::rest) pos) g):XE X (.BoolOp .And (x::y::rest) pos) (eX f g):=⟨Gd (ha:=ha.h) (hb:=hb.h)⟩
theorem uO(ha:XE X x f):XE X (.UnaryOp .Not x pos) (oY f):=⟨F8 (ha:=ha.h)⟩
theorem Ea(hc:XT X c a)(hx:XE X x f)(hy:XE X y g):XE X (.IfExp c x y pos) (Iw a f g):=⟨Iu (hc:=hc.h) (hx:=hx.h) (hy:=hy.h)⟩
end
section
variable{X:Cx}{x y z:Expr}{pos:Pos}{f g:FN}{a b c:FE}{op op':CmpOp}
theorem lw(ho:fJ X (compareOp op) (r2 X.K f))(ho':fJ X (compareOp op') (r2 X.K g))(hx:XE X x a)(hy:XE X y b)(hz:XE X z c)(hm:lastMarks [op,op'] [y,z]=J:=by with_unfolding_all rfl):XE X (.Compare x [op,op'] [y,z] pos) (ml f g a b c):=⟨zg (ho:=ho) (ho':=ho') (hx:=hx.h) (hy:=hy.h) (hz:=hz.h) (hm:=hm)⟩
theorem iB(ho:fJ X (compareOp op) (r2 X.K f))(ho':fJ X (compareOp op') (r2 X.K g))(hx:XE X x a)(hy:XE X y b)(hz:XE X z c)(hm:lastMarks [op,op'] [y,z]=J:=by with_unfolding_all rfl):XT X (.Compare x [op,op'] [y,z] pos) (mB (ml f g a b c)):=⟨yZ (ho:=ho) (ho':=ho') (hx:=hx.h) (hy:=hy.h) (hz:=hz.h) (hm:=hm)⟩
end
section
variable{X:Cx}{pos:Pos}{e c:Expr}{st:cV}{rest as bs:List cV}{a b:FS}{m:FE}{t:FT}
theorem qQ:uE X [] hI:=⟨B6⟩
theorem qF(h1:XS X st a)(h2:uE X rest b):uE X (st::rest) (di a b):=⟨y9 (h1:=h1.h) (h2:=h2.h)⟩
theorem qG(h1:XS X st a):uE X [st] a:=⟨B5 (h1:=h1.h)⟩
theorem xn(h:XE X e m)(hs:swapsWith e Y pos.line X.env=pure J:=by rfl):XS X (.Expr e pos) (ij m):=⟨B7 (h:=h.h) (hs:=hs)⟩
theorem qU(h:XE X e m):XS X (.Return (Z e) pos) (dB m):=⟨FR (h:=h.h)⟩
theorem qV(hc:XT X c t)(ha:uE X as a)(hb:uE X bs b):XS X (.If c as bs pos) (eh t a b):=⟨Im (hc:=hc.h) (ha:=ha.h) (hb:=hb.h)⟩
end
section
variable{X:Cx}{pos:Pos}
theorem qO(i:Nat){x:Str}(hN:X.N.Nodup)(hi:X.N[i]?=Z x)(hx:uK X.env.scope x)(hf:X.fn x=M\/X.env.scope.names.lookup x=Z .local:=by first|exact .inl rfl|exact .inr rfl|assumption):XG X (.Name x pos) (gN i):=⟨Cf (i:=i) (hN:=hN) (hi:=hi) (hx:=hx) (hf:=hf)⟩
theorem nf:Jt X [] lN:=⟨Ce⟩
theorem ee{e:Expr}{es:List Expr}{g:FG}{a:AR}(h1:XG X e g)(h2:Jt X es a)(hs:(assignEach (e::es) X.env).map (·.2)=assign e X.env::(assignEach es X.env).map (·.2):=by rfl):Jt X (e::es) (gm g a):=⟨zd (h1:=h1.h) (h2:=h2.h) (hs:=hs)⟩
theorem pG{es:List Expr}{k:Nat}{a:AR}{n:Nat}(hc:X.calm=M)(h:Jt X es a)(hn:(assignEach es X.env).length=n:=by rfl)(hst:(assignEach es X.env).findIdx? (·.1)=Y:=by rfl):XG X (.Tuple es k pos) (gT n a):=⟨F1 (hc:=hc) (h:=h.h) (hn:=hn) (hst:=hst)⟩
theorem g7{o i:Expr}{a b:FE}{f:FN}(ho:XE X o a)(hi:XE X i b)(hs:uJ X (rU X.K f))(ha:∀ v,assign (.Subscript o i pos) X.env v=(do
   let ov<-holding [v] (eval o X.env)
   let iv<-holding [v,ov] (eval i X.env)
   standAt pos
   holding [v,ov,iv] (setItem ov iv v)
   release [v,ov,iv] []):=by intro _;rfl):XG X (.Subscript o i pos) (gS f a b):=⟨F2 (ho:=ho.h) (hi:=hi.h) (hs:=hs) (ha:=ha)⟩
theorem qR{tg e:Expr}{m:FE}{g:FG}(he:XE X e m)(hg:XG X tg g)(hs:swapsWithSole [tg] e pos.line X.env=pure J:=by rfl)(hw:swappedStores [tg] e X.env=pure Y:=by rfl)(h1:(assignEach [tg] X.env).map (·.2)=[assign tg X.env]:=by rfl):XS X (.Assign [tg] e pos) (dI m g):=⟨FX (he:=he.h) (hg:=hg.h) (hs:=hs) (hw:=hw) (h1:=h1)⟩
theorem qY(i:Nat){x:Str}{e:Expr}{m:FE}{pos':Pos}(hN:X.N.Nodup)(hi:X.N[i]?=Z x)(hx:uK X.env.scope x)(he:XE X e m)(hs:swapsWith e (Z (.Name x pos')) pos.line X.env=pure J:=by rfl)(hf:X.fn x=M\/X.env.scope.names.lookup x=Z .local:=by first|exact .inl rfl|exact .inr rfl|assumption):XS X (.Assign [.Name x pos'] e pos) (dI m (gN i)):=⟨FQ (i:=i) (hN:=hN) (hi:=hi) (hx:=hx) (he:=he.h) (hs:=hs) (hf:=hf)⟩
theorem AX(i:Nat){x:Str}{e:Expr}{m:FE}{op:Operator}{f:FN}{pos':Pos}(hN:X.N.Nodup)(hi:X.N[i]?=Z x)(hx:uK X.env.scope x)(he:XE X e m)(ho:Jv X op (r2 X.K f))(hf:X.fn x=M\/X.env.scope.names.lookup x=Z .local:=by first|exact .inl rfl|exact .inr rfl|assumption):XS X (.AugAssign (.Name x pos') op e pos) (Cn i f m):=⟨FW (i:=i) (hN:=hN) (hi:=hi) (hx:=hx) (he:=he.h) (ho:=ho) (hf:=hf)⟩
end
section
theorem oM{X:Cx}{pos:Pos}(n:Nat){c:Expr}{a:List cV}{t:FT}{b:FS}(hp:PassesOwn (model X.prog X.w) X.A X.env X.xe)(hc:XT X c t)(hb:uE X a b):XS X (.While c a [] pos) (wd t b n):=⟨za (n:=n) (hp:=hp) (hc:=hc.h) (hb:=hb.h)⟩
theorem qW{X:Cx}{pos:Pos}{tg iter:Expr}{a:List cV}{m:FI}{g:FG}{b:FS}(hp:PassesOwn (model X.prog X.w) X.A X.env X.xe)(hc:X.calm=M)(hi:XI X tg iter m)(hg:XG X tg g)(hb:uE X a b)(hs:∀x,foldedSetIterable iter X.env x=pure x:=by intro _;rfl):XS X (.For tg iter a [] pos) (ga m g b):=⟨FU (hp:=hp) (hc:=hc) (hi:=hi.h) (hg:=hg.h) (hb:=hb.h) (hs:=hs)⟩
end
section
variable{X:Cx}{es:List Expr}{pos:Pos}{a:FA}
theorem df{x1}(h:XA X es a):XE X (.Tuple es x1 pos) (dz a):=⟨F4 (h:=h.h)⟩
theorem dw(h:XA X es a):XE X (.List es pos) (et a):=⟨Ga (h:=h.h)⟩
end
section
variable{X:Cx}{tg:Expr}
theorem qd{e:Expr}{m:FE}(h:XE X e m):XI X tg e (gb m):=⟨F0 (h:=h.h)⟩
theorem tm {a:Expr}{m:FA}{p pos:Pos}(hg:Gl X "range")(hm:X.mg "range"=Y)(ha:XA X [a] m)(hs:cP [a] X.env=[(J,eval a X.env)]:=by rfl):XI X tg (.Call (.Name "range" p) [a] [] pos) (mZ m):=⟨wA (hg:=hg) (hm:=hm) (ha:=ha.h) (hs:=hs)⟩
theorem tj {a b:Expr}{m:FA}{p pos:Pos}(hg:Gl X "range")(hm:X.mg "range"=Y)(ha:XA X [a,b] m)(hs:cP [a,b] X.env=[(J,eval a X.env),(J,eval b X.env)]:=by rfl)(hs2:cP [b] X.env=[(J,eval b X.env)]:=by rfl):XI X tg (.Call (.Name "range" p) [a,b] [] pos) (IG m):=⟨wz (hg:=hg) (hm:=hm) (ha:=ha.h) (hs:=hs) (hs2:=hs2)⟩
end
section
variable{X:Cx}{tg:Expr}
variable{elts:List Expr}{k:Nat}{tpos:Pos}
theorem xp {a:Expr}{m:FA}{p pos:Pos}(hg:Gl X "enumerate")(hm:X.mg "enumerate"=Y)(ha:XA X [a] m)(hs:cP [a] X.env=[(J,eval a X.env)]:=by rfl):XI X (.Tuple elts k tpos) (.Call (.Name "enumerate" p) [a] [] pos) (vE m):=⟨Cd (hg:=hg) (hm:=hm) (ha:=ha.h) (hs:=hs)⟩
end
section
variable{X:Cx}{ag:List (cJ×Obj)}{σ:L2.St}{H:Hp}{s:cI}{mu:List cJ}{S:Sto}{K:Fg1}
theorem tt (T:Ty){e:Expr}{m:FE}{nm:Str}{p p2 pos:Pos}(hg:Gl X "isinstance")(hm:X.mg "isinstance"=Y)(hg2:Gl X nm)(hm2:X.mg nm=Y)(hv2:bootBuiltins nm=Z (.type T.nm))(h:XE X e m)(hn:nm≠"__name__":=by decide)(hd:(nm == ("__debug__":Str))=J:=by decide)(hs1:cP [e,.Name nm p2] X.env=(J,eval e X.env)::cP [.Name nm p2] X.env:=by rfl)(hs2:cP [.Name nm p2] X.env=(J,eval (.Name nm p2) X.env)::cP [] X.env:=by rfl)(hpl:(backTo pos (cP [.Name nm p2] X.env)).any (·.1)=J:=by rfl):XE X (.Call (.Name "isinstance" p) [e,.Name nm p2] [] pos) (d8 T m):=⟨wB (T:=T) (hg:=hg) (hm:=hm) (hg2:=hg2) (hm2:=hm2) (hv2:=hv2) (h:=h.h) (hn:=hn) (hd:=hd) (hs1:=hs1) (hs2:=hs2) (hpl:=hpl)⟩
end
section
variable{X:Cx}
theorem eB:XO X Y eF:=⟨Ca⟩
theorem eA{e:Expr}{m:FE}(h:XE X e m):XO X (Z e) (eE m):=⟨B9 (h:=h.h)⟩
theorem qe {o e:Expr}{es:List Expr}{m:FE}{a:FA}{f:FN}{name:Str}{apos cpos:Pos}{id:String}(slot:Slot "list" name id)(hty:typeOf (.builtin id)=pure (.type "method_descriptor"))(hm:He X id (λx xs H Q=>rN X.K f (x::xs) H Q))(ho:XE X o m)(ha:XA X (e::es) a)(hbase:attributeBase o name X.env (eval o X.env)=eval o X.env:=by rfl)(hfew:((backTo cpos (cP (e::es) X.env)).all (λx=> !x.1)&&(backToKw cpos (keywordEach [] X.env)).all (λx=>x.1.isSome)&&decide ((e::es).length+([]:List Keyword).length+(if([]:List Keyword).isEmpty then 0 else 1)<30))=M:=by rfl)(hline:(apos.endLine == cpos.line)=M:=by rfl)(hs:cP (e::es) X.env=(J,eval e X.env)::cP es X.env:=by rfl)(hplain:(backTo cpos (cP es X.env)).any (·.1)=J:=by rfl):XE X (.Call (.Attribute o name apos) (e::es) [] cpos) (vq f m a):=⟨zf (slot:=slot) (hty:=hty) (hm:=hm) (ho:=ho.h) (ha:=ha.h) (hbase:=hbase) (hfew:=hfew) (hline:=hline) (hs:=hs) (hplain:=hplain)⟩
theorem La (i:Nat){x:Str}{pos:Pos}(hN:X.N[i]?=Z x:=by rfl)(hv:Vis X.env.scope x:=by first|exact Or.inl rfl|exact Or.inr (Or.inl rfl)|exact Or.inr (Or.inr rfl))(hd:(x == ("__debug__":Str))=J:=by decide)(hcd:(x == ("__classdict__":Str))=J:=by decide):XE X (.Name x pos) (mV i):=⟨mv (i:=i) (hN:=hN) (hv:=hv) (hd:=hd) (hcd:=hcd)⟩
end
section
theorem qH {X:Cx}{k k' n:Nat}{x:Str}{m:FN}{p pos:Pos}{e:Expr}{es:List Expr}{a:FA}(h:Own X.prog X.w X.K X.mg X.base k x n m)(hr:gf k' X.A)(hk:k<=k')(hg:Gl X x)(ha:XA X (e::es) a)(hdb:(x == ("__debug__":Str))=J:=by decide)(he:cP (e::es) X.env=(J,eval e X.env)::cP es X.env:=by rfl)(hpl:(backTo pos (cP es X.env)).any (·.1)=J:=by rfl):XE X (.Call (.Name x p) (e::es) [] pos) (mN (c9 n m) a):=⟨F6 (h:=h) (hr:=hr) (hk:=hk) (hg:=hg) (ha:=ha.h) (hdb:=hdb) (he:=he) (hpl:=hpl)⟩
theorem gg {X:Cx}{x:Str}{d:D}{pos:Pos}(h:CGl X.K X.mg x d)(hg:Gl X x)(hd:(x == ("__debug__":Str))=J:=by decide):XE X (.Name x pos) (mC d):=⟨Cg (h:=h) (hg:=hg) (hd:=hd)⟩
end
section
variable{X:Cx}
structure Ko (X:Cx)(K:Fg1)(tg:Expr)(ifs:List Expr)(elt:Expr)(g:FG)(t:FT)(e:FE):Prop where
 g:XG X tg g
 t:XF X K ifs t
 e:XE X elt e
structure LH (X:Cx)(K:Fg1)(tg:Expr)(ifs:List Expr)(tg2 iter2:Expr)(ifs2:List Expr)(elt:Expr)(g:FG)(t:FT)(m2:FI)(g2:FG)(t2:FT)(e:FE):Prop where
 g:XG X tg g
 t:XF X K ifs t
 i2:XI X tg2 iter2 m2
 g2:XG X tg2 g2
 t2:XF X K ifs2 t2
 e:XE X elt e
end
theorem uL{P:cK}{w:cN}{K:Fg1}{mg:Str->Option cH}{base:cT}{x c:Str}{st:cV}{f:cJ}{fd:cU}{N ps:List Str}{k n:Nat}{b:FS}(F:v8 K x c st f fd)(hb:jP K fd ps [])(hm:mg x=some (.ref f))(S:gH N ps (dA st))(hn:ps.length=n)(e:∀(d:cH) (A:cM) (a:List Env) (s:cI) (H:Hp) (E:XK),gf k (A.deeper (envOfC c (dA st) s.heap.objs.size f d)) ->
   uE (mO sT P w K mg base N c (dA st) f d A a s H E).nox (fg st) b):Own P w K mg base (k+1) x n (gC N.length b):=
 Fn F hb hm S hn λd A a s H E g=>(e d A a s H E g).h
theorem Eb{P:cK}{w:cN}{K:Fg1}{mg:Str->Option cH}{base:cT}{x c:Str}{st:cV}{f:cJ}{fd:cU}{N ps:List Str}{k n:Nat}{b:FS}(F:v8 K x c st f fd)(S:gH N ps (dA st))(hn:ps.length=n)(e:∀(d:cH) (A:cM) (a:List Env) (s:cI) (H:Hp) (E:XK),gf k (A.deeper (envOfC c (dA st) s.heap.objs.size f d)) ->
   uE (mO sT P w K mg base N c (dA st) f d A a s H E).nox (fg st) b):lY P w K mg base sT (k+1) f fd ps (spM K n (gC N.length b)):=by
 subst hn;exact IM F S λd A a s H E g=>(e d A a s H E g).h
abbrev FV:=Ev->Sto->Option (List D×Ev×Sto)
noncomputable def fz (c:List (Nat×List D))(g:FG)(t:FT)(b:FV):List D->FV
 |[]=>λr S=>if qS S c=true then some ([],r,S)else none
 |d::ds=>λr S=>if qS S c=true then(g d r S).bind λp=>(t p.1 p.2).bind λk=>if k.1=true then(b p.1 k.2).bind λq=>(fz c g t b ds q.2.1 q.2.2).map λz=>(q.1++z.1,z.2)else fz c g t b ds p.1 k.2 else none
noncomputable def dV (m:FE):FV:=λr S=>(m r S).map λq=>([q.1],r,q.2)
def sy(m:FI)(g:FG)(t:FT)(b:FV):FV:=λr S=>(m r S).bind λp=>fz p.1.chk g t b p.1.items r p.2
noncomputable def d6 (k:Nat)(keep:List Nat)(m:FI)(g:FG)(t:FT)(b:FV):FE:=λr S=>(m r S).bind λp=>
 (fz p.1.chk g t b p.1.items (uk k keep r) p.2).bind λq=>if q.1.length<=cQ then some (.ref q.2.2.length,q.2.2++[.lst q.1])else none
section
variable{K:Fg1}{H H' H1:Hp}{mu mu' mu1:List cJ}{S:Sto}{a:cJ}
theorem Ext.aside(x:Ext mu mu' H H'):Ext (a::mu) (a::mu') H H' where
 pre:=bQ.mpr ⟨O,x.pre⟩
 old:=λb o h n=>x.old b o h λz=>n (mC1 _ z)
 tup:=x.tup
 frz:=x.frz
 new:=λb h=>by
  rcases aD.mp h with h|h
  ·exact .inl (by rw[h];exact mS1)
  ·rcases x.new b h with q|q
   ·exact .inl (mC1 _ q)
   ·exact .inr q
theorem Ext.inner(x:Ext (a::mu) (a::mu') H H'):qT mu mu' H H':=⟨(bQ.mp x.pre).2,x.tup,x.frz⟩
theorem Ext.held{o:HO}(x:Ext mu mu' H H')(ha:H a=Z o)(hn:a∉mu):H' a=Z o/\a∉mu':=by
 refine⟨x.old a o ha hn,λz=>?_⟩;rcases x.new a z with q|q
 ·exact hn q
 ·rw[ha]at q;cases q
theorem fy.exw{r:Ev}{σ:L2.St}(e:qT mu mu' H H')(h:fy K H mu r σ):fy K H' mu' r σ:=⟨h.len,λi d q=>by
 obtain⟨v,a,b⟩:=h.val i d q;exact⟨v,a,b.exw e⟩⟩
theorem oB.exw{b:cJ}(e:qT mu mu' H H')(h:∀o,H b=Z o->H' b=Z o):∀{o:Ob},oB K H mu b o->oB K H' mu' b o
 | .lst _,⟨vs,q,r⟩=>⟨vs,h _ q,r.exw e⟩
 | .dct _,⟨ws,q,r⟩=>⟨ws,h _ q,Paired.mapP r λ_ _ z=>⟨z.1,z.2.exw e⟩⟩
 | .dcT _,⟨ws,q,r,l⟩=>⟨ws,h _ q,Paired.mapP r λ_ _ ⟨z,d,k,v,a,r⟩=>⟨z,d,k.exw e,v,a,r.exw e⟩,l⟩
 | .iset _,q=>⟨h _ q.1,q.2⟩
 | .dcF _,⟨ws,⟨o,u,f,c⟩,r,l⟩=>⟨ws,⟨o,u,h _ f,c⟩,Paired.mapP r λ_ _ ⟨z,d,k,v,a,r⟩=>⟨z,d,k.exw e,v,a,r.exw e⟩,l⟩
 | .tst _,⟨ws,q,r⟩=>⟨ws,h _ q,Paired.mapP r λ_ _ ⟨z,d,k,v,a,r⟩=>⟨z,d,k.exw e,v,a,r.exw e⟩⟩
theorem Sim.aside{u:HO}(s:Sim K H mu S)(e:qT mu mu H (upd H a u))(hn:a∉mu):Sim K (upd H a u) mu S:=
 ⟨s.len,s.nd,λk o b h1 h2=>(s.ob k o b h1 h2).exw e λo' q=>by rw[dD (λz=>hn (by rw[<- z];exact gM1 h2))];exact q⟩
end
inductive Hf (K:Fg1)(a:cJ)(m:FV)(E:js)(σ:L2.St)(H:Hp):Prop
 |mk (r:Ev) (mu:List cJ) (S:Sto) (acc:List D) (vs:List V) (xs:List D) (r':Ev) (S':Sto):H a=some (.lst vs)->a∉mu->dk K H mu acc vs->fy K H mu r σ->Sim K H mu S->m r S=some (xs,r',S')->vs.length+xs.length<=cQ ->
 (∀ σ' H' mu' vs',Ext (a::mu) (a::mu') H H'->H' a=some (.lst vs')->a∉mu'->dk K H' mu' (acc++xs) vs'->fy K H' mu' r' σ'->Sim K H' mu' S'->E.nx σ' H')->Hf K a m E σ H
theorem nZ{K:Fg1}{a:cJ}{m:FE}{E:js}{σ:L2.St}{H:Hp}(h:Hf K a (dV m) E σ H):rg a (tM K m) E σ H:=by
 obtain⟨r,mu,S,l,vs,xs,w,u,q,f,k,i,j,g,t,hc⟩:=h;obtain⟨⟨d,n⟩,p,g⟩:=oM1.mp g;cases g;refine⟨r,mu,S,d,n,i,j,p,λv H1 mu1 e o s=>?_⟩;obtain⟨c,b⟩:=e.held q f;have put:Ext (a::mu1) (a::mu1) H1 (upd H1 a (.lst (vs++[v]))):=Ext.put c trivial mS1;refine⟨vs,c,t,?_⟩;exact hc σ _ mu1 (vs++[v]) (e.aside.trans put) dZ b (((k.ext e).append (.cons o .nil)).exw put.inner) ((i.ext e).exw put.inner) (s.aside put.inner b)
inductive Kt (K:Fg1)(a:cJ)(mu2:List cJ)(H:Hp)(c:List (Nat×List D))(g:FG)(t:FT)(b:FV)(r':Ev)(S':Sto)(tot:List D)(L:List D)(σ':L2.St)(H':Hp):Prop
 |mk (r3:Ev) (mu3:List cJ) (S3:Sto) (acc3:List D) (vs3:List V) (xs3:List D):Ext (a::mu2) (a::mu3) H H'->H' a=some (.lst vs3)->a∉mu3->dk K H' mu3 acc3 vs3->fy K H' mu3 r3 σ'->Sim K H' mu3 S3->fz c g t b L r3 S3=some (xs3,r',S')->acc3++xs3=tot->vs3.length+xs3.length<=cQ->Kt K a mu2 H c g t b r' S' tot L σ' H'
theorem r4{K:Fg1}{a:cJ}{j:It}{am:AO}{g:FG}{t:FT}{b:FV}{tb:TS}{D:js}(hb:∀ E σ H,Hf K a b E σ H->tb E σ H){mu1 e:List cJ}{H1 H:Hp}{r I:Ev}{S L:Sto}{σ:L2.St}{acc xs:List Mi.D}{vs:List V}(hJ:Ku K j am mu1 H1)(x:qT mu1 e H1 H)(ha:H a=Z (.lst vs))(hna:a∉e)(hr:dk K H e acc vs)(he:fy K H e r σ)(hs:Sim K H e S)(hm:fz am.chk g t b am.items r S=Z (xs,I,L))(hl:vs.length+xs.length<=cQ)(hc:∀l H' mu' z,Ext (a::e) (a::mu') H H'->H' a=Z (.lst z)->a∉mu'->dk K H' mu' (acc++xs) z->fy K H' mu' I l->Sim K H' mu' L->D.nx l H'):xV j (Et K g) (xU K t) tb D σ H:=by
 refine⟨λi k l H'=>k=(am.items.drop i).length/\Kt K a e H am.chk g t b I L (acc++xs) (am.items.drop i) l H',
  ⟨_,O,r,e,S,acc,vs,xs,.refl _ _,ha,hna,hr,he,hs,hm,O,hl⟩,?_⟩
 rintro i k ao W ⟨rfl,r3,m,S3,f,vs3,ar,x3,w,F,A,s,aq,c,o,h⟩;cases hd0:am.items.drop i with
 |nil=>
  left;rw[hd0,fz]at c;dsimp only at c;split at c
  ·rename_i ok;cases c;refine⟨(hJ i W m _ (x.trans x3.inner) aq ok).2 (List.drop_eq_nil_iff.mp hd0),hc ao W m vs3 x3 w F ?_ s aq⟩;rw[<- o,aK];exact A
  ·cases c
 |cons d ds=>
  right;rw[hd0]at c;obtain⟨hi,hd⟩:=mn hd0;rw[fz]at c;dsimp only at c;split at c
  ·rename_i ok;obtain⟨⟨G,S4⟩,e4,c⟩:=oB1.mp c;obtain⟨⟨k5,S5⟩,e5,c⟩:=oB1.mp c;obtain⟨go,yl⟩:=(hJ i W m _ (x.trans x3.inner) aq ok).1 d hi;refine⟨go,Kt K a e H am.chk g t b I L (acc++xs) ds,?_,λy H4 yy=>?_⟩
   ·intro l H' h6;exact⟨ds.length,bB _,(congrArg List.length hd).symm,hd.symm ▸ h6⟩
   ·obtain⟨x4,s4,q4⟩:=yl y H4 yy;obtain⟨U,Q⟩:=x4.held w F;refine⟨r3,m,S3,d,G,S4,s.ext x4,s4,q4,e4,fun σ5 H5 X R n s5=>?_⟩;obtain⟨ha5,T⟩:=R.held U Q;refine⟨G,X,S4,k5,S5,n,s5,e5,λH6 q B s6=>?_⟩;obtain⟨u,C⟩:=B.held ha5 T;have xx:=((x3.trans x4.aside).trans R.aside).trans B.aside;have p:dk K H6 q f vs3:=((A.ext x4).ext R).ext B;cases k5 with
    |true=>
     obtain⟨⟨q1,r7,S7⟩,e7,c⟩:=oB1.mp c;obtain⟨⟨z1,r8,S8⟩,e8,c⟩:=oM1.mp c;cases c;refine hb _ _ _ ⟨G,q,S5,f,vs3,q1,r7,S7,u,C,p,n.ext B,s6,e7,?_,fun σ8 H8 wq N x8 ha8 P v he8 s8=>⟨r7,wq,S7,f++q1,N,z1,xx.trans x8,ha8,P,v,he8,s8,e8,?_,?_⟩⟩
     ·rw[lA1]at h;dsimp only at h;lia
     ·rw[<- o,aW]
     ·have:=v.length;have h3:=p.length;rw[lA1]at this h;dsimp only at h;lia
    |false=>exact⟨G,q,S5,f,vs3,ar,xx,u,C,p,n.ext B,s6,c,o,h⟩
  ·cases c
theorem yT{K:Fg1}{a:cJ}{m:FI}{g:FG}{t:FT}{b:FV}{tb:TS}(hb:∀E σ H,Hf K a b E σ H->tb E σ H){E:js}{σ:L2.St}{H:Hp}(h:Hf K a (sy m g t b) E σ H):xT (Hx K m) (Et K g) (xU K t) tb E σ H:=by
 obtain⟨r,mu,S,p,vs,xs,A,B,w,f,o,n,s,i,v,hc⟩:=h;obtain⟨⟨am,q⟩,u,i⟩:=oB1.mp i;refine⟨r,mu,S,am,q,n,s,u,λj H1 mu1 c x z=>?_⟩;obtain⟨e,d⟩:=c.held w f;exact r4 hb x (Ext.refl _ _).w e d (o.ext c) (n.ext c) z i v λl H' mu' k y=>hc l H' mu' k (c.aside.trans y)
theorem n4{K:Fg1}{k:Nat}{keep:List Nat}{m:FI}{g:FG}{t:FT}{b:FV}{tb:cJ->TS}(hb:∀ a E σ H,Hf K a b E σ H->tb a E σ H){σ:L2.St}{H:Hp}{Q:VK}(h:tM K (d6 k keep m g t b) σ H Q):
  xW k keep (Hx K m) (Et K g) (xU K t) tb σ H Q:=by
 obtain⟨r,mu,S,d,aq,F,P,f,hc⟩:=h;obtain⟨⟨am,ar⟩,T,f⟩:=oB1.mp f;obtain⟨⟨xs,r2,I⟩,U,f⟩:=oB1.mp f;dsimp only at f;split at f
 ·rename_i V;cases f;refine ⟨r,mu,S,am,ar,F,P,T,fun j H1 mu1 ao W N p i=>?_⟩;have w:Ext mu1 mu1 H1 (upd H1 p (.lst [])):=Ext.fresh i;refine r4 (hb p) W w.w dZ (N.notin i) .nil ((ID k keep (F.ext ao)).ext w) (N.fresh i) U (by simpa using V) fun X H' mu' l v A x B R s'=>?_;have y:Ext mu1 (mu'++[p]) H1 H':=by
   refine⟨((bQ.mp v.pre).2).trans (bv _ _),λb o e n=>?_,λb ys e=>v.tup b ys (w.tup b ys e),λb o u e=>v.frz b o u (w.frz b o u e),λb D=>?_⟩
   ·have G:b≠p:=d2 e i;exact v.old b o (by rw [dD G];exact e) fun z=>by
     rcases aD.mp z with z|z
     ·exact G z
     ·exact n z
   ·rcases aE.mp D with z|z
    ·rcases v.new b (mC1 _ z)with q|q
     ·rcases aD.mp q with q|q
      ·exact .inr (by rw[q];exact i)
      ·exact .inl q
     ·by_cases s:b=p
      ·exact .inr (by rw[s];exact i)
      ·rw[dD s]at q;exact .inr q
    ·have:b=p:=by simpa using z
     exact .inr (by rw[this];exact i)
  refine hc _ H' (mu'++[p]) (ao.trans y) (.ref (g4 s'.len p)) ⟨by rw[lA1,lA1,s'.len];rfl,?_,λn o b h1 h2=>?_⟩
  ·rw[bx];refine⟨s'.nd,by simp,λb hb c hc e=>?_⟩;have:c=p:=by simpa using hc
   subst this;subst e;exact x hb
  ·by_cases L:n<I.length
   ·rw[gL1 L]at h1;rw[gL1 (by rw[s'.len];exact L)]at h2;exact(s'.ob n o b h1 h2).mor [p]
   ·have C:n=I.length:=by
     have:=(gE1.mp h1).1;rw[lA1]at this;simp at this;lia
    subst C;rw[gR1 (nR1 _)]at h1;rw[<- s'.len,gR1 (nR1 _)]at h2;simp at h1 h2;subst h1;subst h2;exact⟨l,A,(by simpa using B:dk K H' mu' xs l).mor [p]⟩
 ·cases f
section
variable{X:Cx}
theorem qZ{elt tg iter:Expr}{ifs:List Expr}{scope:cW}{pos:Pos}{T:List Str}{keep:List Nat}{i:List (Str×cJ)}{m:FI}{g:FG}{t:FT}{e:FE}(hc:X.calm=M)(C:Hi X scope T keep)(d:jJ X.env.cells scope.names []=Z i)(hi:XI X tg iter m)(hb:∀s H b,Ko (cxC X scope i T keep s H b) X.K tg ifs elt g t e)(hs:∀x,foldedSetIterable iter X.env x=pure x:=by intro _;rfl):XE X (.ListComp elt [⟨tg,iter,ifs,0⟩] scope pos) (d6 T.length keep m g t (dV e)):=
 ⟨eo (u8 (emit:=n0 elt) (tb:=λp=>rg p (tM X.K e)) hc (λit f c=>xJ elt tg iter ifs scope pos it f c) C d hi.h (λs H b p=>⟨(hb s H b).g.h,(hb s H b).t.h,pS (hb s H b).e.h p⟩) hs)
  fun σ H Q h=>n4 (λa E σ H q=>nZ q) h⟩
theorem wc{elt tg iter tg2 iter2:Expr}{ifs ifs2:List Expr}{scope:cW}{pos:Pos}{T:List Str}{keep:List Nat}{i:List (Str×cJ)}{m m2:FI}{g k:FG}{t j:FT}{e:FE}(hc:X.calm=true)(C:Hi X scope T keep)(d:jJ X.env.cells scope.names []=some i)(hi:XI X tg iter m)(hb:∀s H b,LH (cxC X scope i T keep s H b) X.K tg ifs tg2 iter2 ifs2 elt g t m2 k j e)(hs:∀x,foldedSetIterable iter X.env x=pure x:=by intro _;rfl)(hs2:∀c x,foldedSetIterable iter2 c x=pure x:=by intro _ _;rfl):
  XE X (.ListComp elt [⟨tg,iter,ifs,0⟩,⟨tg2,iter2,ifs2,0⟩] scope pos) (d6 T.length keep m g t (sy m2 k j (dV e))):=
 ⟨eo (u8 (emit:=pq (.ListComp elt [⟨tg,iter,ifs,0⟩,⟨tg2,iter2,ifs2,0⟩] scope pos) iter2) (tb:=fun p=>xT (Hx X.K m2) (Et X.K k) (xU X.K j) (rg p (tM X.K e))) hc (fun it f c=>Em elt tg iter tg2 iter2 ifs ifs2 scope pos it f c) C d hi.h
   (λs H b p=>⟨(hb s H b).g.h,(hb s H b).t.h,Bw (X:=cxC X scope i T keep s H b) O hc (hb s H b).i2.h (hb s H b).g2.h (hb s H b).t2.h (pS (hb s H b).e.h p) (hs2 _)⟩) hs)
  fun σ H Q h=>n4 (λa E σ H q=>yT (λ_ _ _ z=>nZ z) q) h⟩
theorem iC{elt tg iter:Expr}{ifs:List Expr}{scope:cW}{pos b l:Pos}{y:Str}(i:Nat){T:List Str}{keep:List Nat}{n:List (Str×cJ)}{m:FI}{g:FG}{t:FT}{e:FE}(hc:X.calm=M)(C:Hi X scope T keep)(f:jJ X.env.cells scope.names []=Z n)(hi:XI X tg iter m)(hb:∀s H c,Ko (cxC X scope n T keep s H c) X.K tg ifs elt g t e)(hN:X.N.Nodup)(hy:X.N[i]?=Z y)(hx:uK X.env.scope y)(k:swapsWith (.ListComp elt [⟨tg,iter,ifs,0⟩] scope pos) (Z (.Name y l)) b.line X.env=pure M:=by rfl)(hf:X.fn y=M\/X.env.scope.names.lookup y=Z .local:=by first|exact .inl rfl|exact .inr rfl|assumption)(hs:∀x,foldedSetIterable iter X.env x=pure x:=by intro _;rfl):XS X (.Assign [.Name y l] (.ListComp elt [⟨tg,iter,ifs,0⟩] scope pos) b) (dI (d6 T.length keep m g t (dV e)) (gN i)):=
 ⟨iy (BB (emit:=n0 elt) (tb:=λp=>rg p (tM X.K e)) hc k (λit j d=>xJ elt tg iter ifs scope pos it j d) C f hi.h (λs H c p=>⟨(hb s H c).g.h,(hb s H c).t.h,pS (hb s H c).e.h p⟩) hN hy hx hf hs)
  λE σ H h=>GZ (fun σ H Q q=>n4 (λa E σ H q=>nZ q) q) h⟩
end
def nQ:D->Option Key
 | .int i=>Z (.inl i)
 | .str x=>Z (.inr x)
 |_=>Y
def dy{κ:Type}[DecidableEq κ](kvs:List (κ×D))(k:κ):Option D:=(kvs.find? λp=>decide (p.1=k)).map (·.2)
def gQ{κ:Type}[DecidableEq κ](kvs:List (κ×D))(k:κ)(d:D):List (κ×D):=
 if(kvs.any λp=>decide (p.1=k))=M then kvs.map (λp=>if p.1=k then(p.1,d)else p)else kvs++[(k,d)]
section
variable{K:Fg1}{H:Hp}{mu:List cJ}
theorem jU{d:D}{v:V}{k:Key}(r:ez K H mu d v)(h:nQ d=Z k):v=kV k:=by
 cases r with
 |int i=>cases h;rfl
 |str x=>cases h;rfl
 |_=>cases h
end
section
variable{κ:Type} [DecidableEq κ] {K:Fg1}{H:Hp}{mu:List cJ}
theorem KR.length:∀{ks:List (κ×D)} {ws:List (κ×V)},KR K H mu ks ws->ks.length=ws.length:=λh=>Paired.length h
theorem KR.look{k:κ}:∀ {ks:List (κ×D)} {ws:List (κ×V)},KR K H mu ks ws ->
  (∀d,dy ks k=Z d -> ∃v,iV ws k=Z v/\ez K H mu d v)/\(dy ks k=Y->iV ws k=Y):=by
 intro ks ws h
 induction h with
 |nil=>exact⟨λd h=>by simp[dy]at h,λ_=>rfl⟩
 | @cons p q ks ws r t ih=>
  obtain⟨b,c⟩:=p;obtain⟨j,f⟩:=q;obtain⟨e,r⟩:=r;dsimp only at e r;subst e;obtain⟨h1,h2⟩:=ih;by_cases a:b=k
  ·subst a;refine⟨λd h=>?_,λh=>?_⟩
   ·have:c=d:=by simpa[dy]using h
    subst this;exact⟨f,by simp[iV],r⟩
   ·simp[dy]at h
  ·have g:dy ((b,c)::ks) k=dy ks k:=by simp[dy,bb,a]
   have i:iV ((b,f)::ws) k=iV ws k:=by simp[iV,bb,a]
   rw[g,i];exact⟨h1,h2⟩
theorem KR.any{k:κ}:∀{ks:List (κ×D)} {ws:List (κ×V)},KR K H mu ks ws->(ks.any λp=>decide (p.1=k))=ws.any λp=>decide (p.1=k):=by
 intro ks ws h
 induction h with
 |nil=>rfl
 |cons r t ih=>rw[bc,bc,ih,r.1]
theorem KR.repl{k:κ}{d:D}{v:V}(q:ez K H mu d v):∀ {ks:List (κ×D)} {ws:List (κ×V)},KR K H mu ks ws ->
  KR K H mu (ks.map λp=>if p.1=k then(p.1,d)else p) (ws.map λp=>if p.1=k then(p.1,v)else p):=by
 intro ks ws h
 induction h with
 |nil=>exact .nil
 | @cons a b ks ws r t ih=>
  refine .cons ?_ ih;obtain⟨e,r⟩:=r;dsimp only;by_cases h:a.1=k
  ·rw[ak h,ak (e ▸ h)];exact⟨e,q⟩
  ·rw[aj h,aj (e ▸ h)];exact⟨e,r⟩
theorem KR.snoc{k:κ}{d:D}{v:V}(q:ez K H mu d v):∀{ks:List (κ×D)} {ws:List (κ×V)},KR K H mu ks ws->KR K H mu (ks++[(k,d)]) (ws++[(k,v)]):=by
 intro ks ws h
 induction h with
 |nil=>exact .cons ⟨O,q⟩ .nil
 |cons r t ih=>exact .cons r ih
theorem KR.put{k:κ}{d:D}{v:V}(q:ez K H mu d v){ks:List (κ×D)}{ws:List (κ×V)}(h:KR K H mu ks ws):KR K H mu (gQ ks k d) (iK ws k v):=by
 unfold gQ iK;rw[h.any];split
 ·exact h.repl q
 ·exact h.snoc q
end
def wO:G2:=λd e S=>match e with
 | .ref n=>match S[n]? with
  |some (.dct kvs)=>(nQ d).map λk=>(.bl (dy kvs k).isSome,S)
  |_=>IJ d e S
 |_=>IJ d e S
def i4:G2:=λd e S=>match e with
 | .ref n=>match S[n]? with
  |some (.dct kvs)=>(nQ d).map λk=>(.bl (!(dy kvs k).isSome),S)
  |_=>nV d e S
 |_=>nV d e S
def mK:G2:=λd e S=>match d with
 | .ref n=>match S[n]? with
  |some (.dct kvs)=>(nQ e).bind λk=>(dy kvs k).map λx=>(x,S)
  |_=>xi d e S
 |_=>xi d e S
def jH:G3:=λo i v S=>match o with
 | .ref n=>match S[n]? with
  |some (.dct kvs)=>(nQ i).bind λk=>if kvs.length<cQ then Z (.non,S.set n (.dct (gQ kvs k v)))else Y
  |_=>jI o i v S
 |_=>jI o i v S
section
variable{X:Cx}
theorem lb{K:Fg1}{H:Hp}{mu:List cJ}{S:Sto}(hs:Sim K H mu S){n:Nat}{a:cJ}{kvs:List (Key×D)}{k:Key}{y:V}(hn:mu[n]? = some a)(he:S[n]? = some (.dct kvs))(hy:y=kV k):
  ∃o:Option V,mQ H a y o/\(∀d,dy kvs k=Z d -> ∃v,o=Z v/\ez K H mu d v)/\(dy kvs k=Y->o=Y)/\o.isSome=(dy kvs k).isSome:=by
 obtain⟨ws,f,c⟩:=hs.dct he hn;subst hy;obtain⟨h1,h2⟩:=c.look (k:=k);refine⟨iV ws k,mQ.k f,h1,h2,?_⟩;cases e:dy kvs k with
 |none=>rw[h2 e];rfl
 |some d=>obtain⟨v,b,_⟩:=h1 d e;rw[b];rfl
theorem Ii(t:X.A.units+64<cLine):fJ X (compareOp .In) (r2 X.K (b2 wO)):=by
 intro ag s σ H x y u w Q I l f h;obtain⟨mu,S,d,e,r,j,i,b,c,a,hc⟩:=oR h;have back:IJ d e S=Z (r,j)->cR (model X.prog X.w) X.A (compareOp .In u w) (EP X ag σ Q) X.xe s:=λa=>J7 t ag s σ H x y u w Q I l f ⟨mu,S,[d,e],r,j,.cons i (.cons b .nil),c,a,hc⟩;unfold wO at a;split at a
 ·rename_i n;split at a
  ·rename_i kvs v;obtain⟨k,q,a⟩:=oM1.mp a;cases a;cases b with
   |ref p=>
    cases f;obtain⟨o,g,_,_,hi⟩:=lb c p v (jU i q);exact Kk (by lia) I g l λs' m=>⟨.bl o.isSome,H,m,O,by rw[hi];exact hc.now (.bl _) c⟩
  ·exact back a
 ·exact back a
theorem yL(t:X.A.units+64<cLine):fJ X (compareOp .NotIn) (r2 X.K (b2 i4)):=by
 intro ag s σ H x y u w Q I l f h;obtain⟨mu,S,d,e,r,j,i,b,c,a,hc⟩:=oR h;have back:nV d e S=Z (r,j)->cR (model X.prog X.w) X.A (compareOp .NotIn u w) (EP X ag σ Q) X.xe s:=λa=>BX t ag s σ H x y u w Q I l f ⟨mu,S,[d,e],r,j,.cons i (.cons b .nil),c,a,hc⟩;unfold i4 at a;split at a
 ·rename_i n;split at a
  ·rename_i kvs v;obtain⟨k,q,a⟩:=oM1.mp a;cases a;cases b with
   |ref p=>
    cases f;obtain⟨o,g,_,_,hi⟩:=lb c p v (jU i q);exact C3 (by lia) I g l λs' m=>⟨.bl (!o.isSome),H,m,O,by rw[hi];exact hc.now (.bl _) c⟩
  ·exact back a
 ·exact back a
theorem Hj(P:X.A.units+64<cLine):D4 X (r2 X.K (b2 mK)):=by
 intro value b ag s σ H x y v u Q I C t h j;obtain⟨mu,S,d,e,r,B,A,l,p,c,hc⟩:=oR h;have back:xi d e S=Z (r,B)->cR (model X.prog X.w) X.A (subscriptTail value b v u) (EP X ag σ Q) X.xe s:=λc=>Jy value b ag s σ H x y v u Q I C t ⟨mu,S,[d,e],r,B,.cons A (.cons l .nil),p,c,hc⟩ j;unfold mK at c;split at c
 ·rename_i n;split at c
  ·rename_i kvs ao;obtain⟨k,L,c⟩:=oB1.mp c;obtain⟨z,am,c⟩:=oM1.mp c;cases c;cases A with
   | @ref _ a F=>
    cases C;obtain⟨o,g,h1,_,_⟩:=lb p F ao (jU l L);obtain⟨ar,K,E⟩:=h1 _ am;subst K;have w:=sD I g;unfold subscriptTail;refine wB1 ?_;rw[getitemInPython_of_ne w.not_modules];refine wB1 (wpAny_specialOf w PySem.F.slot_dict_getitem.lookup ?_);have i:cR (model X.prog X.w) X.A (subscripted b J (.ref a) u) (λr f=>cR (model X.prog X.w) X.A (letTemporaryGo value (.ref a) r >>= λ_=>pure r) (EP X ag σ Q) X.xe f) X.xe s:=by
     rw[j];exact wpAny_operating (wpAny_mono (wW (by lia) I g t λN G D q=>(⟨ar,H,D,q,hc.now E p⟩:EP X ag σ Q N G)) (λr f m=>wB1 (wpAny_letTemporaryGo (wP1 m))) λ_ _ x=>x)
    first
     |exact wP1 (wB1 i)
     |exact wB1 i
     |exact i
  ·exact back c
 ·exact back c
theorem EH(K:X.A.units+64<cLine):uJ X (rU X.K (b3 jH)):=by
 intro ag s σ H o i v f r u Q I z l g h;obtain⟨mu,S,ds,d,y,B,b,a,hc⟩:=id h;cases B with
 |cons q C=>cases C with
  |cons x G=>cases G with
   |cons j E=>
    cases E;rename_i p m w;dsimp only[b3]at a;have back:jI p m w S=Z (d,y)->cR (model X.prog X.w) X.A (setItem f r u) (λ_ s'=>∃H',Inv X ag σ H' s'/\Q H') X.xe s:=λa=>HE ag s σ H o i v f r u Q I z l g ⟨mu,S,[p,m,w],d,y,.cons q (.cons x (.cons j .nil)),b,a,hc⟩;unfold jH at a;split at a
    ·rename_i n;split at a
     ·rename_i kvs am;obtain⟨k,F,a⟩:=oB1.mp a;split at a
      ·rename_i D;cases a;cases q with
       |ref c=>
        cases z;obtain⟨ws,e,t⟩:=b.dct am c;have ey:=jU x F;subst ey;refine wU (by lia) I (xg.k e (by rw[<- t.length];exact D)) l g λs' A=>⟨_,A,?_⟩;have put:Ext mu mu H (upd H _ (.dK (iK ws k v))):=Ext.put e trivial (gM1 c);exact hc _ mu put (b.put c e trivial ⟨_,dZ,(t.put j).ext put⟩)
      ·cases a
     ·exact back a
    ·exact back a
def zJ:G2:=λd e S=>match e with
 | .non=>Z (.bl (pe d),S)
 | .bl b=>match d with
  | .bl c=>Z (.bl (c == b),S)
  |_=>Y
 |_=>Y
theorem DF:fJ X (compareOp .Is) (r2 X.K (b2 zJ)):=by
 intro ag s σ H x y u w Q I k g h;obtain⟨mu,S,d,e,r,l,j,a,i,f,hc⟩:=oR h;cases e with
 |non=>exact Ih ag s σ H x y u w Q I k g ⟨mu,S,[d,.non],r,l,.cons j (.cons a .nil),i,f,hc⟩
 |bl b=>
  cases d with
  |bl c=>
   cases f;cases j;cases a;cases k;cases g;exact is_bool ⟨.bl (c == b),H,I,O,hc.now (.bl _) i⟩
  |_=>cases f
 |_=>cases f
def oZ:FE:=λ_ S=>Z (.ref S.length,S++[.dct []])
theorem q3{pos:Pos}:XE X (.Dict [] [] pos) oZ:=⟨eo yG <| by
 rintro σ H Q ⟨r,mu,S,d,e,f,a,c,hc⟩ p b;cases c;exact hc _ _ (mu++[p]) (Ext.new_ b) (.ref (g4 a.len p)) (a.new b ⟨[],dZ,.nil⟩)⟩
def Cj:List (FE×FE)->Ev->Sto->Option (List (D×D)×Sto)
 |[],_,S=>Z ([],S)
 |(a,b)::l,r,S=>(a r S).bind λp=>(b r p.2).bind λq=>(Cj l r q.2).map λt=>((p.1,q.1)::t.1,t.2)
def vz:List (D×D)->Option (List (Key×D))
 |[]=>Z []
 |(k,d)::l=>(nQ k).bind λk=>(vz l).map λt=>(k,d)::t
def mj(l:List (FE×FE)):FE:=λr S=>(Cj l r S).bind λp=>(vz p.1).bind λkvs=>if kvs.length<=15 then Z (.ref p.2.length,p.2++[.dct (kvs.foldl (λacc kv=>gQ acc kv.1 kv.2) [])])else Y
structure XP (X:Cx)(pos:Pos)(ks:List (Option Expr))(vs:List Expr)(l:List (FE×FE)):Prop where
 h:I9 X pos ks vs (l.map λp=>(tM X.K p.1,tM X.K p.2))
theorem uN{pos:Pos}:XP X pos [] [] []:=⟨BC⟩
theorem q0{pos:Pos}{k v:Expr}{ks:List (Option Expr)}{vs:List Expr}{a b:FE}{l:List (FE×FE)}(hk:XE X k a)(hv:XE X v b)(t:XP X pos ks vs l):XP X pos (Z k::ks) (v::vs) ((a,b)::l):=⟨yx hk.h hv.h t.h⟩
theorem yw{K:Fg1}{σ:L2.St}:∀ {l:List (FE×FE)} {r:Ev} {mu:List cJ} {H:Hp} {S e:Sto} {ps:List (D×D)} {Q:List (V×V)->Hp->Prop},fy K H mu r σ->Sim K H mu S->Cj l r S=some (ps,e) ->
  (∀vs H' mu',Ext mu mu' H H'->Paired (λ(p:D×D) (q:V×V)=>ez K H' mu' p.1 q.1/\ez K H' mu' p.2 q.2) ps vs->Sim K H' mu' e->Q vs H')->pO (l.map λp=>(tM K p.1,tM K p.2)) σ H Q
 |[],r,mu,H,S,e,ps,Q,he,hs,c,hc=>by cases c;exact hc [] H mu (.refl _ _) .nil hs
 |(a,b)::l,r,mu,H,S,e,ps,Q,he,hs,c,hc=>by
  obtain⟨⟨d,h⟩,m,c⟩:=oB1.mp c;obtain⟨⟨s,u⟩,o,c⟩:=oB1.mp c;obtain⟨⟨t,B⟩,i,c⟩:=oM1.mp c;cases c;refine⟨r,mu,S,d,h,he,hs,m,λv H1 mu1 g w z=>⟨r,mu1,h,s,u,he.ext g,z,o,λA H2 x x2 r2 y=>?_⟩⟩;refine yw ((he.ext g).ext x2) y i λvs k f x3 j n=>hc _ k f ((g.trans x2).trans x3) (.cons ⟨(w.ext x2).ext x3,r2.ext x3⟩ j) n
theorem zw{K:Fg1}{H:Hp}{mu:List cJ}:∀ {ps:List (D×D)} {vs:List (V×V)} {kvs:List (Key×D)},Paired (fun (p:D×D) (q:V×V)=>ez K H mu p.1 q.1/\ez K H mu p.2 q.2) ps vs->vz ps=some kvs ->
  ∃ws:List (Key×V),vs=ws.map (λc=>(kV c.1,c.2))/\KR K H mu kvs ws:=by
 intro ps vs kvs g h
 induction g generalizing kvs with
 |nil=>cases h;exact⟨[],O,.nil⟩
 | @cons a b ps vs q t ih=>
  obtain⟨k,d⟩:=a;obtain⟨m,i⟩:=b;obtain⟨l,j,h⟩:=oB1.mp h;obtain⟨rest,f,h⟩:=oM1.mp h;cases h;obtain⟨ws,e,r⟩:=ih f;have:=jU q.1 j;dsimp only at this;subst this;exact⟨(l,i)::ws,by rw[mP1,<- e],.cons ⟨O,q.2⟩ r⟩
theorem ze{K:Fg1}{H:Hp}{mu:List cJ}:∀{kvs:List (Key×D)} {ws:List (Key×V)} {acc:List (Key×D)} {acw:List (Key×V)},KR K H mu kvs ws->KR K H mu acc acw->KR K H mu (kvs.foldl (λacc c=>gQ acc c.1 c.2) acc) (i0 acw ws):=by
 intro kvs ws acc acw f h
 induction f generalizing acc acw with
 |nil=>exact h
 | @cons a b kvs ws r t ih=>
  obtain⟨k,d⟩:=a;obtain⟨g,v⟩:=b;obtain⟨e,r⟩:=r;dsimp only at e r;subst e;show KR K H mu (kvs.foldl _ (gQ acc k d)) (i0 (iK acw k v) ws);exact ih (h.put r)
theorem q7{pos:Pos}{ks:List (Option Expr)}{vs:List Expr}{l:List (FE×FE)}(h:XP X pos ks vs l)(v:ks.all (·.isSome)=M:=by rfl)(N:ks.length=vs.length:=by rfl)(K:ks≠[]:=by(intro z;cases z))(w:ks.length<=15:=by decide):XE X (.Dict ks vs pos) (mj l):=
 ⟨eo (BK h.h v N K w) <| by
  rintro σ H Q ⟨r,mu,S,d,U,am,E,f,hc⟩ p g;obtain⟨⟨ps,D⟩,L,f⟩:=oB1.mp f;obtain⟨kvs,ao,f⟩:=oB1.mp f;dsimp only at f;split at f
  ·rename_i m;cases f;have x:Ext mu mu H (upd H p (.dK [])):=Ext.fresh g;refine yw (am.ext x) (E.fresh g) L fun vs H1 mu1 i ar j=>?_;obtain ⟨s,k⟩:=i.held (a:=p) (o:=.dK []) dZ (E.notin g);obtain ⟨ws,P,F⟩:=zw ar ao;refine ⟨s,ws,P,by rw [<- F.length];exact m,?_⟩;have put:Ext (p::mu1) (p::mu1) H1 (upd H1 p (.dK (i0 [] ws))):=Ext.put s trivial mS1;have T:=j.aside put.inner k;have y:Ext mu (mu1++[p]) H (upd H1 p (.dK (i0 [] ws))):=by
    refine⟨i.pre.trans (bv _ _),λb o e n=>?_,λb ys e=>put.tup b ys (i.tup b ys (x.tup b ys e)),λb o u e=>put.frz b o u (i.frz b o u (x.frz b o u e)),λb B=>?_⟩
    ·have G:b≠p:=d2 e g;rw[dD G];exact i.old b o (by rw[dD G];exact e) n
    ·rcases aE.mp B with z|z
     ·rcases i.new b z with q|q
      ·exact .inl q
      ·by_cases t:b=p
       ·exact .inr (by rw[t];exact g)
       ·rw[dD t]at q;exact .inr q
     ·have:b=p:=by simpa using z
      exact .inr (by rw[this];exact g)
   have C:=ze F (acc:=[]) (acw:=[]) .nil;refine hc _ _ (mu1++[p]) y (.ref (g4 j.len p)) ⟨by rw[lA1,lA1,j.len];rfl,?_,λn o b h1 h2=>?_⟩
   ·rw[bx];refine⟨j.nd,by simp,λb R c hc e=>?_⟩;have:c=p:=by simpa using hc
    subst this;subst e;exact k R
   ·by_cases I:n<D.length
    ·rw[gL1 I]at h1;rw[gL1 (by rw[j.len];exact I)]at h2;exact(T.ob n o b h1 h2).mor [p]
    ·have A:n=D.length:=by
      have:=(gE1.mp h1).1;rw[lA1]at this;simp at this;lia
     subst A;rw[gR1 (nR1 _)]at h1;rw[<- j.len,gR1 (nR1 _)]at h2;simp at h1 h2;subst h1;subst h2;exact⟨_,dZ,KR.mor [p] (Paired.mapP C λ_ _ z=>⟨z.1,z.2.exw put.inner⟩)⟩
  ·cases f⟩
def zm(m a:FE):FE:=λr S=>(m r S).bind λp=>match p.1 with
 | .ref n=>match p.2[n]? with
  |some (.dct _)=>(a r p.2).bind λq=>match q.2[n]? with
   |some (.dct kvs)=>(nQ q.1).map λk=>((dy kvs k).getD .non,q.2)
   |_=>Y
  |_=>Y
 |_=>Y
theorem Gu{K:Fg1}{H:Hp}{mu:List cJ}{S:Sto}(hs:Sim K H mu S){n:Nat}{a:cJ}{kvs:List (Key×D)}(hn:mu[n]?=Z a)(he:S[n]?=Z (.dct kvs)):Kv H a:=by
 obtain⟨ws,b,_⟩:=hs.dct he hn;exact .inl ⟨ws,.inl b⟩
theorem wb {o e:Expr}{apos cpos:Pos}{m a:FE}(G:X.A.units+64<cLine)(ho:XE X o m)(he:XE X e a)(hm:M1 X o "get" apos e cpos:=by exact⟨O,O,O,O⟩):XE X (.Call (.Attribute o "get" apos) [e] [] cpos) (zm m a):=
 ⟨eo (yH (by lia) ho.h he.h hm) <| by
  rintro σ H Q ⟨r,mu,S,d,am,he,s,hm,hc⟩;obtain⟨⟨A,i⟩,t,hm⟩:=oB1.mp hm;refine⟨r,mu,S,A,i,he,s,t,λI H1 mu1 f E l=>?_⟩;dsimp only at hm;split at hm
  ·rename_i n;split at hm
   ·rename_i C c;cases E with
    |ref j=>
     refine⟨_,O,Gu l j c,?_⟩;obtain⟨⟨x,y⟩,u,hm⟩:=oB1.mp hm;refine⟨r,mu1,i,x,y,he.ext f,l,u,λF H2 b x2 r2 h=>?_⟩;dsimp only at hm;split at hm
     ·rename_i kvs D;obtain⟨k,B,hm⟩:=oM1.mp hm;cases hm;obtain⟨p,g,h1,h2,_⟩:=lb h (x2.at j) D (jU r2 B);refine⟨p,g,?_⟩;cases e:dy kvs k with
      |none=>rw[h2 e];rw[e]at hc;exact hc _ H2 b (f.trans x2) .non h
      |some z=>obtain⟨v,w,q⟩:=h1 z e;subst w;rw[e]at hc;exact hc _ H2 b (f.trans x2) q h
     ·cases hm
   ·cases hm
  ·cases hm⟩
end
section
variable{K:Fg1}{H H':Hp}{mu mu':List cJ}{S:Sto}
end
theorem yK{P:cK}{w:cN}{K:Fg1}{mg:Str->Option cH}{base:cT}{x a:Str}{st:cV}{f:cJ}{fd:cU}{ps:List Str}{k n:Nat}(F:v8 K x a st f fd)(hb:jP K fd ps [])(hm:mg x=Z (.ref f)):Own P w K mg base k x n (λ_ _=>Y):=by
 have c:∀vs H Q E,¬ spM K n (λ_ _=>Y) vs H Q E:=λvs H Q E h=>by
  obtain⟨_,mu,S,ds,d,i,_,_,e,_⟩:=h;cases e
 exact⟨f,fd,ps,⟨λvs H Q E h=>absurd h (c vs H Q E),λA b s H g j vs Q E _ _ _ _ h=>absurd h (c vs H Q E)⟩,hb,F.kp,hm⟩
theorem uM{X:Cx}(i j:Nat){x y:Str}{a b:Expr}{m:FA}{l k pt pos:Pos}{kt k2 pt2}(hc:X.calm=true)(hN:X.N.Nodup)(hi:X.N[i]? = some x)(s:X.N[j]? = some y)(n:i≠j)(hx:X.env.scope.names.lookup x=some .local)(hy:X.env.scope.names.lookup y=some .local)(ha:XA X [a,b] m)(hw:swappedStores [.Tuple [.Name x l,.Name y k] kt pt] (.Tuple [a,b] k2 pt2) X.env=pure (some [x,y]):=by rfl)(hs:swapsWithSole [.Tuple [.Name x l,.Name y k] kt pt] (.Tuple [a,b] k2 pt2) pos.line X.env=pure false:=by rfl):
  XS X (.Assign [.Tuple [.Name x l,.Name y k] kt pt] (.Tuple [a,b] k2 pt2) pos) (dI (dz m) (gT 2 (gm (gN i) (gm (gN j) lN)))):=
 ⟨iy (E3 hc hN hi s n hx hy ha.h hw hs) <| by
  rintro E σ H ⟨r,mu,S,f,z,C,o,hs,g,hc⟩;obtain⟨⟨d,w⟩,e,g⟩:=oB1.mp g;obtain⟨⟨r2,B⟩,c,g⟩:=oB1.mp g;cases g;obtain⟨⟨ds,A⟩,q,e⟩:=oB1.mp e;dsimp only at e;split at e
  ·cases e;refine⟨r,mu,S,ds,_,o,hs,q,λvs H1 mu1 p h v=>?_⟩;dsimp only at c;rw[gT]at c;split at c
   ·cases h with
    |nil=>cases c
    |cons t h=>cases h with
     |nil=>cases c
     |cons u h=>cases h with
      |nil=>
       cases c;exact⟨_,_,O,hc _ H1 mu1 p (((o.ext p).set t).set u) v⟩
      |cons _ _=>cases c
   ·cases c
  ·cases e⟩
def zO:G2:=λd e S=>match d,e with
 | .int i,.int j=>Z (.int (i+j),S)
 |_,_=>Y
theorem CD{X:Cx}:Jv X .Add (r2 X.K (b2 zO)):=by
 intro ag s σ H x y v u Q I k c h;obtain⟨mu,S,d,e,r,l,g,b,f,a,hc⟩:=oR h;unfold zO at a;split at a
 ·rename_i i j;cases a;cases g;cases b;exact CF ag s σ H _ _ v u Q I k c ⟨i,j,O,O,hc.now (.int _) f⟩
 ·cases a
end Mi
namespace HT
open PySem PySem.Spec PyProof.Rows
variable{prog:cK}{w:cN}{A:cM}{E:cH->cI->Prop}{s:cI}
theorem jY{t sl:cJ}{items:Array cH}{f e:cH}{lo hi:Option Int}{Q:cH->cI->Prop}(ht:IsTup s.heap t items)(hs:s.heap.IsSliceOf sl f e .none)(pl:IsPart f lo)(i:IsPart e hi)(hw:sIx items.size 0 lo=0/\sIx items.size items.size hi=items.size)(h:Q (.ref t) s):cR (model prog w) A (getItem (.ref t) (.ref sl)) Q E s:=by
 obtain⟨g,d,b,j⟩:=id hs;have c:s.TypeIs (.ref sl) "slice":=⟨g,d,b⟩;unfold getItem
 try with_reducible refine wpAny_holding ?_
 first|refine wB1 (wP1 ?_)|skip
 refine wB1 (wpAny_sequenceKey ht.typeIs (by decide) ?_);refine wB1 (wpAny_callSpecial?_slot (name:=Str.ofString "__getitem__") ht.typeIs PyProof.Rows.slot_tuple_getitem
  (wE1 PyProof.Rows.slot_tuple_getitem ht.typeIs entry_tuple_getitem ?_ (args_tuple_getitem _ _)))
 show cR _ _ (Builtin.Tuple.tupleItemsOf (.ref t) >>= _) _ _ s;refine wB1 (tupleItemsOf_ ht ?_);refine wB1 (wpAny_typeOf c ?_);rw[ak (by decide)];refine wB1 (iF hs pl i ?_);have a:((((sIx items.size 0 lo:Nat):Int) == 0&&(1:Int) == 1&&(sIx items.size items.size hi-sIx items.size 0 lo) == items.size)=M):=by
  rw[hw.1,hw.2];simp
 show cR _ _ (if(((sIx items.size 0 lo:Nat):Int) == 0&&(1:Int) == 1&&(sIx items.size items.size hi-sIx items.size 0 lo) == items.size)=M then _ else _) _ _ s;rw[ak a];refine wB1 ?_;unfold Builtin.Tuple.tupleIsExact;refine wB1 (wpAny_typeOf ht.typeIs (wP1 ?_));rw[ak (by decide)]
 first
  |exact wB1 (wpAny_rule (wP1 ⟨_,rfl,wP1 h⟩))
  |exact wB1 (wpAny_rule (wB1 (wP1 ⟨_,rfl,wP1 h⟩)))
end HT
namespace Mi
open PySem PySem.Spec PyProof.Rows L2
def JR(K:Fg1):V->Option Int->Option Int->Hp->VK->Prop:=λx lo hi H Q=>∃a xs,x = .ref a/\jt K H a xs/\(HT.sIx xs.length 0 lo=0/\HT.sIx xs.length xs.length hi=xs.length)/\Q (.ref a) H
section
variable{X:Cx}
theorem Bh:AW X (JR X.K):=by
 intro ag s σ H x v l k lo hi sl Q I j e pl g h;obtain⟨a,xs,rfl,i,f,q⟩:=h;cases j;obtain⟨c,r,d,m⟩:=I.tuple i;have b:c.toArray.size=xs.length:=by rw[aJ];exact r.length.symm
 refine⟨"tuple",_,PyProof.Rows.slot_tuple_getitem.lookup,d.typeIs,?_⟩;exact HT.jY d e pl g (by rw[b];exact f) ⟨.ref a,H,I,O,q⟩
def Ey(S:Sto)(d:D)(lo hi:Option Int):Option (D×Sto):=(dj S d).map λp=>if p.1=M then(.ref S.length,S++[.lst (Mi.oI p.2 lo hi)])else(.tup (Mi.oI p.2 lo hi),S)
def fQ(m:FE)(lo hi:FO):FE:=λr S=>(m r S).bind λp=>(lo r p.2).bind λa=>(hi r a.2).bind λb=>Ey b.2 p.1 a.1 b.1
theorem wX{xs:List D}{lo hi:Option Int}(h:HT.sIx xs.length 0 lo=0/\HT.sIx xs.length xs.length hi=xs.length):Mi.oI xs lo hi=xs:=by
 unfold Mi.oI;rw[h.1,h.2,List.drop_zero,Nat.sub_zero,bR]
theorem d1{e:Expr}{lo hi:Option Expr}{m:FE}{a b:FO}{pos p2:Pos}(h:XE X e m)(F:XO X lo a)(L:XO X hi b):XE X (.Subscript e (.Slice lo hi Y p2) pos) (fQ m a b):=
 ⟨eo (yE (AW.or Bh (AW.or Ez Bi)) h.h F.h L.h) <| by
  rintro σ H Q ⟨r,mu,S,d,ar,s,B,f,hc⟩;obtain⟨⟨G,y⟩,C,f⟩:=oB1.mp f;obtain⟨⟨l,z⟩,D,f⟩:=oB1.mp f;obtain⟨⟨n,E⟩,A,f⟩:=oB1.mp f;refine⟨r,mu,S,G,y,s,B,C,λv H1 mu1 w am ao=>?_⟩;refine⟨r,mu1,y,l,z,s.ext w,ao,D,λH2 x x2 K=>?_⟩;refine⟨r,x,z,n,E,(s.ext w).ext x2,K,A,λN g x3 j=>?_⟩;obtain⟨⟨k,xs⟩,I,f⟩:=oM1.mp f;have o:=(w.trans x2).trans x3;obtain⟨c,vs,rfl,q,t⟩:=dr ((am.ext x2).ext x3) j I;cases k with
  |true=>
   cases f;right;right;exact⟨c,vs,O,q,λp i=>hc _ _ (g++[p]) (o.trans (Ext.new_ i)) (.ref (g4 j.len p)) (j.newL (vV t l n) i)⟩
  |false=>
   simp only[bF1,if_false]at f;cases f;by_cases u:HT.sIx xs.length 0 l=0/\HT.sIx xs.length xs.length n=xs.length
   ·left;rw[wX u]at hc;exact⟨c,vs,O,q,by rw[<- t.length];exact u,hc _ _ g o (.tup q t) j⟩
   ·right;left;exact⟨c,vs,O,q,by rw[<- t.length];exact u,λp i=>hc _ _ g (o.trans (Ext.fresh i)) (.tup (jt.of dZ) ((vV t l n).ext (Ext.fresh i))) (j.fresh i)⟩⟩
end
mutual
inductive gP (h:cT):TK->cH->Prop
 |non:gP h .non .none
 |int (i t):gP h (.int i) (.int i t)
 |tup {a o items n xs}:h.get? a=some o->o.cls = .type "tuple"->o.data = .seq items n->gu h xs items.toList->gP h (.tup xs) (.ref a)
inductive gu (h:cT):List TK->List cH->Prop
 |nil:gu h [] []
 |cons {k v ks vs}:gP h k v->gu h ks vs->gu h (k::ks) (v::vs)
end
section
variable{prog:cK}{w:cN}{A:cM}{E:cH->cI->Prop}{s:cI}
theorem rq{Q:Int->cI->Prop}(h:Q 0xFCA86420 {s with toks:=s.toks+1}):cR (model prog w) A (pyHash .none) Q E s:=by
 have a:s.TypeIs .none "NoneType":=rfl;unfold pyHash
 first|unfold pyHashByItsType|skip
 have b:[Value.none].any Value.onHeap=J:=rfl;refine wB1 ?_;rw[cRoomFor,aj (by rw[b];exact aI)];refine wP1 ?_;refine wB1 (wpAny_specialOf a F.slot_NoneType_hash.lookup ?_);show cR _ _ (if(Z (Value.builtin "NoneType.__hash__") == Z Value.none)=M then _ else _) Q E s;rw[aj (by rw[beq_builtin_none];exact aI)];refine wB1 (wpAny_specialOf a F.slot_NoneType_hash.lookup ?_);show cR _ _ (callSpecialIfBoundUnlessNone? .none "__hash__" _ >>= _) Q E s;refine wB1 (wpAny_callSpecialIfBoundUnlessNone?_slot a F.slot_NoneType_hash (wE1 F.slot_NoneType_hash a F.entry_NoneType_hash (show cR _ _ (retInt 0xFCA86420) _ _ s from wpAny_ret_mkInt ?_) (F.args_NoneType_hash_1 _)));exact wP1 h
def qL(prog:cK)(w:cN)(k:TK):Prop:=∀{A:cM} {E:cH->cI->Prop} {s:cI} {v:cH} {Q:Int->cI->Prop},A.units+k.dep<cLine->gP s.heap k v->Q k.hash {s with toks:=s.toks+k.draws}->cR (model prog w) A (pyHash v) Q E s
theorem gu.split{h:cT}:∀{ks:List TK} {vs:List cH},gu h ks vs->ks.length=vs.length:=λa=>a.rec (motive_1:=λ_ _ _=>True) (motive_2:=λks vs _=>ks.length=vs.length) trivial (λ_ _=>trivial) (λ_ _ _ _ _=>trivial) O (λ_ _ _ ih=>congrArg (· + 1) ih)
theorem zF{xs:List TK}(all:∀k∈xs,qL prog w k):qL prog w (.tup xs):=by
 intro A E s v Q y u h;cases u with
 | @tup a o m n _ q hc t hi=>
  have l:s.TypeIs (.ref a) "tuple":=⟨o,q,hc⟩;rw[TK.dep]at y;unfold pyHash
  first|unfold pyHashByItsType|skip
  first|refine wB1 (wpAny_cRoomFor_or (.inr (by lia)) ?_)|skip
  refine wB1 (wpAny_specialOf l F.slot_tuple_hash.lookup ?_);show cR _ _ (if(Z (Value.builtin "tuple.__hash__") == Z Value.none)=M then _ else _) Q E s;rw[aj (by rw[beq_builtin_none];exact aI)];refine wB1 (wpAny_specialOf l F.slot_tuple_hash.lookup ?_);show cR _ _ (callSpecialIfBoundUnlessNone? (.ref a) "__hash__" _ >>= _) Q E s;refine wB1 (wpAny_callSpecialIfBoundUnlessNone?_slot l F.slot_tuple_hash (wE1 F.slot_tuple_hash l F.entry_tuple_hash ?_ (F.args_tuple_hash_1 _)));show cR _ _ (Builtin.Tuple.tupleItemsOf (.ref a) >>= _) _ _ s;refine wB1 (wpAny_tupleItemsOf q t ?_);refine wB1 ?_;rw[<- Array.forIn_toList];refine wpAny_forIn_list _
   (λrest (b:Array Int) s'=>∃c d,xs=c++d/\gu s.heap d rest/\b.toList=TK.hashes c/\s'={s with toks:=s.toks+TK.drawsAll c})
   _ ?_ ?_ _ _ ⟨[],xs,O,hi,O,O⟩
  ·rintro x rest b s' ⟨c,d,e,p,j,rfl⟩;cases p with
   | @cons k _ g _ h1 f=>
    have r:k∈xs:=by rw[e];simp
    refine wB1 (all k r (show A.in1.units+k.dep<cLine by have:=TK.dep_mem r;rw[show A.in1.units=A.units+1 from rfl];lia) h1 ?_)
    first
     |exact wP1 ⟨c++[k],g,by simp[e],f,by rw[TK.hashes_app];simp[j,TK.hashes],by rw[TK.draws_app];simp[TK.drawsAll,bo]⟩
     |exact wB1 (wP1 (wP1 ⟨c++[k],g,by simp[e],f,by rw[TK.hashes_app];simp[j,TK.hashes],by rw[TK.draws_app];simp[TK.drawsAll,bo]⟩))
  ·rintro b s' ⟨c,d,e,p,j,rfl⟩;cases p;rw[aK]at e;subst e;show cR _ _ (retInt (Builtin.Tuple.tupleHashOf b.toList)) _ _ _;rw[j];refine wpAny_ret_mkInt ?_;show cR _ _ (if(decide (-(2:Int)^63<=Builtin.Tuple.tupleHashOf (TK.hashes xs))&&decide (Builtin.Tuple.tupleHashOf (TK.hashes xs)<2^63))=M then _ else _) Q E _;rw[TK.hash,TK.draws]at h;unfold reduceHash at h;by_cases i:(decide (-(2:Int)^63<=Builtin.Tuple.tupleHashOf (TK.hashes xs))&&decide (Builtin.Tuple.tupleHashOf (TK.hashes xs)<2^63))=M
   ·rw[ak i];rw[ak i]at h;exact wP1 (by simpa[bo]using h)
   ·rw[aj i];rw[aj i]at h;exact wB1 (wpAny_rule (wP1 (by simpa[bo]using h)))
mutual
theorem vF:∀k:TK,qL prog w k
 | .non=>λb a h=>by cases a;exact rq h
 | .int i=>λb a h=>by cases a;exact wpAny_pyHash_int h
 | .tup xs=>zF (sn xs)
theorem sn:∀ks:List TK,∀k∈ks,qL prog w k
 |[],k,h=>by simp at h
 |x::xs,k,h=>by
  by_cases e:k=x
  ·rw[e];exact vF x
  ·exact sn xs k ((aD.mp h).resolve_left e)
end
end
theorem gP.inj{h:cT}:∀ {k k':TK} {v:cH},gP h k v->gP h k' v->k=k':=fun f=>f.rec (motive_1:=fun k v _=>∀ k',gP h k' v->k=k') (motive_2:=fun k v _=>∀ k',gu h k' v->k=k')
  (λk' g=>by cases g;rfl) (λ_ _ k' g=>by cases g;rfl)
  (λi m e l ih k' g=>by
   cases g with
   |tup c n d j=>
    rw[i]at c;cases c;rw[e]at d;cases d;rw[ih _ j])
  (λk' g=>by cases g;rfl) (λ_ _ a b k' g=>by cases g with|cons r' t'=>rw[a _ r',b _ t']) _
theorem gu.inj{h:cT}:∀ {k k':List TK} {v:List cH},gu h k v->gu h k' v->k=k':=fun c=>c.rec (motive_1:=fun _ _ _=>True) (motive_2:=fun k v _=>∀ k',gu h k' v->k=k') trivial (fun _ _=>trivial) (fun _ _ _ _ _=>trivial)
  (λk' g=>by cases g;rfl) (λa _ _ b k' g=>by cases g with|cons r' t'=>rw[gP.inj a r',b _ t']) _
theorem gP.keeps{h h':cT}{d:cJ}{o:Obj}{es ep}(ho:h.get? d=some o)(hd:o.data = .dict es ep)(hs:Heap.SameBut d h h'):∀ {k:TK} {v:cH},gP h k v->gP h' k v:=fun f=>f.rec (motive_1:=fun k v _=>gP h' k v) (motive_2:=fun k v _=>gu h' k v) .non .int
  (λ{a} _ _ _ _ e g c _ ih=>.tup ((hs.2 a (λz=>by subst z;rw[e]at ho;cases ho;rw[c]at hd;cases hd)).trans e) g c ih) .nil (λ_ _ a b=>.cons a b)
theorem gu.at{h:cT}:∀{ks:List TK} {vs:List cH} (j:Nat) (h1:j<ks.length) (h2:j<vs.length),gu h ks vs->gP h ks[j] vs[j]
 |_::_,_::_,0,_,_,.cons r _=>r
 |_::ks,_::vs,j+1,h1,h2,.cons _ t=>gu.at j (by simpa using h1) (by simpa using h2) t
theorem AF{xs ys:List TK}(b:xs.length=ys.length):((af (min xs.length ys.length)).all λj=>decide (xs[j]?=ys[j]?))=decide (xs=ys):=by
 by_cases h:xs=ys
 ·subst h;simp
 ·rw[ai h,List.all_eq_false];have:∃j,xs[j]? ≠ ys[j]?:=Classical.byContradiction λz=>h (bT λj=>Classical.byContradiction λq=>z ⟨j,q⟩);obtain⟨j,a⟩:=this;refine⟨j,?_,by simpa using a⟩;rw[aA,b,Nat.min_self];apply Classical.byContradiction;intro c;exact a (by rw[bU (by lia),bU (by lia)])
theorem IP:∀(n:Nat) {k k':TK} {A:cM} {s:cI} {u v:cH},k.dep<=n->A.units+n<cLine->gP s.heap k u->gP s.heap k' v->SeqAt.EqAt A s u v (decide (k=k')):=by
 intro n
 induction n with
 |zero=>
  intro k k' A s u v F Q r g;cases r with
  |tup _ _ _ _=>simp[TK.dep]at F
  |non=>
   cases g with
   |non=>simpa using SeqAt.EqAt.same (A:=A) (s:=s) Value.none
   |int i t=>simpa[sY]using kG (A:=A) (s:=s) (y:=.non) (x:=.int i) O ⟨t,O⟩ O O
   |tup e c d t=>simpa using(fb (A:=A) (s:=s) (b:=J) (v:=.non) (u:=.none) ⟨_,e,c,_,d⟩ O O (by lia)).2.1
  |int i t=>
   cases g with
   |non=>simpa[sY]using kG (A:=A) (s:=s) (y:=.int i) (x:=.non) ⟨t,O⟩ O O O
   |int j D=>
    have:=kG (A:=A) (s:=s) (y:=.int i) (x:=.int j) ⟨t,O⟩ ⟨D,O⟩ O O;have e:sY (.int i) (.int j)=decide (TK.int i=TK.int j):=by
     by_cases h:i=j
     ·subst h;simp[sY]
     ·rw[ai (λz=>h (by injection z))];simp[sY,h]
    rw[e]at this;exact this
   |tup e c d q=>simpa using(fb (A:=A) (s:=s) (b:=J) (v:=.int i) (u:=.int i t) ⟨_,e,c,_,d⟩ ⟨t,O⟩ O (by lia)).2.1
 |succ n ih=>
  intro k k' A s u v F Q r g;cases r with
  |non=>
   cases g with
   |non=>simpa using SeqAt.EqAt.same (A:=A) (s:=s) Value.none
   |int i t=>simpa[sY]using kG (A:=A) (s:=s) (y:=.non) (x:=.int i) O ⟨t,O⟩ O O
   |tup e c d t=>simpa using(fb (A:=A) (s:=s) (b:=J) (v:=.non) (u:=.none) ⟨_,e,c,_,d⟩ O O (by lia)).2.1
  |int i t=>
   cases g with
   |non=>simpa[sY]using kG (A:=A) (s:=s) (y:=.int i) (x:=.non) ⟨t,O⟩ O O O
   |int j D=>
    have:=kG (A:=A) (s:=s) (y:=.int i) (x:=.int j) ⟨t,O⟩ ⟨D,O⟩ O O;have e:sY (.int i) (.int j)=decide (TK.int i=TK.int j):=by
     by_cases h:i=j
     ·subst h;simp[sY]
     ·rw[ai (λz=>h (by injection z))];simp[sY,h]
    rw[e]at this;exact this
   |tup e c d q=>simpa using(fb (A:=A) (s:=s) (b:=J) (v:=.int i) (u:=.int i t) ⟨_,e,c,_,d⟩ ⟨t,O⟩ O (by lia)).2.1
  | @tup a o f m xs l B w C=>
   cases g with
   |non=>simpa using(fb (A:=A) (s:=s) (b:=J) (v:=.non) (u:=.none) ⟨_,l,B,_,w⟩ O O (by lia)).1
   |int i t=>simpa using(fb (A:=A) (s:=s) (b:=J) (v:=.int i) (u:=.int i t) ⟨_,l,B,_,w⟩ ⟨t,O⟩ O (by lia)).1
   | @tup a2 U items2 m2 ys K ar L H=>
    by_cases N:a=a2
    ·subst N;have:TK.tup xs=TK.tup ys:=gP.inj (.tup l B w C) (.tup K ar L H);rw[ah this];exact .same _
    ·refine .of_refs N ?_;have ao:=C.split;have P:=H.split;have I:=SeqAt.RcAt.tuples (A:=A) (s:=s) (e:=fun j=>decide (xs[j]? = ys[j]?)) ⟨o,l,B,m,w⟩ ⟨U,K,ar,m2,L⟩ (by lia) (fun j h1 h2=>by
      have G:j<xs.length:=by rw[ao];simpa using h1
      have am:j<ys.length:=by rw[P];simpa using h2
      rw[TK.dep]at F;have V:=TK.dep_mem (bN G);have q:=ih (k:=xs[j]) (k':=ys[j]) (A:=A.in1) (s:=s) (by lia) (by show A.units+1+n<cLine;lia) (C.at j G (by simpa using h1)) (H.at j am (by simpa using h2));have e:decide (xs[j]?=ys[j]?)=decide (xs[j]=ys[j]):=by
       rw[gG1 G,gG1 am];simp
      rw[e];simpa using q)
     have S:f.size=xs.length:=by rw[ao];simp
     have R:items2.size=ys.length:=by rw[P];simp
     rw[S,R]at I;have E:((af (min xs.length ys.length)).all (λj=>decide (xs[j]?=ys[j]?))&&xs.length == ys.length)=decide (TK.tup xs=TK.tup ys):=by
      by_cases p:xs.length=ys.length
      ·rw[AF p,p,beq_self_eq_true,bH];by_cases h:xs=ys
       ·subst h;simp
       ·rw[ai h,ai (λz=>h (by injection z))]
      ·have T:(xs.length == ys.length)=J:=by simpa using p
       rw[T,aZ,ai (λz=>p (by injection z with z;rw[z]))]
     rw[E]at I;exact I
theorem yj{prog:cK}{w:cN}:∀(n:Nat) {k:TK} {A:cM} {E:cH->cI->Prop} {s:cI} {v:cH} {Q:Bool->cI->Prop},k.dep<=n->gP s.heap k v->Q M s->cR (model prog w) A (eqIsQuiet n v) Q E s:=by
 intro n
 induction n with
 |zero=>
  intro k A E s v Q c r h;cases r with
  |non=>rw[eqIsQuiet_byValue 0 O];exact wP1 h
  |int i t=>rw[eqIsQuiet_byValue 0 O];exact wP1 h
  |tup _ _ _ _=>simp[TK.dep]at c
 |succ n ih=>
  intro k A E s v Q c r h;cases r with
  |non=>rw[eqIsQuiet_byValue _ O];exact wP1 h
  |int i t=>rw[eqIsQuiet_byValue _ O];exact wP1 h
  | @tup a o b m xs f x j l=>
   have g:s.TypeIs (.ref a) "tuple":=⟨o,f,x⟩;rw[TK.dep]at c;unfold eqIsQuiet;refine wB1 (wpAny_specialOf g F.slot_tuple_eq.lookup ?_);show cR _ _ (isInstance (.ref a) (.type "tuple") >>= _) _ _ s;refine wB1 (wpAny_isInstance g isSubtype_tuple_tuple ?_);simp only[bV,bF1,if_false];refine wB1 (wpAny_seqItems f j ?_);refine wB1 ?_;show cR _ _ (forIn b _ _) _ _ s;rw[<- Array.forIn_toList];refine wpAny_forIn_list _ (λrest r s'=>r.1=Y/\s'=s /\ ∃ks,gu s.heap ks rest/\TK.depAll ks<=n) _ ?_ ?_ _ _ ⟨O,O,xs,l,by lia⟩
   ·rintro v rest r s' ⟨e,rfl,ks,q,u⟩;cases q with
    | @cons p _ d _ z y=>
     rw[TK.depAll]at u;refine wB1 (ih (k:=p) (by lia) z ?_);simp only[bV,bF1,if_false];exact wP1 ⟨O,O,d,y,by lia⟩
   ·rintro⟨B,r2⟩ s' ⟨e,rfl,_⟩;simp only at e;subst e;exact wP1 h
def jw(prog:cK)(w:cN):HeapKind prog w TK where
 is:=λh k a=>gP h k (.ref a)/\k.dep<=8
 hash:=TK.hash
 draws:=TK.draws
 room:=λA=>A.units+8<cLine
 inj:=λhx hy=>hx.1.inj hy.1
 keeps:=λx ho hd hs=>⟨x.1.keeps ho hd hs,x.2⟩
 pyHash:=λhu hk h=>vF _ (by have:=hk.2;omega) hk.1 h
 eqBool:=λhu hx hy h=>IP 8 hx.2 hu hx.1 hy.1 _ _ _ _ h
 quiet:=λhk h=>yj 8 hk.2 hk.1 h
def zK:G2:=λo v S=>match o,v with
 | .ref n,.ref b=>match S[n]?,S[b]? with
  |some (.lst xs),Z (.lst ys)=>if xs.length+ys.length<=cQ then Z (.non,S.set n (.lst (xs++ys)))else Y
  |_,_=>Y
 |_,_=>Y
def nU(n:Nat)(k:Int):Nat:=if k<0 then(k+(n:Int)).toNat else min k.toNat n
def uo:G3:=λo i v S=>match o,i with
 | .ref n,.int k=>match S[n]? with
  |some (.lst xs)=>if-(2^63)<=k/\k<2^63/\xs.length<cQ then Z (.non,S.set n (.lst (xs.take (nU xs.length k)++v::xs.drop (nU xs.length k))))else Y
  |_=>Y
 |_,_=>Y
section
open PySem.MeetsSeq PySem.MeetsSeq2 PySem.MeetsSeq3 PySem.SeqRoads2
end
section
variable{X:Cx}
theorem JQ{K:Fg1}{H:Hp}{Q:VK}{f:G3}{xs:List V}(h:rN K (b3 f) xs H Q):∃x y z mu S d e g r b,xs=[x,y,z]/\ez K H mu d x/\ez K H mu e y/\ez K H mu g z/\Sim K H mu S/\f d e g S=Z (r,b)/\qM K mu H r b Q:=by
 obtain⟨mu,S,ds,r,b,i,c,a,hc⟩:=h;cases i with
 |nil=>cases a
 |cons q t=>cases t with
  |nil=>cases a
  |cons j t=>cases t with
   |nil=>cases a
   |cons k t=>cases t with
    |nil=>exact⟨_,_,_,mu,S,_,_,_,r,b,O,q,j,k,c,a,hc⟩
    |cons l t=>cases a
theorem Hq:He X "list.extend" (λx xs H Q=>rN X.K (b2 zK) (x::xs) H Q):=by
 intro ag s σ H x xs v p Q I w o h;obtain⟨B,y,mu,S,d,e,A,z,r,k,r2,c,a,hc⟩:=Bm h;cases r;unfold zK at a;split at a
 ·rename_i n b;split at a
  ·rename_i ys zs u l;split at a
   ·rename_i q;cases a;cases k with
    |ref g=>cases r2 with
     |ref j=>
      obtain⟨vs,f,t⟩:=c.lst u g;obtain⟨ws,m,i⟩:=c.lst l j;refine wy ag s σ H _ _ v p Q I w o ⟨_,_,vs,ws,O,O,f,m,by rw[<- t.length,<- i.length];exact q,?_⟩;exact hc _ _ mu (Ext.put f trivial (gM1 g)) .non (c.putL (t.append i) g f)
   ·cases a
  ·cases a
 ·cases a
theorem Ho:He X "list.insert" (λx xs H Q=>rN X.K (b3 uo) (x::xs) H Q):=by
 intro ag s σ H x xs v E Q I D o h;obtain⟨ao,y,z,mu,S,d,e,g,am,P,C,A,r2,q,j,b,hc⟩:=JQ h;cases C;unfold uo at b;split at b
 ·rename_i n k;split at b
  ·rename_i ys w;split at b
   ·rename_i m;cases b;cases A with
    |ref i=>
     cases r2;obtain⟨vs,f,t⟩:=j.lst w i;cases D;obtain⟨G,l,rfl,r,B⟩:=o.two;obtain⟨tk,rfl⟩:=r;obtain⟨N,a,p,c,L,e⟩:=I.lstM f;have ar:=t.length;have K:=c.length;refine call_meets F.slot_list_insert ⟨_,e,O⟩ F.entry_list_insert (F.args_list_insert_3 _ _ _)
      (AutoSeq1.list_insert_list_int_val_1 _ a.toArray p k tk l (by rw[fitsIndex_both m.1 m.2.1];exact aI) (by rw[aJ];omega)) ⟨e,?_⟩
     have x:=Ext.put (u:=.lst (vs.take (nU ys.length k)++z::vs.drop (nU ys.length k))) f trivial (gM1 i);refine⟨.non,_,I.lset (its':=a.take (nU ys.length k)++l::a.drop (nU ys.length k)) f e ?_ ((c.take _).append (.cons B (c.drop _))) ?_,O,hc _ _ mu x .non (j.putL ((t.take _).append (.cons q (t.drop _))) i f)⟩
     ·rw[show ys.length=a.length by omega];simp[nU];exact bW (by simp)
     ·simp;omega
   ·cases b
  ·cases b
 ·cases b
end
mutual
def kD:D->Option TK
 | .non=>Z .non
 | .int i=>Z (.int i)
 | .tup xs=>(Iz xs).map .tup
 |_=>Y
def Iz:List D->Option (List TK)
 |[]=>Z []
 |x::xs=>(kD x).bind λk=>(Iz xs).map (k :: ·)
end
def lK:D->Option TK
 | .tup xs=>(Iz xs).bind λks=>if(TK.tup ks).dep<=8 then Z (.tup ks)else Y
 |_=>Y
mutual
theorem IA:∀{d:D} {k:TK},kD d=Z k->oz k=d
 | .non,k,h=>by cases h;rfl
 | .int i,k,h=>by cases h;rfl
 | .tup xs,k,h=>by
  rw[kD]at h;obtain⟨ks,e,h⟩:=oM1.mp h;subst h;rw[oz,uf e]
 | .bl _,k,h=>by simp[kD]at h
 | .str _,k,h=>by simp[kD]at h
 | .rol _,k,h=>by simp[kD]at h
 | .fn _,k,h=>by simp[kD]at h
 | .ref _,k,h=>by simp[kD]at h
theorem uf:∀{ds:List D} {ks:List TK},Iz ds=Z ks->mF ks=ds
 |[],ks,h=>by cases h;rfl
 |x::xs,ks,h=>by
  rw[Iz]at h;obtain⟨k,b,h⟩:=oB1.mp h;obtain⟨t,a,h⟩:=oM1.mp h;subst h;rw[mF,IA b,uf a]
end
theorem Cw{d:D}{k:TK}(h:lK d=Z k):oz k=d/\k.dep<=8 /\ ∃xs,k = .tup xs:=by
 cases d with
 |tup xs=>
  rw[lK]at h;obtain⟨ks,e,h⟩:=oB1.mp h;split at h
  ·rename_i a;cases h;exact⟨by rw[oz,uf e],a,ks,O⟩
  ·cases h
 |_=>cases h
section
variable{X:Cx}{ag:List (cJ×Obj)}{σ:L2.St}{H:Hp}{s:cI}{mu:List cJ}
mutual
theorem uU(I:Inv X ag σ H s):∀(k:TK) {v:V} {u:cH},ez X.K H mu (oz k) v->dt v u->gP s.heap k u
 | .non,v,u,r,q=>by
  rw[oz]at r;cases r;cases q;exact .non
 | .int i,v,u,r,q=>by
  rw[oz]at r;cases r;obtain⟨t,rfl⟩:=q;exact .int i t
 | .tup xs,v,u,r,q=>by
  rw[oz]at r;cases r with
  |tup h t=>
   cases q;obtain⟨c,e,⟨o,b,d,n,a⟩,_⟩:=I.tuple h;exact .tup b d a (by simpa using xP I xs t e)
theorem xP(I:Inv X ag σ H s):∀(ks:List TK) {vs:List V} {us:List cH},dk X.K H mu (mF ks) vs->dM vs us->gu s.heap ks us
 |[],vs,us,r,q=>by rw[mF]at r;cases r;cases q;exact .nil
 |k::ks,vs,us,r,q=>by
  rw[mF]at r;cases r with
  |cons r t=>cases q with
   |cons q p=>exact .cons (uU I k r q) (xP I ks t p)
end
theorem tT{α β γ δ:Type}{F:α->β->Prop}{G:γ->δ->Prop}{f:α->γ}{g:β->δ}:∀{l₁:List α} {l₂:List β},Paired F l₁ l₂->(∀a b,F a b->G (f a) (g b))->Paired G (l₁.map f) (l₂.map g):=by
 intro a b h g
 induction h with
 |nil=>exact .nil
 |cons r t ih=>exact .cons (g _ _ r) ih
theorem tU{α β:Type}{F:α->β->Prop}:∀{l₁ f:List α} {l₂ e:List β},Paired F l₁ l₂->Paired F f e->Paired F (l₁++f) (l₂++e):=by
 intro a b c d h g
 induction h with
 |nil=>exact g
 |cons r t ih=>exact .cons r ih
theorem KT.length{K:Fg1}:∀{ks:List (TK×D)} {ws:List (TK×cJ×cH)},KT K H mu ks ws->ks.length=ws.length:=λh=>Paired.length h
theorem KT.mem{K:Fg1}:∀{ks:List (TK×D)} {ws:List (TK×cJ×cH)},KT K H mu ks ws -> ∀x∈ws,x.1.dep<=8/\ez K H mu (oz x.1) (.ref x.2.1):=by
 intro ks ws a x h
 induction a with
 |nil=>cases h
 |cons r t ih=>
  rcases aD.mp h with e|e
  ·subst e;rw[<- r.1];exact⟨r.2.1,r.2.2.1⟩
  ·exact ih e
theorem KT.look{K:Fg1}{k:TK}:∀ {ks:List (TK×D)} {ws:List (TK×cJ×cH)},KT K H mu ks ws ->
  (∀d,dy ks k=Z d -> ∃p v,atKey ws k=Z p/\dt v p.2/\ez K H mu d v)/\(atKey ws k).isSome=(dy ks k).isSome:=by
 intro ks ws h
 induction h with
 |nil=>exact⟨λd h=>by simp[dy]at h,O⟩
 | @cons p g ks ws r t ih=>
  obtain⟨b,c⟩:=p;obtain⟨l,a2,e⟩:=g;obtain⟨z,d,q,v,f,r⟩:=r;dsimp only at z q f r;subst z;obtain⟨h1,h2⟩:=ih;by_cases a:b=k
  ·subst a;refine⟨λd h=>?_,by simp[atKey,dy]⟩;have:c=d:=by simpa[dy]using h
   subst this;exact⟨(a2,e),v,by simp[atKey],f,r⟩
  ·have i:dy ((b,c)::ks) k=dy ks k:=by simp[dy,bb,a]
   have j:atKey ((b,a2,e)::ws) k=atKey ws k:=by simp[atKey,bb,a]
   rw[i,j];exact⟨h1,h2⟩
theorem KT.put{K:Fg1}{k:TK}{d:D}{v:V}{a:cJ}{u:cH}(hk:k.dep<=8)(j:ez K H mu (oz k) (.ref a))(i:dt v u)(q:ez K H mu d v){ks:List (TK×D)}{ws:List (TK×cJ×cH)}(h:KT K H mu ks ws):KT K H mu (gQ ks k d) (storedH ws k a u):=by
 unfold gQ storedH;have e:(ks.any λp=>decide (p.1=k))=(atKey ws k).isSome:=by
  rw[h.look.2];unfold dy;rw[bh,bL,List.find?_isSome,bM]
 rw[e];split
 ·clear e;refine tT h λp w ⟨z,f,g,m,c,l⟩=>?_;unfold putAt;by_cases b:p.1=k
  ·rw[ak b,ak (by rw[<- z];exact b)];exact⟨z,f,g,v,i,q⟩
  ·rw[aj b,aj (by rw[<- z];exact b)];exact⟨z,f,g,m,c,l⟩
 ·exact tU h (.cons ⟨O,hk,j,v,i,q⟩ .nil)
theorem vU(I:Inv X ag σ H s){a:cJ}{xs:List (TK×cJ×cH)}{kvs:List (TK×D)}(e:H a=Z (.ext (i7 a xs)))(h:KT X.K H mu kvs xs):(a == sysModules)=J/\s.heap.DictOfH (jw X.prog X.w) a xs:=by
 obtain⟨⟨h1,h2,o,es,ep,g,f,d,c⟩,_⟩:=(show ew X.prog X.w H s.heap a (.ext (i7 a xs))from I.hok a _ e);exact⟨h1,o,es,ep,g,f,d,c,λx b=>⟨uU I _ (h.mem x b).2 O,(h.mem x b).1⟩,h2⟩
theorem vM{h:cT}{a:cJ}{xs:List (TK×cJ×cH)}(hd:(a == sysModules)=J)(hm:h.DictOfH (jw X.prog X.w) a xs):ew X.prog X.w H h a (.ext (i7 a xs)):=by
 obtain⟨o,es,ep,d,j,f,g,m,l⟩:=hm;refine⟨⟨hd,l,o,es,ep,d,j,f,g⟩,⟨o,d⟩,λn p ⟨a1,a2,o',b,c,b3,e,k,i⟩ st=>⟨a1,a2,o',b,c,st _ b3,e,k,i⟩⟩
end
def lP:G2:=λd e S=>match e with
 | .ref n=>match S[n]? with
  |some (.dcT kvs)=>(lK d).map λk=>(.bl (dy kvs k).isSome,S)
  |_=>wO d e S
 |_=>wO d e S
def gl:G2:=λd e S=>match e with
 | .ref n=>match S[n]? with
  |some (.dcT kvs)=>(lK d).map λk=>(.bl (!(dy kvs k).isSome),S)
  |_=>i4 d e S
 |_=>i4 d e S
def de:G2:=λd e S=>match d with
 | .ref n=>match S[n]? with
  |some (.dcT kvs)=>(lK e).bind λk=>(dy kvs k).map λx=>(x,S)
  |some (.dcF kvs)=>(lK e).bind λk=>(dy kvs k).map λx=>(x,S)
  |_=>mK d e S
 |_=>mK d e S
def fR:G3:=λo i v S=>match o with
 | .ref n=>match S[n]? with
  |some (.dcT kvs)=>(lK i).bind λk=>if kvs.length<cQ then Z (.non,S.set n (.dcT (gQ kvs k v)))else Y
  |some (.dct [])=>match lK i with
   |some k=>Z (.non,S.set n (.dcT [(k,v)]))
   |none=>jH o i v S
  |_=>jH o i v S
 |_=>jH o i v S
section
variable{X:Cx}
theorem sd{κ:Type}[DecidableEq κ](kvs:List (κ×D))(k:κ)(d:D):(gQ kvs k d).length<=kvs.length+1:=by
 unfold gQ;split
 ·rw[lM1];lia
 ·simp
theorem z8{h:cT}{a:cJ}(dd:h.DictOf (eJ X.prog X.w) a []):h.DictOfH (jw X.prog X.w) a []:=by
 obtain⟨o,es,ep,h1,h2,d,_,b,_⟩:=dd;have e:es.toList=[]:=by
  generalize es.toList=l at b;cases b;rfl
 exact⟨o,es,ep,h1,h2,d,e,(λx c=>by simp at c),br⟩
theorem kX{A:cM}(a:A.units+64<cLine):(jw X.prog X.w).room A.in1:=by
 show A.units+1+8<cLine;lia
theorem nP{ag:List (cJ×Obj)}{σ:L2.St}{H:Hp}{s:cI}{mu:List cJ}(I:Inv X ag σ H s){d:D}{v:V}{u:cH}{k:TK}(r:ez X.K H mu d v)(q:dt v u)(h:lK d=some k):
  ∃a,u = .ref a/\v = .ref a/\ez X.K H mu (oz k) (.ref a)/\k.dep<=8/\(jw X.prog X.w).is s.heap k a:=by
 obtain⟨e,b,xs,ex⟩:=Cw h;subst e;have is:=uU I k r q;subst ex;cases id is with
 | @tup a _ _ _ _ _ _ _ _=>
  rw[oz]at r;cases r with
  |tup h1 h2=>
   cases q;exact⟨a,O,O,by rw[oz];exact .tup h1 h2,b,is,b⟩
theorem vf(l:X.A.units+64<cLine):fJ X (compareOp .In) (r2 X.K (b2 lP)):=by
 intro ag s σ H x y u w Q I o g h;obtain⟨mu,S,d,e,r,m,i,c,f,b,hc⟩:=oR h;have back:wO d e S=Z (r,m)->cR (model X.prog X.w) X.A (compareOp .In u w) (EP X ag σ Q) X.xe s:=λb=>Ii l ag s σ H x y u w Q I o g ⟨mu,S,[d,e],r,m,.cons i (.cons c .nil),f,b,hc⟩;unfold lP at b;split at b
 ·rename_i n;split at b
  ·rename_i kvs z;obtain⟨k,t,b⟩:=oM1.mp b;cases b;cases c with
   |ref q=>
    cases g;obtain⟨xs,v,j,_⟩:=f.dcT z q;obtain⟨p,dd⟩:=vU I v j;obtain⟨a,rfl,rfl,_,_,hi⟩:=nP I i o t;refine wpAny_in_heap (kX l) hi p dd ?_;exact⟨.bl (atKey xs k).isSome,H,I.tok _,O,by rw[j.look.2];exact hc.now (.bl _) f⟩
  ·exact back b
 ·exact back b
theorem k7(l:X.A.units+64<cLine):fJ X (compareOp .NotIn) (r2 X.K (b2 gl)):=by
 intro ag s σ H x y u w Q I o g h;obtain⟨mu,S,d,e,r,m,i,c,f,b,hc⟩:=oR h;have back:i4 d e S=Z (r,m)->cR (model X.prog X.w) X.A (compareOp .NotIn u w) (EP X ag σ Q) X.xe s:=λb=>yL l ag s σ H x y u w Q I o g ⟨mu,S,[d,e],r,m,.cons i (.cons c .nil),f,b,hc⟩;unfold gl at b;split at b
 ·rename_i n;split at b
  ·rename_i kvs z;obtain⟨k,t,b⟩:=oM1.mp b;cases b;cases c with
   |ref q=>
    cases g;obtain⟨xs,v,j,_⟩:=f.dcT z q;obtain⟨p,dd⟩:=vU I v j;obtain⟨a,rfl,rfl,_,_,hi⟩:=nP I i o t;refine wpAny_notIn_heap (kX l) hi p dd ?_;exact⟨.bl (!(atKey xs k).isSome),H,I.tok _,O,by rw[j.look.2];exact hc.now (.bl _) f⟩
  ·exact back b
 ·exact back b
theorem GM{ag:List (cJ×Obj)}{σ:L2.St}{H:Hp}{s:cI}{mu:List cJ}(I:Inv X ag σ H s){a:cJ}{xs:List (TK×cJ×cH)}{kvs:List (TK×D)}(e:∃o u,H a=Z (.frz o u)/\D6 a xs o)(h:KT X.K H mu kvs xs):(a == sysModules)=J/\s.heap.DictOfH (jw X.prog X.w) a xs:=by
 obtain⟨o,u,e,h1,h2,f,es,ep,d,c⟩:=e;obtain⟨g,_⟩:=(show ew X.prog X.w H s.heap a (.frz o u)from I.hok a _ e);exact⟨h1,o,es,ep,g,f,d,c,λx b=>⟨uU I _ (h.mem x b).2 O,(h.mem x b).1⟩,h2⟩
theorem qP(F:X.A.units+64<cLine):D4 X (r2 X.K (b2 de)):=by
 intro value c ag s σ H x y v u Q I E G h m;obtain⟨mu,S,d,e,r,D,C,o,t,f,hc⟩:=oR h;have back:mK d e S=Z (r,D)->cR (model X.prog X.w) X.A (subscriptTail value c v u) (EP X ag σ Q) X.xe s:=λf=>Hj F value c ag s σ H x y v u Q I E G ⟨mu,S,[d,e],r,D,.cons C (.cons o .nil),t,f,hc⟩ m;have g:∀kvs a xs,v = .ref a->KT X.K H mu kvs xs->s.heap.DictOfH (jw X.prog X.w) a xs->((lK e).bind λk=>(dy kvs k).map λx=>(x,S))=Z (r,D)->cR (model X.prog X.w) X.A (subscriptTail value c v u) (EP X ag σ Q) X.xe s:=λkvs a xs N l dd f=>by
  obtain⟨k,ar,f⟩:=oB1.mp f;obtain⟨z,ao,f⟩:=oM1.mp f;cases f;subst N;obtain⟨b,rfl,rfl,_,_,hi⟩:=nP I o G ar;obtain⟨p,P,ep,K,L⟩:=l.look.1 _ ao;have am:=dd.typeIs;unfold subscriptTail;refine wB1 ?_;rw[getitemInPython_of_ne am.not_modules];refine wB1 (wpAny_specialOf am PySem.F.slot_dict_getitem.lookup ?_);have j:cR (model X.prog X.w) X.A (subscripted c J (.ref a) (.ref b)) (λr i=>cR (model X.prog X.w) X.A (letTemporaryGo value (.ref a) r >>= λ_=>pure r) (EP X ag σ Q) X.xe i) X.xe s:=by
   rw[m];exact wpAny_operating (wpAny_mono (wpAny_getItem_heap (kX F) hi dd ep (show EP X ag σ Q p.2 _ from⟨P,H,I.tok _,K,hc.now L t⟩)) (λr i q=>wB1 (wpAny_letTemporaryGo (wP1 q))) λ_ _ x=>x)
  first
   |exact wP1 (wB1 j)
   |exact wB1 j
   |exact j
 unfold de at f;split at f
 ·rename_i n;split at f
  ·rename_i kvs B;cases C with
   | @ref _ a w=>
    cases E;obtain⟨xs,A,l,_⟩:=t.dcT B w;exact g kvs a xs O l (vU I A l).2 f
  ·rename_i kvs B;cases C with
   | @ref _ a w=>
    cases E;obtain⟨xs,A,l,_⟩:=(show oB X.K H mu a (.dcF kvs)from t.ob n _ a B w);exact g kvs a xs O l (GM I A l).2 f
  ·exact back f
 ·exact back f
theorem iY(B:X.A.units+64<cLine):uJ X (rU X.K (b3 fR)):=by
 intro ag s σ H o i v N R u Q I ao C p h;obtain⟨mu,S,ds,d,T,U,j,a,hc⟩:=id h;cases U with
 |cons G V=>cases V with
  |cons L aq=>cases aq with
   |cons r W=>
    cases W;rename_i P ar K;dsimp only[b3]at a;have back:jH P ar K S=Z (d,T)->cR (model X.prog X.w) X.A (setItem N R u) (λ_ s'=>∃H',Inv X ag σ H' s'/\Q H') X.xe s:=λa=>EH B ag s σ H o i v N R u Q I ao C p ⟨mu,S,[P,ar,K],d,T,.cons G (.cons L (.cons r .nil)),j,a,hc⟩;unfold fR at a;split at a
    ·rename_i n;split at a
     ·rename_i kvs am;obtain⟨k,F,a⟩:=oB1.mp a;split at a
      ·rename_i hl;cases a;cases G with
       | @ref _ l f=>
        cases ao;obtain⟨xs,y,m,wq⟩:=j.dcT am f;obtain⟨D,dd⟩:=vU I y m;obtain⟨b,rfl,rfl,t,w,hi⟩:=nP I L C F;refine wpAny_setItem_heap (hsz:=wq) (kX B) hi dd λh' e c=>?_;have g:∃q,h'.get? _=Z q:=let ⟨q,_,_,g,_⟩:=e;⟨q,g⟩
        have put:Ext mu mu H (upd H l (.ext (i7 l (storedH xs k b u)))):=Ext.put y trivial (gM1 f);refine⟨_,ll I (by rw[y];exact True.intro) c g (vM D e),hc _ mu put (j.put f y trivial ⟨_,dZ,((m.put w t p r).ext put),?_⟩)⟩;rw[<- (m.put w t p r).length];have:=sd kvs k K;lia
      ·cases a
     ·rename_i am;split at a
      ·rename_i k F;cases a;cases G with
       | @ref _ l f=>
        cases ao;obtain⟨ws,x,m⟩:=j.dct am f;cases m;obtain⟨z,D,vs,E,dd⟩:=Ak I.hok x;cases E;obtain⟨b,rfl,rfl,t,w,hi⟩:=nP I L C F;have A:s.heap.DictOfH (jw X.prog X.w) _ []:=z8 dd;refine wpAny_setItem_heap (hsz:=bj _) (kX B) hi A λh' e c=>?_;have g:∃q,h'.get? _=Z q:=let ⟨q,_,_,g,_⟩:=e;⟨q,g⟩
        have put:Ext mu mu H (upd H l (.ext (i7 l (storedH [] k b u)))):=Ext.put x trivial (gM1 f);exact⟨_,ll I (by rw[x];exact True.intro) c g (vM D e),hc _ mu put (j.put f x trivial ⟨_,dZ,KT.ext put (.cons ⟨O,w,t,v,p,r⟩ .nil),(show 1<=cQ by decide)⟩)⟩
      ·exact back a
     ·exact back a
    ·exact back a
end
def oC(S:Sto)(d:D):Option Bool:=match d with
 | .non=>Z J
 | .bl b=>Z b
 | .int i=>Z (i != 0)
 | .str y=>if y.length<=cQ then Z ((y.length:Int) != 0)else Y
 | .ref n=>match S[n]? with
  |some (.dct kvs)=>Z (!kvs.isEmpty)
  |_=>(dj S d).map λp=> !p.2.isEmpty
 |_=>(dj S d).map λp=> !p.2.isEmpty
noncomputable def mTr (m:FE):FT:=λr S=>(m r S).bind λp=>(oC p.2 p.1).map λb=>(b,p.2)
section
variable{K:Fg1}{H:Hp}{mu:List cJ}{S:Sto}
theorem pQ{d:D}{v:V}{b:Bool}(r:ez K H mu d v)(s:Sim K H mu S)(h:((dj S d).map λp=> !p.2.isEmpty)=Z b):AN K v H b:=by
 obtain⟨⟨k,xs⟩,e,h⟩:=oM1.mp h;obtain⟨a,vs,rfl,q,t⟩:=dr r s e;have z:(!xs.isEmpty) = !vs.isEmpty:=by cases t<;>rfl
 dsimp only at h;rw[z]at h;cases k
 ·exact .inr (.inl ⟨vs,q,h.symm⟩)
 ·exact .inl ⟨vs,q,h.symm⟩
theorem xN{d:D}{v:V}{b:Bool}(r:ez K H mu d v)(s:Sim K H mu S)(h:oC S d=Z b):AN K v H b:=by
 cases d with
 |non=>cases r;cases h;rfl
 |bl k=>cases r;cases h;rfl
 |int i=>cases r;cases h;rfl
 |str y=>
  rw[oC]at h;split at h
  ·rename_i f;cases r;cases h;exact⟨f,O⟩
  ·cases h
 |tup xs=>exact pQ r s h
 |rol xs=>exact pQ r s h
 |fn x=>cases h
 |ref n=>
  rw[oC]at h;split at h
  ·rename_i kvs g;cases h;cases r with
   |ref e=>
    obtain⟨ws,c,a⟩:=s.dct g e;refine .inr (.inr ⟨ws,c,?_⟩);cases a<;>rfl
  ·exact pQ r s h
end
theorem dv{X:Cx}{x:Expr}{f:FE}(h:XE X x f)(he:∀a,isTrue x X.env a=(do let v<-a;standAt x.pos;holding [v] (truthy v)):=by intro _;rfl):XT X x (mTr f):=
 ⟨pT (yr h.h he) <| by
  rintro σ H Q ⟨r,mu,S,b,n,he,e,c,hc⟩;obtain⟨⟨l,m⟩,i,c⟩:=oB1.mp c;obtain⟨b1,j,c⟩:=oM1.mp c;cases c;exact⟨r,mu,S,_,_,he,e,i,λv H1 mu1 k g d=>⟨_,xN g d j,hc H1 mu1 k d⟩⟩⟩
section
variable{X:Cx}{ag:List (cJ×Obj)}{σ:L2.St}{H:Hp}{s:cI}{mu:List cJ}
end
section
variable{X:Cx}
def kF:List D->Option (List Int)
 |[]=>Z []
 | .int i::ds=>(kF ds).map λis=>i::is
 |_=>Y
def ddI(ns:List Int):List Int:=ns.foldl step_dedup []
theorem lk:∀(ns acc:List Int),acc.Nodup->(ns.foldl step_dedup acc).Nodup
 |[],acc,h=>h
 |n::ns,acc,h=>by
  rw[aX];refine lk ns _ ?_;unfold step_dedup;split
  ·exact h
  ·rename_i d;rw[bx];refine⟨h,by simp,λa f b c e=>?_⟩;simp at c;apply d;rw[bM];exact⟨a,f,by simp[e,c]⟩
theorem ph{K:Fg1}{H:Hp}{mu:List cJ}:∀{ds:List D} {vs:List V} {us:List cH} {ns:List Int},dk K H mu ds vs->dM vs us->kF ds=Z ns->IntsAre us ns/\ns.length=ds.length:=by
 intro ds vs us ns g a h
 induction g using dk.ind generalizing us ns with
 |hn=>cases h;cases a;exact⟨.nil,O⟩
 | @hc d v ds vs r t ih=>
  cases d with
  |int i=>
   obtain⟨c,e,h⟩:=oM1.mp h;cases h;cases r;cases a with
   |cons r a=>
    obtain⟨f,b⟩:=ih a e;obtain⟨tk,rfl⟩:=r;exact⟨.cons _ _ f,by rw[lC1,lC1,b]⟩
  |_=>cases h
def Kf:G1:=λd S=>match dj S d with
 |some (M,xs)=>(kF xs).bind λns=>if ns.length+1<scanBound then Z (.ref S.length,S++[.iset (ddI ns)])else Y
 |_=>Y
def KQ:G1:=λd S=>match d with
 | .ref n=>match S[n]? with
  |some (.iset xs)=>Z (.int xs.length,S)
  |_=>dX d S
 |_=>dX d S
def im:G2:=λd e S=>match d,e with
 | .ref n,.int k=>match S[n]? with
  |some (.lst xs)=>if-(2^63)<=k/\k<2^63/\xs.length*k.toNat<=cQ then Z (.ref S.length,S++[.lst (aM k.toNat xs).flatten])else Y
  |_=>Y
 |_,_=>Y
theorem dk.rep{K:Fg1}{H:Hp}{mu:List cJ}{ds:List D}{vs:List V}(r:dk K H mu ds vs):∀k:Nat,dk K H mu (aM k ds).flatten (aM k vs).flatten
 |0=>.nil
 |k+1=>by rw[aT,aT,aU,aU];exact dk.append r (dk.rep r k)
theorem nJ:fJ X (binaryOp .Mult) (r2 X.K (b2 im)):=by
 intro ag s σ H x y u w Q I l g h;obtain⟨mu,S,d,e,r,q,i,r2,b,a,hc⟩:=oR h;unfold im at a;split at a
 ·rename_i n k;split at a
  ·rename_i xs o;split at a
   ·rename_i c;cases a;cases i with
    |ref m=>
     cases r2;obtain⟨vs,j,t⟩:=b.lst o m;refine Fq ag s σ H _ _ u w Q I l g ⟨_,k,vs,O,O,j,c.1,c.2.1,by rw[<- t.length];exact c.2.2,λp f=>?_⟩;exact hc _ _ (mu++[p]) (Ext.new_ f) (.ref (g4 b.len p)) (b.newL (dk.rep t k.toNat) f)
   ·cases a
  ·cases a
 ·cases a
end
@[elab_as_elim] theorem Ly {P:List cH->Prop}{us:List cH}(l:us.length=0)(f:P []):P us:=by
 cases us with
 |nil=>exact f
 |cons _ _=>cases l
@[elab_as_elim] theorem KP {P:List cH->Prop}{us:List cH}(l:us.length=1)(f:∀a,P [a]):P us:=by
 cases us with
 |nil=>cases l
 |cons a us=>exact Ly (P:=λus=>P (a::us)) (Nat.succ.inj l) (f a)
@[elab_as_elim] theorem Kb {P:List cH->Prop}{us:List cH}(l:us.length=2)(f:∀a b,P [a,b]):P us:=by
 cases us with
 |nil=>cases l
 |cons a us=>exact KP (P:=λus=>P (a::us)) (Nat.succ.inj l) (f a)
@[elab_as_elim] theorem KO {P:List cH->Prop}{us:List cH}(l:us.length=3)(f:∀a b c,P [a,b,c]):P us:=by
 cases us with
 |nil=>cases l
 |cons a us=>exact Kb (P:=λus=>P (a::us)) (Nat.succ.inj l) (f a)
@[elab_as_elim] theorem Lx {P:List cH->Prop}{us:List cH}(l:us.length=4)(f:∀a b c d,P [a,b,c,d]):P us:=by
 cases us with
 |nil=>cases l
 |cons a us=>exact KO (P:=λus=>P (a::us)) (Nat.succ.inj l) (f a)
end Mi
namespace HT
open PySem PySem.Spec PyProof.Rows
variable{prog:cK}{w:cN}{A:cM}{E:cH->cI->Prop}{s:cI}
theorem ly{sl:cJ}{t:Tok}{n:Nat}{Q:Int×Int×Nat->cI->Prop}(hs:s.heap.IsSliceOf sl .none .none (.int (-1) t))(h:Q ((n:Int)-1,-1,n) s):cR (model prog w) A (Builtin.Slice.sliceApplied (.ref sl) (pure (n:Int))) Q E s:=by
 obtain⟨d,b,c,a⟩:=id hs;unfold Builtin.Slice.sliceApplied Builtin.Slice.sliceFields;refine wB1 (wB1 (wpAny_field b a (x:=.none) O (wB1 (wpAny_field b a (x:=.none) O (wB1 (wpAny_field b a (x:=.int (-1) t) O (wP1 ?_)))))));refine wB1 (hU (.int (-1) t) ?_);show cR _ _ (if((-1:Int) == 0)=M then _ else _) _ _ s;rw[aj (by decide)];refine wB1 (hU .none (wB1 (hU .none (wB1 (wP1 ?_)))));show cR _ _ (pure ((n:Int)-1,(-1:Int),Builtin.Slice.slicePlaces ((n:Int)-1) (-1) (-1))) _ _ s;have e:Builtin.Slice.slicePlaces ((n:Int)-1) (-1) (-1)=n:=by
  unfold Builtin.Slice.slicePlaces;have h1:¬ (-1:Int)>0:=by lia
  have h2: -(-1:Int)=1:=rfl;simp only[h1,if_false,h2,Int.ediv_one];split<;>lia
 rw[e];exact wP1 h
theorem zS{α β:Type}{f g:α->Option β}:∀l:List α,(∀m,m∈l->f m=g m)->l.filterMap f=l.filterMap g:=by
 intro l
 induction l with
 |nil=>intro _;rfl
 |cons x l ih=>intro h;rw[aC,aC,h x (mS1 ..),ih λm a=>h m (mC1 _ a)]
theorem rr(xs:Array cH):((af xs.size).filterMap λ(m:Nat)=>xs[(((xs.size:Int)-1)+(m:Int)*(-1)).toNat]?).toArray=xs.toList.reverse.toArray:=by
 congr 1
 have e:((af xs.size).filterMap λ(m:Nat)=>xs[(((xs.size:Int)-1)+(m:Int)*(-1)).toNat]?)=(af xs.size).filterMap λm=>xs.toList.reverse[m]?:=by
  apply zS;intro m a;have a:=aA.mp a;rw[List.getElem?_reverse (by rw[aH];exact a),aT1,aH]
  congr 1
  lia
 rw[e];have:=pick_run xs.toList.reverse.toArray 0 xs.size;rw[aR]at this;have b:((λx=>xs.toList.reverse.toArray[x]?)∘λx=>0+x)=λm=>xs.toList.reverse[m]?:=by funext m;simp
 rw[b]at this;rw[this];simp only[List.drop_zero];exact bW (by simp)
theorem lf {t sl:cJ}{items:Array cH}{tk:Tok}{Q:cH->cI->Prop}(ht:IsTup s.heap t items)(hs:s.heap.IsSliceOf sl .none .none (.int (-1) tk))
  (h:Q (.ref s.heap.objs.size) {s with heap:=s.heap.push {cls:=.type "tuple",data:=.seq items.toList.reverse.toArray}})
  (hsz:items.size<=cQ):cR (model prog w) A (getItem (.ref t) (.ref sl)) Q E s:=by
 have a:sizeOk (.seq items.toList.reverse.toArray):=by
  show items.toList.reverse.toArray.size<=cQ;rw[aJ,bX,aH];exact hsz
 obtain⟨f,d,b,g⟩:=id hs;have c:s.TypeIs (.ref sl) "slice":=⟨f,d,b⟩;unfold getItem
 try with_reducible refine wpAny_holding ?_
 first|refine wB1 (wP1 ?_)|skip
 refine wB1 (wpAny_sequenceKey ht.typeIs (by decide) ?_);refine wB1 (wpAny_callSpecial?_slot (name:=Str.ofString "__getitem__") ht.typeIs PyProof.Rows.slot_tuple_getitem
  (wE1 PyProof.Rows.slot_tuple_getitem ht.typeIs entry_tuple_getitem ?_ (args_tuple_getitem _ _)))
 show cR _ _ (Builtin.Tuple.tupleItemsOf (.ref t) >>= _) _ _ s;refine wB1 (tupleItemsOf_ ht ?_);refine wB1 (wpAny_typeOf c ?_);rw[ak (by decide)];refine wB1 (ly hs ?_);have e:¬ (((items.size:Int)-1 == 0&&(-1:Int) == 1&&items.size == items.size)=M):=by
  intro q;rw[bA1,bA1]at q;exact absurd (eq_of_beq q.1.2) (by decide)
 show cR _ _ (if((items.size:Int)-1 == 0&&(-1:Int) == 1&&items.size == items.size)=M then _ else _) _ _ s;rw[aj e,rr]
 first
  |exact wB1 (m:=Builtin.Tuple.tupleExact _) (wO1 (wP1 ⟨_,rfl,wP1 h⟩) a)
  |exact wB1 (m:=Builtin.Tuple.tupleExact _) (wO1 (wB1 (wP1 (wP1 ⟨_,rfl,wP1 h⟩))) a)
  |exact wB1 (wB1 (m:=Builtin.Tuple.tupleExact _) (wO1 (wP1 (wP1 ⟨_,rfl,wP1 h⟩)) a))
  |exact wB1 (wB1 (m:=Builtin.Tuple.tupleExact _) (wO1 (wP1 ⟨_,rfl,wP1 h⟩) a))
end HT
namespace Mi
open PySem PySem.Spec PyProof.Rows L2
section
variable{X:Cx}
theorem rb:∀{xs:List V} {us:List cH},dM xs us->dM xs.reverse us.reverse:=by
 intro xs
 induction xs with
 |nil=>intro us r;cases r;exact .nil
 |cons x xs ih=>
  intro us r;cases r with
  |cons a r2=>rw[bq,bq];exact(ih r2).append (.cons a .nil)
end
end Mi
namespace HT
open PySem PySem.Spec PyProof.Rows
section
variable{prog:cK}{w:cN}{A:cM}{R:Result->cI->Prop}{I ax L:cJ}{xs:Array cH}
end
section
variable{prog:cK}{w:cN}{A:cM}{E:cH->cI->Prop}{s:cI}
end
end HT
namespace Mi
open PySem PySem.Spec PyProof.Rows L2
section
variable{X:Cx}
def zI:G1:=λd S=>match d with
 | .int i=>if i.natAbs.log2<1920 then Z (.str (toString i),S)else Y
 |_=>Y
def zM:G1:=λd S=>match d with
 | .int i=>Z (.bl (i != 0),S)
 | .bl b=>Z (.bl b,S)
 |_=>Y
theorem IR:eK X (.type "str") (rN X.K (b1 zI)):=by
 intro ag s σ H xs e Q I r h;obtain⟨x,mu,S,d,j,g,rfl,c,b,a,hc⟩:=AT h;cases d with
 |int i=>
  dsimp only[zI]at a;split at a
  ·rename_i f;cases a;cases c;exact qv ag s σ H _ e Q I r ⟨_,O,f,hc.now (.str _) b⟩
  ·cases a
 |_=>cases a
theorem GV:eK X (.type "bool") (rN X.K (b1 zM)):=by
 intro ag s σ H xs f Q I r h;obtain⟨x,mu,S,d,j,g,rfl,e,c,a,hc⟩:=AT h;cases d with
 |int i=>cases a;cases e;exact n9 ag s σ H _ f Q I r (.inl ⟨_,O,hc.now (.bl _) c⟩)
 |bl b=>cases a;cases e;exact n9 ag s σ H _ f Q I r (.inr ⟨_,O,hc.now (.bl _) c⟩)
 |_=>cases a
end
section
variable{elt tg iter tg2 iter2 tg3 iter3:Expr}{ifs ifs2 ifs3:List Expr}{scope:cW}{pos:Pos}
end
section
variable{X:Cx}
end
def wL(a:Int):List Int->List Int
 |[]=>[a]
 |b::l=>if a<=b then a::b::l else b::wL a l
def fF:List Int->List Int
 |[]=>[]
 |a::l=>wL a (fF l)
theorem lM(a:Int):∀l:List Int,(wL a l).Perm (a::l)
 |[]=>.refl _
 |b::l=>by
  rw[wL];split
  ·exact .refl _
  ·exact((lM a l).cons b).trans (.swap _ _ _)
theorem en:∀l:List Int,(fF l).Perm l
 |[]=>.refl _
 |a::l=>(lM a _).trans ((en l).cons a)
theorem vD{a:Int}:∀{l:List Int},l.Pairwise (· <= ·)->(wL a l).Pairwise (· <= ·)
 |[],_=>List.pairwise_singleton _ _
 |b::l,h=>by
  rw[bY]at h;rw[wL];split
  ·rename_i c;rw [bY,bY];exact ⟨fun x d=>by
    rcases aD.mp d with z|z
    ·lia
    ·have:=h.1 x z;lia,h.1,h.2⟩
  ·rename_i c;rw[bY];refine⟨λx d=>?_,vD h.2⟩;rcases aD.mp ((lM a l).mem_iff.mp d)with z|z
   ·lia
   ·exact h.1 x z
theorem iE:∀l:List Int,(fF l).Pairwise (· <= ·)
 |[]=>.nil
 |a::l=>vD (iE l)
theorem kZ:∀{a b:List Int},a.Perm b->a.Pairwise (· <= ·)->b.Pairwise (· <= ·)->a=b
 |[],b,p,_,_=>(List.nil_perm.mp p).symm
 |x::a,[],p,_,_=>absurd p.length_eq (by simp)
 |x::a,y::b,p,h1,h2=>by
  rw[bY]at h1 h2;have e:x=y:=by
   have d:=p.mem_iff.mp (mS1 (a:=x) (l:=a));have f:=p.mem_iff.mpr (mS1 (a:=y) (l:=b));rcases aD.mp d with z|z
   ·exact z
   ·rcases aD.mp f with c|c
    ·exact c.symm
    ·have:=h2.1 x z;have:=h1.1 y c;lia
  subst e;rw[kZ (List.perm_cons x |>.mp p) h1.2 h2.2]
def pi:List D->Option (List Int)
 |[]=>Z []
 | .int i::l=>(pi l).map λt=>i::t
 |_=>Y
def lh:G1:=λd S=>match d with
 | .ref n=>match S[n]? with
  |some (.lst xs)=>(pi xs).bind λns=>if ns.length<64 then Z (.ref S.length,S++[.lst ((fF ns).map D.int)])else Y
  |_=>Y
 |_=>Y
section
variable{X:Cx}
theorem wJ{K:Fg1}{H:Hp}{mu:List cJ}:∀{ds:List D} {vs:List V} {us:List cH} {ns:List Int},dk K H mu ds vs->dM vs us->pi ds=Z ns->IntsAre us ns:=by
 intro ds
 induction ds with
 |nil=>intro vs us ns r v h;cases r;cases v;cases h;exact .nil
 |cons d ds ih=>
  intro vs us ns r v h;cases r with
  |cons b t=>
   cases v with
   |cons c a=>
    cases b
    case int i=>
     obtain⟨m,e,h⟩:=oM1.mp h;subst h;obtain⟨tk,rfl⟩:=c;exact .cons i tk (ih t a e)
    all_goals cases h
theorem pf:∀{us:List cH} {ns:List Int},IntsAre us ns->dM (ns.map V.int) us:=by
 intro us ns h
 induction h with
 |nil=>exact .nil
 |cons i t _ ih=>exact .cons ⟨t,O⟩ ih
theorem wK:∀{ds:List D} {ns:List Int},pi ds=Z ns->ns.length=ds.length:=by
 intro ds
 induction ds with
 |nil=>intro ns h;cases h;rfl
 |cons d ds ih=>
  intro ns h;cases d with
  |int i=>
   obtain⟨m,e,h⟩:=oM1.mp h;subst h;rw[lC1,lC1,ih e]
  |_=>cases h
theorem Ar:eK X (.builtin "sorted") (rN X.K (b1 lh)):=by
 intro ag s σ H xs F Q I r h;obtain⟨x,mu,S,d,am,ao,rfl,E,p,c,hc⟩:=AT h;cases d with
 |ref n=>
  dsimp only[lh]at c;split at c
  ·rename_i ds D;obtain⟨ns,y,c⟩:=oB1.mp c;split at c
   ·rename_i K;cases c;have i:dj S (.ref n)=Z (M,ds):=by simp only[dj,D]
    obtain⟨a,vs,rfl,q,t⟩:=dr E p i;obtain⟨u,rfl,r2⟩:=hQ r;cases r2;obtain⟨f,w,B,L⟩:=I.list q;have C:=wJ t w y;have z:f.length=ns.length:=by
     rw[<- w.length,<- t.length,wK y]
    refine sorted_ints B.isList C (by lia) λg m j A v=>?_;have k:m=fF ns:=kZ (A.trans (en ns).symm) v (iE ns);subst k;obtain⟨ep,l⟩:=sortedAll_at s.heap f g;have e:=I.hok.fresh (bF s.heap.objs.size);refine⟨.ref (s.heap.objs.size+1),_,I.laid (t':=s.toks) (o:=.lst ((fF ns).map V.int)) (λb G q=>sortedAll_old q) (bF _) ?_,O,hc _ _ (mu++[_]) (Ext.new_ e) (.ref (g4 p.len _)) (p.newL (iI _) e)⟩;refine⟨?_,g.toList,ep,pf j,by rw[Array.toArray_toList];exact l⟩;rw[lM1,(en ns).length_eq,sizeLine_eq];lia
   ·cases c
  ·cases c
 |_=>cases c
end
end Mi
namespace Mi
open PySem PySem.Spec PyProof.Rows L2
theorem wr(its:List cH):slicePick its.toArray Y Y (Z (-1))=its.reverse.toArray:=by
 have h:=HT.rr its.toArray;rw[aJ]at h;unfold slicePick;have b:sliceBounds Y Y (Z (-1)) its.toArray.size=(((its.length:Nat):Int)-1,-1,-1):=by
  rw[aJ];unfold sliceBounds;have h1:¬ ((Z (-1:Int)).getD 1>0):=by decide
  simp only[h1,if_false];rfl
 rw[b];unfold sliceRange;have hc:(if((its.length:Nat):Int)-1 > -1 then(((its.length:Nat):Int)-1 - -1 - -1-1)/(- -1)else 0).toNat=its.length:=by
  have h2: - (-1:Int)=1:=rfl;rw[h2,Int.ediv_one];split<;>lia
 dsimp only;rw[aj (by decide),hc,aR];have e:((λx=>its.toArray[x]?)∘λ(k:Nat)=>((its.length:Int)-1 + -1*(k:Int)).toNat)=λ(m:Nat)=>its.toArray[(((its.length:Int)-1)+(m:Int)*(-1)).toNat]?:=by
  funext m
  have a:((its.length:Int)-1 + -1*(m:Int)).toNat=(((its.length:Int)-1)+(m:Int)*(-1)).toNat:=by rw[Int.mul_comm]
  show its.toArray[((its.length:Int)-1 + -1*(m:Int)).toNat]?=its.toArray[(((its.length:Int)-1)+(m:Int)*(-1)).toNat]?;rw[a]
 rw[e,h]
section
variable{X:Cx}
def Hs(K:Fg1)(te tk:TE):TE:=fun σ H Q=>te σ H λx H1=>tk σ H1 λk H2=>k = .int (-1)/\((∃a xs,x = .ref a/\jt K H2 a xs /\ ∀p,H2 p=Y->Q (.ref p) (upd H2 p (.tup xs.reverse)))\/(∃a xs,x = .ref a/\lv K H2 a xs /\ ∀p,H2 p=Y->Q (.ref p) (upd H2 p (.lst xs.reverse))))
theorem tS{e j:Expr}{te tk:TE}{pos p2:Pos}(he:PE X e te)(hk:PE X j tk):PE X (.Subscript e (.Slice Y Y (Z j) p2) pos) (Hs X.K te tk):=by
 intro ag s σ H Q I h;refine Subscript_ (eR (he ag s σ H _ I h) λv C ⟨x,H1,z,p,B⟩=>?_);refine wpAny_Slice ?_;rw[evalPart_none];refine wP1 ?_;refine wP1 ?_;rw[evalPart_some];refine eR (hk ag C σ H1 _ z B) λu c ⟨k,H2,A,y,m⟩=>?_;obtain⟨rfl,m⟩:=m;obtain⟨t,rfl⟩:=y;have f:Inv X ag σ H2 {c with heap:=c.heap.push {cls:=.type "slice",data:=.fields #[.none,.none,.int (-1) t]}}:=A.kept (t':=c.toks) λb w q=>hP1 _ q;rcases m with⟨a,xs,rfl,n,q⟩|⟨a,xs,rfl,n,q⟩
 ·cases p;obtain⟨g,r,i,l⟩:=f.tuple n;have d:g.toArray.size=xs.length:=by rw[aJ];exact r.length.symm
  show cR (model X.prog X.w) X.A (subscriptTail e (.Slice Y Y (Z j) p2) (.ref a) (.ref c.heap.objs.size)) (EP X ag σ Q) X.xe {c with heap:=c.heap.push {cls:=.type "slice",data:=.fields #[.none,.none,.int (-1) t]}};refine tail_any (ops:=[.ref a,.ref c.heap.objs.size]) i.typeIs PyProof.Rows.slot_tuple_getitem.lookup ?_ (by with_unfolding_all rfl);refine HT.lf i (Heap.IsSliceOf.new ..) ?_ (by rw[d];exact l);refine⟨.ref _,_,f.laid (t':=c.toks) (o:=.tup xs.reverse) (λb w q=>hP1 _ q) (nR1 _) ?_,O,q _ (f.hok.fresh (nR1 _))⟩;exact⟨by rw[bX];exact l,_,rb r,IsTup.new _ _⟩
 ·cases p;obtain⟨g,r,i,l⟩:=f.list n;have d:=r.length;show cR (model X.prog X.w) X.A (subscriptTail e (.Slice Y Y (Z j) p2) (.ref a) (.ref c.heap.objs.size)) (EP X ag σ Q) X.xe {c with heap:=c.heap.push {cls:=.type "slice",data:=.fields #[.none,.none,.int (-1) t]}};refine tail_any (ops:=[.ref a,.ref c.heap.objs.size]) i.isList.typeIs slot_list_getitem.lookup ?_ (by with_unfolding_all rfl);refine wpAny_getItem_list_slice i.isList (Heap.IsSliceOf.new ..) .none .none (.int (-1) t) (by decide) ?_ (by rw[aJ];lia);rw[wr];refine⟨.ref _,_,f.laid (t':=c.toks) (o:=.lst xs.reverse) (λb w q=>hP1 _ q) (nR1 _) ?_,O,q _ (f.hok.fresh (nR1 _))⟩;exact⟨by rw[bX];exact l,_,0,rb r,hS1 _ O⟩
def HH(S:Sto)(d k:D):Option (D×Sto):=match k with
 | .int i=>if i = -1 then(dj S d).map λp=>if p.1=M then(.ref S.length,S++[.lst p.2.reverse])else(.tup p.2.reverse,S)else Y
 |_=>Y
def vp(m a:FE):FE:=λr S=>(m r S).bind λp=>(a r p.2).bind λb=>HH b.2 p.1 b.1
theorem lZ{e o:Expr}{m a:FE}{pos p2:Pos}(h:XE X e m)(B:XE X o a):XE X (.Subscript e (.Slice Y Y (Z o) p2) pos) (vp m a):=
 ⟨eo (tS h.h B.h) <| by
  rintro σ H Q ⟨r,mu,S,d,G,s,x,b,hc⟩;obtain⟨⟨C,n⟩,y,b⟩:=oB1.mp b;obtain⟨⟨w,A⟩,z,b⟩:=oB1.mp b;refine⟨r,mu,S,C,n,s,x,y,λv H1 mu1 l E F=>?_⟩;refine⟨r,mu1,n,w,A,s.ext l,F,z,λu H2 g x2 r2 j=>?_⟩;cases w with
  |int i=>
   dsimp only[HH]at b;split at b
   ·rename_i hi;subst hi;cases r2;refine⟨O,?_⟩;obtain⟨⟨k,xs⟩,D,b⟩:=oM1.mp b;obtain⟨c,vs,rfl,q,t⟩:=dr (E.ext x2) j D;cases k with
    |true=>
     cases b;right;exact⟨c,vs,O,q,λp f=>hc _ _ (g++[p]) ((l.trans x2).trans (Ext.new_ f)) (.ref (g4 j.len p)) (j.newL t.reverse f)⟩
    |false=>
     simp only[bF1,if_false]at b;cases b;left;exact⟨c,vs,O,q,λp f=>hc _ _ g ((l.trans x2).trans (Ext.fresh f)) (.tup (jt.of dZ) (t.reverse.ext (Ext.fresh f))) (j.fresh f)⟩
   ·cases b
  |_=>cases b⟩
end
theorem jQ(n:Nat):∀ns:List Int,D.unds n (ns.map D.int)=M
 |[]=>rfl
 |_::ns=>by rw[mP1,D.unds,jQ n ns];rfl
theorem CL{n:Nat}{d:D}{S:Sto}(h:S.length=n):gc n (d,S)=(d,S):=by
 unfold gc;split
 ·rw[show(d,S).2=S from rfl,<- h,bR]
 ·rfl
theorem pu{n:Nat}{f:FN}{ds:List D}{S S1:Sto}{d:D}(h:f ds []=Z (d,S1))(hn:ds.length=n)(a:D.unds 0 ds=M)(hd:d.und 0=M):c9 n f ds S=Z (d,S):=by
 unfold c9 px;rw[ak hn,ak a,h,oP1,ak hd]
theorem sH{n:Nat}{f:FN}{ds:List D}{S S1:Sto}{d:D}(h:f ds []=Z (d,S1))(hn:ds.length=n)(a:D.unds 0 ds=M)(hd:d.und 0=J):c9 n f ds S=Z (d.sh S.length,S++S1.map (Ob.sh S.length)):=by
 unfold c9 px;rw[ak hn,ak a,h,oP1,aj (by dsimp only;rw[hd];decide)]
theorem pv{n:Nat}{f:FN}{ds:List D}{S S1:Sto}{d:D}(h:f ds S=Z (d,S1))(hn:ds.length=n)(a:D.unds 0 ds=J):c9 n f ds S=Z (gc S.length (d,S1)):=by
 unfold c9 px;rw[ak hn,aj (by rw[a];decide),h,oP1]
theorem w6{n:Nat}{f:FN}{ds:List D}{S S1:Sto}{d:D}(h:f ds S=Z (d,S1))(hn:ds.length=n)(b:D.unds 0 ds=J)(a:S1.length=S.length):c9 n f ds S=Z (d,S1):=by
 rw[pv h hn b,CL a]
theorem yY{i j:Int}(h1: -(2^64)<i)(h2:i<2^64):gh i j=M:=by
 unfold gh;simp only[bJ,bA1,al];exact .inl (.inl ⟨h1,h2⟩)
theorem vn{i j:Int}(h1: -(2^64)<j)(h2:j<2^64):gh i j=M:=by
 unfold gh;simp only[bJ,bA1,al];exact .inl (.inr ⟨h1,h2⟩)
theorem hA{S:Sto}{n:Nat}{xs:List D}(h:S[n]?=Z (.lst xs)):qS S [(n,xs)]=M:=by
 rw[qS,h];simp[D.sames_refl,qS]
def jX(n:Nat):Nat->List D
 |0=>[]
 |k+1=>.ref n::jX (n+1) k
open Classical in
def rkV(ws:List cH)(x:cH):Nat:=ws.findIdx λy=>decide (y=x)
theorem ES{ws:List cH}{x:cH}(h:x∈ws):ws[rkV ws x]?=Z x:=by
 have a:rkV ws x<ws.length:=List.findIdx_lt_length_of_exists ⟨x,h,by simp⟩;rw[gG1 a];have:=List.findIdx_getElem (w:=a);have e:ws[rkV ws x]=x:=of_decide_eq_true this;rw[e]
def kR(ws:List cH)(xs:Array Keyed)(i:Nat):Nat:=(xs[i]?.map λp=>rkV ws p.1).getD 0
structure Ju (prog:cK)(w:cN)(A:cM)(s:cI)(κ:SortKind)(ws:List cH)(a₀:Array Keyed):Prop where
 nd:ws.Nodup
 keys:(a₀.toList.map (·.1)).Perm ws
 lt:∀(x y:cH) (i j:Nat),ws[i]?=some x->ws[j]?=some y->i≠j -> ∀(E:cH->cI->Prop) (Q:Bool->cI->Prop),Q (decide (i<j)) s->cR (model prog w) A (keyLt' κ x y) Q E s
section
variable{prog:cK}{w:cN}{A:cM}{E:cH->cI->Prop}{s:cI}{κ:SortKind}{ws:List cH}{a₀:Array Keyed}
theorem Ju.at_(C:Ju prog w A s κ ws a₀){xs:Array Keyed}(p:xs.Perm a₀){i:Nat}(hi:i<a₀.size):∃x q,xs[i]?=Z (x,q)/\ws[kR ws xs i]?=Z x:=by
 have a:i<xs.size:=by rw[p.size_eq];exact hi
 refine⟨xs[i].1,xs[i].2,aG1 a,?_⟩;have b:xs[i]∈a₀.toList:=(Array.perm_iff_toList_perm.mp p).mem_iff.mp (by simp);have:=ES (C.keys.mem_iff.mp (bZ.mpr ⟨_,b,O⟩));unfold kR;rw[aG1 a];exact this
theorem Ju.inj(C:Ju prog w A s κ ws a₀){xs:Array Keyed}(p:xs.Perm a₀){i j:Nat}(hi:i<a₀.size)(d:j<a₀.size)(h:kR ws xs i=kR ws xs j):i=j:=by
 obtain⟨x,q,c,b⟩:=C.at_ p hi;obtain⟨y,r,e,k⟩:=C.at_ p d;rw[h,k]at b;cases b;have f:(xs.toList.map (·.1)).Nodup:=(((Array.perm_iff_toList_perm.mp p).map (·.1)).trans C.keys).nodup_iff.mpr C.nd;have a:(xs.toList.map (·.1))[i]?=Z x:=by rw[gP1,aT1,c];rfl
 have g:(xs.toList.map (·.1))[j]?=Z x:=by rw[gP1,aT1,e];rfl
 exact(List.getElem?_inj (gE1.mp a).1 f).mp (a.trans g.symm)
end
section
variable{prog:cK}{w:cN}{A:cM}{E:cH->cI->Prop}{s:cI}
end
section
variable{prog:cK}{w:cN}{A:cM}{E:cH->cI->Prop}{R:Result->cI->Prop}
end
section
variable{prog:cK}{w:cN}{A:cM}{E:cH->cI->Prop}{s:cI}
end
structure Pr where
 k:TK
 d:D
 ka:cJ
 u:cH
 vv:V
 a:cJ
def Pr.Ok(K:Fg1)(H:Hp)(mu:List cJ)(h:cT)(lo:Nat)(y:Pr):Prop:=lo<=y.a/\ez K H mu (oz y.k) (.ref y.ka)/\dt y.vv y.u/\ez K H mu y.d y.vv/\h.get? y.a=Z {cls:=.type "tuple",data:=.seq #[.ref y.ka,y.u]}
section
variable{X:Cx}
end
section
variable{prog:cK}{w:cN}{A:cM}{E:cH->cI->Prop}{s:cI}
end
section
variable{prog:cK}{w:cN}{A:cM}{E:cH->cI->Prop}{R:Result->cI->Prop}
end
section
variable{X:Cx}
theorem KT.keys{K:Fg1}{H:Hp}{mu:List cJ}:∀{ks:List (TK×D)} {ws:List (TK×cJ×cH)},KT K H mu ks ws->dk K H mu (ks.map λp=>oz p.1) (ws.map λx=>V.ref x.2.1)
 |_,_,.nil=>.nil
 |_,_,.cons ⟨z,d,k,_⟩ t=>.cons k (KT.keys t)
end
section
variable{X:Cx}{ag:List (cJ×Obj)}{σ:L2.St}{H:Hp}{s:cI}{a:cJ}{u v:HO}
end
section
variable{K:Fg1}{H H':Hp}{mu mu':List cJ}{S:Sto}{n:Nat}{a:cJ}{o:Obj}{u:HO}
end
theorem uH.lt{xs:Array Nat}(h:uH xs){a b u v:Nat}(e:a<b)(d:xs[a]?=Z u)(c:xs[b]?=Z v):u<v:=by
 rw[<- aT1]at d c;obtain⟨g,d⟩:=gE1.mp d;obtain⟨f,c⟩:=gE1.mp c;have:=b0.mp h a b g f e;rw[d,c]at this;exact this
structure Bs (xs:Array Nat)(j i:Nat):Prop where
 le:i<=xs.size
 lo:∀k v,xs[k]?=some v->k<i->v<j
 hi:∀k v,xs[k]?=some v->i<=k->j<=v
theorem Bs.uniq{xs:Array Nat}{j i i':Nat}(h:Bs xs j i)(h':Bs xs j i'):i=i':=by
 rcases Nat.lt_trichotomy i i' with z|z|z
 ·have a:i<xs.size:=nL1 z h'.le;have e:=aG1 a;have:=h.hi _ _ e (nR1 _);have:=h'.lo _ _ e z;lia
 ·exact z
 ·have a:i'<xs.size:=nL1 z h.le;have e:=aG1 a;have:=h'.hi _ _ e (nR1 _);have:=h.lo _ _ e z;lia
theorem Ax{xs:Array Nat}{j:Nat}(hr:uH xs):∀n lo hi:Nat,lo<=hi->hi<=xs.size->hi-lo<=n->(∀k v,xs[k]?=Z v->k<lo->v<j)->(∀k v,xs[k]?=Z v->hi<=k->j<=v)->Bs xs j (SetTable.below.go xs j n lo hi)
 |0,lo,hi,h1,h2,i,c,b=>by
  have:lo=hi:=by lia
  subst this;exact⟨h2,c,b⟩
 |n + 1,lo,hi,h1,h2,i,c,b=>by
  rw[SetTable.below.go];by_cases d:lo<hi
  ·rw[ak d];have f:(lo+hi)/2<xs.size:=by lia
   have a:=aG1 f;have g:xs.getD ((lo+hi)/2) j=xs[(lo+hi)/2]:=by simp[Array.getD,f]
   dsimp only;rw[g];by_cases hc:xs[(lo+hi)/2]<j
   ·rw[ak hc];refine Ax hr n _ _ (by lia) h2 (by lia) (λk v e h=>?_) b;rcases bP k ((lo+hi)/2)with z|z
    ·have:=hr.lt z e a;lia
    ·have:k=(lo+hi)/2:=by lia
     subst this;rw[a]at e;cases e;exact hc
   ·rw[aj hc];refine Ax hr n _ _ (by lia) (by lia) (by lia) c λk v e h=>?_;rcases bP ((lo+hi)/2) k with z|z
    ·have:=hr.lt z a e;lia
    ·have:k=(lo+hi)/2:=by lia
     subst this;rw[a]at e;cases e;lia
  ·rw[aj d];have:lo=hi:=by lia
   subst this;exact⟨h2,c,b⟩
theorem oe{xs:Array Nat}(hr:uH xs)(j:Nat):Bs xs j (SetTable.below xs j):=
 Ax hr _ 0 _ (bj _) (nR1 _) (by lia) (λ_ _ _ h=>absurd h (bw _)) λk v e h=>by
  have:=(Array.getElem?_eq_some_iff.mp e).1;lia
theorem zA{α:Type}(xs:Array α)(p:Nat)(x:α):(SetTable.insertAt xs p x).toList=xs.toList.take p++x::xs.toList.drop p:=by
 unfold SetTable.insertAt;rw[Array.toList_append,b7,Array.toList_extract,Array.toList_extract];simp[List.extract_eq_drop_take];rw[bW (by simp)]
theorem Bn{xs:Array Nat}(hr:uH xs){j:Nat}(hn:xs[SetTable.below xs j]? ≠ Z j):uH (SetTable.insertAt xs (SetTable.below xs j) j):=by
 have b:=oe hr j;unfold uH;rw[zA,List.pairwise_append,bY];have lo:∀v∈xs.toList.take (SetTable.below xs j),v<j:=λv f=>by
  obtain⟨k,d⟩:=bt f;rw[List.getElem?_take]at d;split at d
  ·rename_i h;exact b.lo k v (by rw[<- aT1];exact d) h
  ·cases d
 have hi:∀v∈xs.toList.drop (SetTable.below xs j),j<v:=λv f=>by
  obtain⟨k,d⟩:=bt f;rw[List.getElem?_drop,aT1]at d;have h1:=b.hi _ v d (Nat.le_add_right _ _);rcases bP j v with z|z
  ·exact z
  ·exfalso;have g:v=j:=by lia
   subst g;cases k with
   |zero=>exact hn d
   |succ k=>
    have l:SetTable.below xs v<xs.size:=by have:=(Array.getElem?_eq_some_iff.mp d).1;lia
    have e:=aG1 l;have:=b.hi _ _ e (nR1 _);have:=hr.lt (by lia) e d;lia
 refine⟨hr.sublist (List.take_sublist _ _),⟨hi,hr.sublist (List.drop_sublist _ _)⟩,λa i c hc=>?_⟩;rcases aD.mp hc with z|z
 ·rw[z];exact lo a i
 ·exact bi (lo a i) (hi c z)
structure TS (l:Bool)(t:SetTable):Prop where
 up:uH t.place
 du:t.dummies = #[]
 ld:t.led=l
theorem rT{t:SetTable}(hd:t.dummies = #[])(j:Nat):SetTable.has t.dummies j=J:=by rw[hd];rfl
theorem oO{t:SetTable}(hd:t.dummies = #[]){f:Nat->Int}{h:Int}:∀(n:Nat) (p:SetTable.Probe) (j:Nat) (d:Option Nat),p.dummy=Y->SetTable.probe.go t f h n p=Z (.empty j d)->d=Y/\t.place[SetTable.below t.place j]? ≠ Z j
 |0,p,j,d,_,e=>by rw[SetTable.probe.go]at e;cases e
 |n+1,p,j,d,hp,e=>by
  have a:(t.advance p).dummy=Y:=by
   unfold SetTable.advance;split
   ·exact hp
   ·dsimp only;exact hp
  rw[SetTable.probe.go]at e;unfold SetTable.slot at e;dsimp only at e;rw[rT hd]at e;by_cases hc:(t.place[SetTable.below t.place p.j]? == Z p.j)=M
  ·rw[ak hc]at e;dsimp only at e;split at e
   ·cases e
   ·exact oO hd n _ j d a e
  ·rw[aj hc,aj (by decide)]at e;dsimp only at e;cases e;refine⟨hp,λz=>hc ?_⟩;rw[z];simp
theorem CN{t:SetTable}(hd:t.dummies = #[]){h:Int}{j:Nat}{b:Bool}(e:t.freeSlot h=Z (j,b)):t.place[SetTable.below t.place j]? ≠ Z j:=by
 unfold SetTable.freeSlot at e;split at e
 ·rename_i c d ep;obtain⟨rfl,a⟩:=oO hd _ _ _ _ O ep;cases e;exact a
 ·cases e
theorem kP{l:Bool}{t:SetTable}(h:TS l t)(n:Nat):TS l (t.standIn n):=by
 refine⟨?_,O,h.ld⟩;show(Array.range n).toList.Pairwise (· < ·);rw[Array.toList_range];exact b8
theorem Hn{l:Bool}{t:SetTable}(h:TS l t)(n:Nat):TS l (t.orStandIn n):=by
 unfold SetTable.orStandIn;split
 ·exact h
 ·exact kP h n
theorem Eo{l:Bool}{t:SetTable}(ht:TS l t)(es:Array (Int×cH))(h:Int)(x:cH):TS l (layNew t es h x).2.1:=by
 unfold layNew;split
 ·rename_i j b e;show TS l ((t.put j).1.orStandIn _);refine Hn (t:=(t.put j).1) ⟨?_,?_,ht.ld⟩ _
  ·exact Bn ht.up (CN ht.du e)
  ·show(if SetTable.has t.dummies j=M then _ else t.dummies) = #[];rw[rT ht.du,aj (by decide)];exact ht.du
 ·exact kP ht _
theorem qs{α:Type}(f:Nat->Option α):∀l:List Nat,((l.filterMap λj=>(f j).map (j,·)).map (·.1)).Sublist l
 |[]=>.slnil
 |a::l=>by
  rw[aC];cases f a with
  |none=>exact(qs f l).cons a
  |some x=>exact(qs f l).cons₂ a
theorem Bb{l p:Bool}{m b a:Nat}{hs:Array Int}{t:SetTable}{ord:Array Nat}(e:SetTable.laid m b a l p hs=Z (t,ord)):TS l t:=by
 unfold SetTable.laid at e;obtain⟨c,_,e⟩:=oB1.mp e;cases e;refine⟨?_,O,O⟩;unfold uH;dsimp only;exact List.pairwise_lt_range.sublist (by simpa using qs (λj=>c.getD j Y) (af (m+1)))
theorem xK{l:Bool}{t:SetTable}(ht:TS l t)(es:Array (Int×cH))(n:Nat):TS l (relayAll t es n).2.1:=by
 unfold relayAll;split
 ·rename_i a ord e;dsimp only;split
  ·have:=Bb e;rw[ht.ld]at this;exact this
  ·exact kP ht _
 ·exact kP ht _
theorem rf(l:Bool):TS l (SetTable.fresh 0 0 l):=⟨List.Pairwise.nil,O,O⟩
theorem Db{xs:Array Nat}(hr:uH xs){i:Nat}(hi:i<xs.size):SetTable.below xs (xs[i]+1)=i+1:=by
 refine(oe hr _).uniq ⟨hi,λk v e a=>?_,λk v e a=>?_⟩
 ·rcases bP k i with z|z
  ·have:=hr.lt z e (aG1 hi);lia
  ·have:k=i:=by lia
   subst this;rw[aG1 hi]at e;cases e;lia
 ·have:=hr.lt (show i<k by lia) (aG1 hi) e;lia
theorem Aw{xs:Array Nat}(hr:uH xs):SetTable.below xs 0=0:=
 (oe hr _).uniq ⟨bj _,λk v e a=>absurd a (bw _),λk v e a=>bj _⟩
def Kd(e:Int×cH):Int:=match e.2 with
 | .int k _=>k
 |_=>0
structure Els (es:Array (Int×cH))(ns:List Int):Prop where
 el:∀e∈es.toList,∃k t,e=(hashInt k,Value.int k t)
 pm:(es.toList.map Kd).Perm ns
theorem Els.of{P:cK}{w:cN}{es:Array (Int×cH)}{ns:List Int}(h:Els es ns):ElemsOf (intKind P w) es.toList:=λe a=>by
 obtain⟨k,t,rfl⟩:=h.el e a;exact⟨⟨k,intKind_is _ _ _ _,O⟩,O⟩
theorem Els.size{es:Array (Int×cH)}{ns:List Int}(h:Els es ns):es.size=ns.length:=by
 have:=h.pm.length_eq;rw[lM1,aH]at this;exact this
theorem Els.perm{es fs:Array (Int×cH)}{ns:List Int}(h:Els es ns)(p:fs.toList.Perm es.toList):Els fs ns:=
 ⟨λe a=>h.el e (p.mem_iff.mp a),(p.map _).trans h.pm⟩
theorem Els.add{es fs:Array (Int×cH)}{ns:List Int}(h:Els es ns){k:Int}{t:Tok}(p:fs.toList.Perm (es.push (hashInt k,.int k t)).toList):Els fs (ns++[k]):=by
 rw[b7]at p;refine⟨λe a=>?_,?_⟩
 ·rcases aE.mp (p.mem_iff.mp a)with z|z
  ·exact h.el e z
  ·simp at z;exact⟨k,t,z⟩
 ·refine(p.map _).trans ?_;rw[b9];exact h.pm.append (.refl _)
def g5(b:Bool)(p:cJ)(ns:List Int)(h:cT):Prop:=∃es ep t l,h.get? p=Z (stO es ep t)/\Els es ns/\es.size<scanBound/\t.fits es.size=M/\TS l t/\(b=J->l=M)
section
variable{P:cK}{w:cN}{A:cM}{E:cH->cI->Prop}{s:cI}{b:Bool}{p:cJ}{ns:List Int}
theorem yq{es fs:Array (Int×cH)}{ep:Nat}{t u:SetTable}{h:cT}(e:h.get? p=Z (stO es ep t)):(h.update p (Obj.putSet fs u)).get? p=Z (stO fs (ep+1) u):=by
 have:=hW1 (Obj.putSet fs u) e (by rw[putSet_of fs u O];rfl);rw[putSet_of fs u O]at this;exact this
theorem gw{c:Bool}{Q:Unit->cI->Prop}(q:Q () s):cR (model P w) A (match c with
  |true=>rule "set.scan.the-table-gave-way"
  |false=>pure ()) Q E s:=by cases c<;>first|exact wP1 q|exact wpAny_rule q
theorem IX{k:Int}{tk:Tok}{Q:Bool->cI->Prop}(wq:g5 b p ns s.heap)(hr:ns.length+1<scanBound)(q:∀c h',Heap.SameBut p s.heap h'->g5 b p (step_dedup ns k) h'->Q c {s with heap:=h'}):cR (model P w) A (setAddHashed p (.int k tk) (hashInt k)) Q E s:=by
 obtain⟨es,ep,t,l,m,a,U,C,ar,F⟩:=wq;have hz:=a.size;have R:ElemsOf (intKind P w) es.toList:=a.of;unfold setAddHashed setAddHashedIn;refine wpAny_holding (wB1 (wpAny_setState_of m O C ?_));dsimp only;rw[byScan_of (knd:=intKind P w) O U R,ak O];unfold setAddByScan;refine wB1 (wB1 (wpAny_rule (wB1 (wpAny_setScan_of (knd:=intKind P w) (k:=k) (intKind_is _ _ _ _) m O C R ?_))));cases hx:List.findIdx? (λe=>(intKind P w).is k e.2) es.toList with
 |some j=>
  obtain⟨ao,h,_⟩:=List.findIdx?_eq_some_iff_getElem.mp hx;have K:k∈ns:=by
   refine a.pm.mem_iff.mp (bZ.mpr ⟨_,bN ao,?_⟩);obtain⟨k',X,e⟩:=a.el _ (bN ao);rw[e]at h ⊢;exact((intKind P w).inj _ _ _ h (intKind_is P w k' X)).symm
  have G:step_dedup ns k=ns:=by unfold step_dedup;rw[ak (bM.mpr ⟨k,K,by simp⟩)]
  rw[G]at q;exact wP1 (wP1 (q _ s.heap (Heap.SameBut.refl p s.heap) ⟨es,ep,t,l,m,a,U,C,ar,F⟩))
 |none=>
  have G:step_dedup ns k=ns++[k]:=by
   unfold step_dedup;rw[aj λz=>?_];obtain⟨k',K,e⟩:=bM.mp z;have e:=beq_iff_eq.mp e;subst e;obtain⟨x,g,d⟩:=bZ.mp (a.pm.mem_iff.mpr K);obtain⟨o,i,rfl⟩:=a.el x g;have d:o=k':=d;subst d;have:=List.findIdx?_eq_none_iff.mp hx _ g;rw[show(intKind P w).is o (hashInt o,Value.int o i).2=M from intKind_is _ _ _ _]at this;cases this
  rw[G]at q;have B:=layNew_perm t es (hashInt k) (.int k tk);have I:=layNew_fits t es (hashInt k) (.int k tk);have n:=Eo ar es (hashInt k) (.int k tk);dsimp only;generalize layNew t es (hashInt k) (.int k tk)=L at B I n ⊢;obtain⟨fs,u,W,gv⟩:=L;dsimp only at B I n ⊢;have y:Els fs (ns++[k]):=a.add B;have D:fs.size<scanBound:=by rw[y.size,lA1];exact hr
  refine wB1 (gw ?_);have tail:∀ (c:Bool),cR (model P w) A (do
    storeSet p fs u
    if (!W&&u.tooFull)=true then do
      (match (relayAll u fs (SetTable.grown fs.size)).2.2 with
       |true=>rule "set.scan.the-table-gave-way"
       |false=>pure ())
      storeSet p (relayAll u fs (SetTable.grown fs.size)).1 (relayAll u fs (SetTable.grown fs.size)).2.1
      pure (Z M)
     else pure (Z M)) (λr s'=>cR (model P w) A (match r with
      |some f=>pure f
      |none=>setAddHashedIn p (.int k tk) (hashInt k) 99999) Q E s') E s:=λ_=>by
   refine wB1 (wpAny_storeSet_of m O ?_ (fits_of_scanBound D));have H:=yq (fs:=fs) (u:=u) m;have T:=Heap.SameBut.update s.heap p (Obj.putSet fs u);split
   ·have p2:=relayAll_perm u fs (SetTable.grown fs.size);have am:=relayAll_fits u fs (SetTable.grown fs.size);have i:=xK n fs (SetTable.grown fs.size);generalize relayAll u fs (SetTable.grown fs.size)=L2 at p2 am i ⊢;obtain⟨V,v,aq⟩:=L2;dsimp only at p2 am i ⊢;have S:=y.perm p2;have N:V.size<scanBound:=by rw[S.size,<- y.size];exact D
    refine wB1 (gw (wB1 (wpAny_storeSet_of H O ?_ (fits_of_scanBound N))));exact wP1 (wP1 (q _ _ (T.trans (Heap.SameBut.update _ p _)) ⟨V,_,v,l,yq H,S,N,am,i,F⟩))
   ·exact wP1 (wP1 (q _ _ T ⟨fs,_,u,l,H,y,D,I,n,F⟩))
  split
  ·refine wB1 (wP1 ?_);exact tail M
  ·refine wB1 (wP1 ?_);exact tail M
end
section
variable{P:cK}{w:cN}{A:cM}{E:cH->cI->Prop}{s:cI}
def byT(w:cN):Bool:=w.params.followText "set-order"
theorem vj(x:cH){G:cH->cI->Prop}(q:G (.ref s.heap.objs.size) {s with heap:=s.heap.push (stO #[] 0 (.fresh 0 0 (!byT w)))}):
  cS (model P w) A (.call (.builtin "set.__new__") ⟨[.type "set",x],[]⟩) (wants G E) s:=by
 refine codeAny_of_tree (?_:cR _ A.in1 (do checkBuiltinCall "set.__new__" ⟨[.type "set",x],[]⟩;again (.builtin "set.__new__" ⟨[.type "set",x],[]⟩)) _ _ s);refine wB1 (wpAny_of_eq (PySem.F.newCall_set_1 x) (wP1 ⟨plainId_quiet PySem.F.plain_set_new _,wD1 PySem.F.entry_set_new (?_:_)⟩));rw[Around.under_plainId PySem.F.plain_set_new _];unfold Builtin.«set.__new__» Builtin.Frozenset.newClass;have a:=sub_set_self;obtain⟨c,g,d,tk,b⟩:=s;dsimp only
 wp_walk
 refine wpAny_askSetting (wP1 (?_:_));dsimp only;simp only[newObj];exact wB1 (wpAny_alloc (wP1 (wP1 q)))
set_option maxHeartbeats 3200000 in
theorem uy {l:cJ}{its:Array cH}{Q:cH->cI->Prop}(F:s.heap.IsList l its)
  (j:∀g:cM,g.handled=A.handled->g.units<=A.units+2 -> ∀R:Result->cI->Prop,(∀s',Q (.ref s.heap.objs.size) s'->R (.ok (.ret .none)) s') ->
   cS (model P w) g (.builtin "set.update.loop" ⟨[.ref s.heap.objs.size,.ref (s.heap.objs.size+1)],[]⟩) R {s with heap:=(s.heap.push (stO #[] 0 (.fresh 0 0 (!byT w)))).push {cls:=.type "list_iterator",data:=.fields #[.ref l,.int 0 0]}}):
  cR (model P w) A (call (.type "set") [.ref l]) Q E s:=by
 obtain⟨am,S,n⟩:=PySem.F.called_set.mro;have h:=PySem.F.called_set.made;have m:=PySem.F.called_set.sub
 refine wpAny_call (codeAny_of_tree (?_:cR _ _ (callAny (.type "set") _) _ _ _));refine wP1 ⟨Code.quiet_builtin _ (by decide+kernel),wD1 PySem.F.entry_type_call (?_:_)⟩;rw[Around.under_plain (weight_type_call_type "set" [.ref l] []) O];have V:=PySem.F.called_set.notType;have ao:=PySem.F.called_set.canCreate;have ar:=PySem.F.typeCall_set_1 (.ref l)
 repeat(any_goals (first|wp_step|assumption))
 refine codeAny_mono (vj (.ref l) (E:=E) (G:=λx p=>x = .ref s.heap.objs.size/\p={s with heap:=s.heap.push (stO #[] 0 (.fresh 0 0 (!byT w)))}) ⟨O,O⟩) λr p d=>?_;cases r with
 |error e=>exact d
 |ok y=>
  cases y with
  |ret x=>
   obtain⟨rfl,rfl⟩:=d;have t:(s.heap.push (stO #[] 0 (.fresh 0 0 (!byT w)))).get? s.heap.objs.size=Z (stO #[] 0 (.fresh 0 0 (!byT w))):=hS1 _ O;have C:Shared.TypeIs {s with heap:=s.heap.push (stO #[] 0 (.fresh 0 0 (!byT w)))} (.ref s.heap.objs.size) "set":=⟨_,t,O⟩;have N:=PySem.F.called_set.init.lookup;have K:=PySem.F.called_set.init.bind (.ref s.heap.objs.size)
   repeat(any_goals (first|wp_step|assumption))
   refine codeAny_mono (codeAny_call_builtin (R:=wants (λr o=>r = .none/\Q (.ref s.heap.objs.size) o) E) PySem.F.called_set.init.plain PySem.F.entry_set_init (check_set_init_1 C (?_:_))) λr2 o a=>?_
   ·obtain⟨B,f,c,k,b⟩:=F;obtain⟨X,D,W,u⟩:=B;simp only at c b;subst c;subst b;have z:(s.heap.push (stO #[] 0 (.fresh 0 0 (!byT w)))).get? l=Z {cls:=.type "list",dict:=D,data:=.seq its k,slots:=u}:=hP1 _ f;have L:=PySem.F.sub_list_set;have U:=PySem.F.sub_list_frozenset;have T:(Value.type "list" == Value.type "dict")=J:=by decide
    have H:(s.heap.push (stO #[] 0 (.fresh 0 0 (!byT w)))).IsList l its:=⟨_,z,O,k,O⟩;have v:(s.heap.push (stO #[] 0 (.fresh 0 0 (!byT w)))).get? s.heap.objs.size=Z {cls:=.type "set",dict:=Y,data:=.set #[] 0 (.fresh 0 0 (!byT w)),slots:= #[]}:=t;unfold Builtin.«set.__init__» noKeywords Builtin.Frozenset.updateFrom;generalize i:pyIter=PI
    wp_walk
    subst i;refine wpAny_pyIter_list H (wB1 (wpAny_runValue (?_:_)));dsimp only;rw[show(s.heap.push (stO #[] 0 (.fresh 0 0 (!byT w)))).objs.size=s.heap.objs.size+1 from by rw[hZ1]];refine j A.in1.in1 (by simp) (nR1 _) _ λs' q=>?_;exact wP1 (wP1 ⟨O,q⟩)
   ·cases r2 with
    |error e=>exact a
    |ok I=>
     cases I with
     |ret r=>
      obtain⟨rfl,q⟩:=a
      repeat(any_goals (first|wp_step|assumption))
     |_=>exact a.elim
  |_=>exact d.elim
theorem w1 {l:cJ}{its:Array cH}{Q:cH->cI->Prop}(c:s.heap.IsList l its)
  (b:∀a:cM,a.handled=A.handled -> ∀R:Result->cI->Prop,(∀s',Q (.ref s.heap.objs.size) s'->R (.ok (.ret .none)) s') ->
   cS (model P w) a (.builtin "set.update.loop" ⟨[.ref s.heap.objs.size,.ref (s.heap.objs.size+1)],[]⟩) R {s with heap:=(s.heap.push (stO #[] 0 (.fresh 0 0 (!byT w)))).push {cls:=.type "list_iterator",data:=.fields #[.ref l,.int 0 0]}}):
  cR (model P w) A (call (.type "set") [.ref l]) Q E s:=uy c λa h _=>b a h
end
section
variable{P:cK}{w:cN}{A:cM}{E:cH->cI->Prop}{b:Bool}
theorem g5.old{p:cJ}{ns:List Int}{h h':cT}(x:g5 b p ns h)(k:∀o,h.get? p=Z o->h'.get? p=Z o):g5 b p ns h':=by
 obtain⟨es,ep,t,l,e,r⟩:=x;exact⟨es,ep,t,l,k _ e,r⟩
theorem li:∀(ns acc:List Int),(ns.foldl step_dedup acc).length<=acc.length+ns.length
 |[],acc=>by simp
 |n::ns,acc=>by
  rw[aX];have h1:=li ns (step_dedup acc n);have h2:(step_dedup acc n).length<=acc.length+1:=by unfold step_dedup;split<;>simp
  rw[lC1];lia
theorem x6{p l it:cJ}{its:Array cH}{ns:List Int}{R:Result->cI->Prop}(L:A.handled=none)(z:IntsAre its.toList ns)(hb:ns.length+1<scanBound)(K:p≠l)(u:p≠it)(G:it≠l):
  ∀(k i:Nat) (s:cI),its.size-i=k->i<=its.size->s.heap.IsListIter it l i->s.heap.IsList l its->g5 b p ((ns.take i).foldl step_dedup []) s.heap ->
  (∀h' tk,(∀c o,c≠p->c≠it->s.heap.get? c=Z o->h'.get? c=Z o)->g5 b p (ddI ns) h'->R (.ok (.ret .none)) {s with heap:=h',toks:=tk})->cS (model P w) A (.builtin "set.update.loop" ⟨[.ref p,.ref it],[]⟩) R s:=by
 have g:its.size=ns.length:=by rw[<- aH];exact z.length
 intro k
 induction k with
 |zero=>
  intro i s ao hi st h x q;have e:i=its.size:=by lia
  subst e;refine wD1 PyProof.Rows.F.entry_set_update_loop (?_:_);rw[Around.under_plainId PyProof.Rows.F.plain_set_update_loop _];show cR _ A.in1 (pyNext (.ref it) >>= _) _ _ s;refine wB1 (wpAny_pyNext_list_end (by simpa using L) st h (by simp) λh' y=>wP1 ?_);refine q h' s.toks (λc o _ hc e=>y c o hc e) ?_;have:=x.old (h':=h') λo e=>y p o u e;rw[g,bR]at this;exact this
 |succ k ih=>
  intro i s ao hi st h x q;have d:i<its.size:=by lia
  have B:=aG1 d;obtain⟨t,am⟩:=PyProof.Rows.IntsAre.int_at z i its[i] (by rw[aT1];exact B);refine wD1 PyProof.Rows.F.entry_set_update_loop (?_:_);rw[Around.under_plainId PyProof.Rows.F.plain_set_update_loop _];show cR _ A.in1 (pyNext (.ref it) >>= _) _ _ s;refine wB1 (wpAny_pyNext_list_item st h B λh' n C=>?_);rw[am];show cR _ A.in1 (holding [Value.int (ns.getD i 0) t] (setAdd p (.int (ns.getD i 0) t)) >>= _) _ _ _;refine wB1 (wpAny_holding ?_);unfold setAdd;refine wpAny_holding (wB1 (wpAny_pyHash_int ?_));have m:g5 b p ((ns.take i).foldl step_dedup []) h':=x.old λo e=>by rw[C.2 p u];exact e
  have j:=li (ns.take i) [];refine IX (s:={s with heap:=h',toks:=s.toks+1}) (k:=ns.getD i 0) m (by rw[aO,bf]at j;lia) λc h2 f a=>?_;have F:ns[i]?=Z (ns.getD i 0):=by rw[gG1 (by lia)];simp[List.getD,show i<ns.length by lia]
  have I:step_dedup ((ns.take i).foldl step_dedup []) (ns.getD i 0)=(ns.take (i+1)).foldl step_dedup []:=by
   rw[List.take_succ,F,List.foldl_append];rfl
  rw[I]at a;have E:∀c o,c≠p->c≠it->s.heap.get? c=Z o->h2.get? c=Z o:=λc o h1 v e=>by rw[f.2 c h1];show h'.get? c=_;rw[C.2 c v];exact e
  have keepIt:∀o,h'.get? it=Z o->h2.get? it=Z o:=λo e=>by rw[f.2 it (Ne.symm u)];exact e
  refine wP1 ⟨plainId_quiet PyProof.Rows.F.plain_set_update_loop _,ih (i+1) {s with heap:=h2,toks:=s.toks+1} (by lia) d (n.at keepIt) ?_ a λv tk H x3=>?_⟩
  ·obtain⟨o,e,r⟩:=h;exact⟨o,E l o (Ne.symm K) (Ne.symm G) e,r⟩
  ·exact q v tk (λc o h1 D e=>H c o h1 D (E c o h1 D e)) x3
theorem w5{s:cI}{l:cJ}{its:Array cH}{ns:List Int}{Q:cH->cI->Prop}(f:A.handled=Y)(d:s.heap.IsList l its)(p:IntsAre its.toList ns)(hb:ns.length+1<scanBound)(q:∀h' tk,(∀c o,s.heap.get? c=Z o->h'.get? c=Z o)->g5 (byT w) s.heap.objs.size (ddI ns) h'->Q (.ref s.heap.objs.size) {s with heap:=h',toks:=tk}):cR (model P w) A (call (.type "set") [.ref l]) Q E s:=by
 have a:l<s.heap.objs.size:=by obtain⟨o,e,_⟩:=d;exact hL1 e
 refine w1 d λt n R i=>?_;have g:(s.heap.push (stO #[] 0 (.fresh 0 0 (!byT w)))).objs.size=s.heap.objs.size+1:=by rw[hZ1]
 have j:(s.heap.push (stO #[] 0 (.fresh 0 0 (!byT w)))).get? s.heap.objs.size=Z (stO #[] 0 (.fresh 0 0 (!byT w))):=hS1 _ O;refine x6 (its:=its) (ns:=ns) (b:=byT w) (n.trans f) p hb (nG1 a) (nN1 (bB _)) (nG1 (ca a)) _ 0 _ O (bj _) ?_ ?_ ?_ λh' tk k x=>i _ (q h' tk (λc o e=>k c o (nN1 (hL1 e)) (nN1 (ca (hL1 e))) (hP1 _ (hP1 _ e))) x)
 ·refine⟨{cls:=.type "list_iterator",data:=.fields #[.ref l,.int 0 0]},?_,O,O⟩;have this:((s.heap.push (stO #[] 0 (.fresh 0 0 (!byT w)))).push {cls:=.type "list_iterator",data:=.fields #[.ref l,.int 0 0]}).get? (s.heap.push (stO #[] 0 (.fresh 0 0 (!byT w)))).objs.size=Z {cls:=.type "list_iterator",data:=.fields #[.ref l,.int 0 0]}:=hS1 _ O;rw[g]at this;exact this
 ·obtain⟨o,e,r⟩:=d;exact⟨o,hP1 _ (hP1 _ e),r⟩
 ·refine⟨#[],0,_,!byT w,hP1 _ j,⟨λe m=>by simp at m,.refl _⟩,by decide,O,rf _,λh=>by rw[h];rfl⟩
end
theorem jy:Slot "set_iterator" "__next__" "set_iterator.__next__":=
 .of (owner:="set_iterator") (n:="__next__") (by rw[typeLookup_type,builtinLookup_eq_fast];kernel_rfl) (by decide+kernel) (by decide+kernel) (by decide+kernel) (by first|exact .inl (by decide+kernel)|exact .inr (by decide+kernel)) (by rw[isSubtype_type];kernel_rfl)
theorem pp:entryFor table "set_iterator.__next__"=Z Builtin.«set_iterator.__next__» :=entryFor_of_tree (by kernel_rfl)
theorem sL(x:cH):argsOk "set_iterator.__next__" ⟨[x],[]⟩:=by unfold argsOk;kernel_rfl
theorem sB:entryFor table "set.__iter__"=Z Builtin.«frozenset.__iter__» :=entryFor_alias (id':="frozenset.__iter__") (by kernel_rfl) O (by decide+kernel) (by kernel_rfl)
abbrev G7(h:cT)(it a:cJ)(f:cH)(i n ep:Nat):Prop:=h.get? it=Z {cls:=.type "set_iterator",dict:=Y,data:=.fields #[f,.int i 0,.ref a,.int n 0,.int ep 0],slots:= #[]}
def lx(t:SetTable)(i:Nat):Nat:=match i with
 |0=>0
 |i+1=>t.place.getD i 0+1
inductive sN (w:cN)(h:cT)(a:cJ)(es:Array (Int×cH))(ep:Nat)(t:SetTable):cH->Nat->List cH->Prop
 |txt (b:byT w=true) (i:Nat) (sl:Nat):sN w h a es ep t (.int sl 0) i ((pickOrder (w.params.setOrder a ep) es).toList.map (·.2))
 |drw (b:byT w=false) (d:(!t.plain&&decide (es.size>1))=true) (i:Nat) (tp:cJ) (ps:List Nat) (e:h.get? tp=some {cls:=.type "tuple",data:=.seq (ps.map λj=>Value.int (j:Nat) 0).toArray}) (pm:ps.Perm (af es.size)):sN w h a es ep t (.ref tp) i (ps.map λj=>(es[j]?.map (·.2)).getD .none)
 |plc (b:byT w=false) (d:(!t.plain&&decide (es.size>1))=false) (ld:t.led=true) (up:uH t.place) (i:Nat):sN w h a es ep t (.int (lx t i) 0) i (es.toList.map (·.2))
theorem oV{α:Type}(f:Nat->Nat):∀(n k:Nat) (l:List α) (out:Array α),l.length=n->(pickOrder.go f n k l out).toList.Perm (out.toList++l)
 |0,k,l,out,h=>by
  rw[pickOrder.go,List.length_eq_zero_iff.mp h,aK]
 |n+1,k,l,out,h=>by
  have b:f k%l.length<l.length:=Nat.mod_lt _ (by lia);rw[pickOrder.go,gG1 b];refine(oV f n (k+1) _ _ (by rw[List.length_eraseIdx_of_lt b];lia)).trans ?_;rw[b7,aW];refine List.Perm.append_left _ ?_;have c:l=l.take (f k%l.length)++l[f k%l.length]::l.drop (f k%l.length+1):=by rw[List.getElem_cons_drop,cb]
  rw[List.eraseIdx_eq_take_drop_succ];refine List.Perm.trans ?_ (List.Perm.of_eq c.symm);exact(cc (l₁:=l.take (f k%l.length)) (l₂:=l.drop (f k%l.length+1)) (a:=l[f k%l.length])).symm
theorem sN.perm{w:cN}{h:cT}{a:cJ}{es:Array (Int×cH)}{ep:Nat}{t:SetTable}{f:cH}{i:Nat}{pl:List cH}(y:sN w h a es ep t f i pl):pl.Perm (es.toList.map (·.2)):=by
 cases y with
 |txt=>exact(oV _ _ _ _ _ O).map _
 |drw _ _ _ d ps e c=>
  refine(c.map _).trans ?_;have:(af es.size).map (λj=>(es[j]?.map (·.2)).getD .none)=es.toList.map (·.2):=by
   apply bT;intro j;rw[gP1,gP1,aT1 (xs:=es)];by_cases b:j<es.size
   ·rw[cf b,oP1,aG1 b];rfl
   ·rw[bU (by simpa using b),cg (by lia)];rfl
  rw[this]
 |plc=>exact .refl _
theorem sN.len{w:cN}{h:cT}{a:cJ}{es:Array (Int×cH)}{ep:Nat}{t:SetTable}{f:cH}{i:Nat}{pl:List cH}(y:sN w h a es ep t f i pl):pl.length=es.size:=by
 rw[y.perm.length_eq,lM1,aH]
section
variable{P:cK}{w:cN}{A:cM}{E:cH->cI->Prop}{s:cI}{it a:cJ}{f:cH}{i ep:Nat}{es:Array (Int×cH)}{t:SetTable}{pl:List cH}
theorem pH{Q:Bool->cI->Prop}(q:Q (byT w) s):cR (model P w) A setsByText Q E s:=by unfold setsByText;exact wB1 (wpAny_askSetting (wP1 q))
theorem x0{sl:Nat}{Q:Option (cH×Nat)->cI->Prop}(b:byT w=M)(ho:s.heap.get? a=Z (stO es ep t))(hf:t.fits es.size=M)(q:Q (((pickOrder (w.params.setOrder a ep) es)[i]?).map λe=>(e.2,sl)) s):cR (model P w) A (setNext a sl i ep) Q E s:=by
 unfold setNext;refine wB1 (wpAny_setState_of ho O hf (wB1 (pH ?_)));rw[b,ak O,aj (by simp)];refine wB1 ?_;unfold setWalk;refine wB1 (wpAny_setState_of ho O hf (wB1 (pH ?_)));rw[b,ak O];exact wB1 (wpAny_askSetting (wP1 (wP1 q)))
theorem Dc(up:uH t.place)(hi:i<=t.place.size):SetTable.below t.place (lx t i)=i:=by
 cases i with
 |zero=>exact Aw up
 |succ j=>
  have a:j<t.place.size:=hi;show SetTable.below t.place (t.place.getD j 0+1)=j+1;rw[show t.place.getD j 0=t.place[j]from by simp[Array.getD,a]];exact Db up a
theorem x5{Q:Option (cH×Nat)->cI->Prop}(b:byT w=J)(d:(!t.plain&&decide (es.size>1))=J)(g:t.led=M)(up:uH t.place)(ho:s.heap.get? a=Z (stO es ep t))(hf:t.fits es.size=M)(hi:i<=es.size)(q:Q ((es[i]?).map λe=>(e.2,lx t (i+1))) s):cR (model P w) A (setNext a (lx t i) i ep) Q E s:=by
 have j:t.place.size=es.size:=by
  unfold SetTable.fits at hf;rw[bA1,beq_iff_eq]at hf;exact hf.1
 unfold setNext;refine wB1 (wpAny_setState_of ho O hf (wB1 (pH ?_)));rw[b,aj (by decide)];rw[aj (λz=>by have f:(!t.plain&&decide (es.size>1))=M:=z;rw[d]at f;cases f)];refine wB1 ?_;show cR _ _ (if(!t.led && !es.isEmpty)=M then _ else _) _ _ _;rw[aj (by rw[g];simp)];refine wP1 ?_;dsimp only;rw[Dc up (by omega)];by_cases c:i<es.size
 ·rw [aG1 c] at q ⊢;rw [aG1 (show i<t.place.size by omega)];have h:lx t (i+1)=t.place[i]+1:=by
   show t.place.getD i 0+1=_;rw[show t.place.getD i 0=t.place[i]from by simp[Array.getD,show i<t.place.size by omega]]
  rw[h]at q;exact wP1 q
 ·rw[cg (by omega)]at q ⊢;exact wP1 q
theorem A1{Q:Option cH->cI->Prop}(h:G7 s.heap it a f i es.size ep)(ho:s.heap.get? a=Z (stO es ep t))(hf:t.fits es.size=M)(y:sN w s.heap a es ep t f i pl){x:cH}(hx:pl[i]? = Z x)(ao:∀ g,f = .ref g->g≠it)(q:∀h' k,G7 h' it a k (i+1) es.size ep->(∀c o,c≠it->s.heap.get? c=Z o->h'.get? c=Z o)->sN w h' a es ep t k (i+1) pl->(∀g,k = .ref g->f = .ref g)->Q (Z x) {s with heap:=h'}):cR (model P w) A (pyNext (.ref it)) Q E s:=by
 have I:s.TypeIs (.ref it) "set_iterator":=⟨_,h,O⟩;unfold pyNext;refine wB1 (wpAny_attempt (wpAny_callSpecial?_slot (name:=Str.ofString "__next__") I jy (wE1 jy I pp ?_ (sL _))));refine wB1 (wP1 (wB1 (wpAny_fieldsOf h O ?_)));dsimp only;refine wB1 (wpAny_setEntries_of ho O hf ?_);rw[aj (by simp)];have N:i<es.size:=by have:=(gE1.mp hx).1;rw[y.len]at this;exact this
 have two:∀ (k:cH),(∀ g,k = .ref g->f = .ref g)->(∀ h',(∀ c o,c≠it->s.heap.get? c=some o->h'.get? c=some o)->sN w h' a es ep t k (i+1) pl) ->
   cR (model P w) A.in1 (setField (.ref it) 0 k >>= fun _=>setField (.ref it) 1 (rawInt ((i:Int)+1)) >>= fun _=>ret x) (fun B s'=>∃ v,B=Fin.done (Flow.ret v)/\cR (model P w) A (pure (some v)) Q E s') (fun e s'=>cR (model P w) A (do
     let y<-isInstance e (.type "StopIteration")
     if y=M then pure Y else throw e) Q E s') s:=λk am L=>by
  refine wB1 (wS1 h (by simp) λh1 K u=>wB1 (wS1 (s:={s with heap:=h1}) K (by simp) λh2 r l=>wP1 ⟨_,O,wP1 ?_⟩));have n:∀c o,c≠it->s.heap.get? c=Z o->h2.get? c=Z o:=λc o hc e=>l.extBut c o hc (u.extBut c o hc e);refine q h2 k ?_ n (L h2 n) am;have e:((i+1:Nat):Int)=(i:Int)+1:=by lia
  unfold G7;rw[e];simpa[rawInt]using r
 cases y with
 |txt b _ sl=>
  refine wB1 (x0 (i:=i) (sl:=sl) (ep:=ep) b ho hf ?_);rw[gP1,aT1]at hx;obtain⟨e,p,rfl⟩:=oM1.mp hx;rw[p];exact two (.int sl 0) (λg z=>by cases z) λh' _=>.txt b _ sl
 |plc b d H up _=>
  refine wB1 (x5 (i:=i) b d H up ho hf (by lia) ?_);rw[gP1,aT1]at hx;obtain⟨e,p,rfl⟩:=oM1.mp hx;rw[p];exact two (.int (lx t (i+1)) 0) (λg z=>by cases z) λh' _=>.plc b d H up _
 |drw b d _ g ps e D=>
  rw[gP1]at hx;obtain⟨j,F,rfl⟩:=oM1.mp hx;have m:j<es.size:=by have:=D.mem_iff.mp (gM1 F);simpa using this
  refine wB1 (wpAny_seqItems e O ?_);have C:((ps.map λj=>Value.int (j:Nat) 0).toArray)[((i:Int)).toNat]?=Z (.int (j:Nat) 0):=by
   rw[Int.toNat_natCast,List.getElem?_toArray,gP1,F];rfl
  dsimp only;rw[C];dsimp only;refine wB1 ?_;unfold setNextDrawn;refine wB1 (wpAny_setState_of ho O hf ?_);dsimp only;rw[aj (by simp),Int.toNat_natCast,aG1 m];refine wP1 (wB1 (wS1 h (by simp) λh2 r l=>wP1 ⟨_,O,wP1 ?_⟩));have n:∀c o,c≠it->s.heap.get? c=Z o->h2.get? c=Z o:=λc o hc e=>l.extBut c o hc e;have G:=q h2 (.ref g) ?_ n (.drw b d _ g ps (n g _ (ao g O) e) D) λ_ z=>z
  ·rw[aG1 m]at G;exact G
  ·have e:((i+1:Nat):Int)=(i:Int)+1:=by lia
   unfold G7;rw[e];simpa[rawInt]using r
theorem tL{Q:Option cH->cI->Prop}{G:Fin->cI->Prop}(d:A.handled=none)(q:∀ h',(∀ c o,s.heap.get? c=some o->h'.get? c=some o)->Q none {s with heap:=h'}):
  cR (model P w) A.in1 (newExc (.type "StopIteration") [] >>= fun e=>raiseNew e) G (fun e s'=>cR (model P w) A (do
     let y<-isInstance e (.type "StopIteration")
     if y=M then pure Y else throw e) Q E s') s:=by
 refine wB1 ?_;simp only[newExc,newTuple];refine wB1 (wO1 ?_ (by size_fits));refine wB1 (m:=firstArgMember _ _) (wpAny_of_eq (a:=Value.none) (by first|rfl|(simp only[firstArgMember];rfl)) ?_);refine wO1 ?_ (by size_fits);simp only[raiseNew];refine wB1 (wpAny_handled ?_);rw[show A.in1.handled=Y from d];refine wB1 (wP1 (wpAny_throw (?_:_)));refine wB1 (wpAny_isInstance (b:=M) (T:="StopIteration") ⟨_,hS1 _ O,O⟩ isSubtype_stop (?_:_));exact wP1 (q _ λb o e=>hP1 _ (hP1 _ e))
theorem Ec{Q:Option cH->cI->Prop}(m:A.handled=Y)(g:G7 s.heap it a f es.size es.size ep)(ho:s.heap.get? a=Z (stO es ep t))(hf:t.fits es.size=M)(y:sN w s.heap a es ep t f es.size pl)(q:∀h',(∀c o,c≠it->s.heap.get? c=Z o->h'.get? c=Z o)->Q Y {s with heap:=h'}):cR (model P w) A (pyNext (.ref it)) Q E s:=by
 have u:s.TypeIs (.ref it) "set_iterator":=⟨_,g,O⟩;unfold pyNext;refine wB1 (wpAny_attempt (wpAny_callSpecial?_slot (name:=Str.ofString "__next__") u jy (wE1 jy u pp ?_ (sL _))));refine wB1 (wP1 (wB1 (wpAny_fieldsOf g O ?_)));dsimp only;refine wB1 (wpAny_setEntries_of ho O hf ?_);rw[aj (by simp)];have l:=y.len;cases y with
 |txt b _ sl=>
  refine wB1 (x0 (i:=es.size) (sl:=sl) (ep:=ep) b ho hf ?_);rw[cg (by rw[lM1,aH]at l;lia)];refine wB1 (wS1 g (by simp) λh1 n h=>?_);exact tL (s:={s with heap:=h1}) m λh' k=>q h' λc o hc e=>k c o (h.extBut c o hc e)
 |plc b d v up _=>
  refine wB1 (x5 (i:=es.size) (ep:=ep) b d v up ho hf (nR1 _) ?_);rw[cg (nR1 _)];refine wB1 (wS1 g (by simp) λh1 n h=>?_);exact tL (s:={s with heap:=h1}) m λh' k=>q h' λc o hc e=>k c o (h.extBut c o hc e)
 |drw b d _ B ps e x=>
  refine wB1 (wpAny_seqItems e O ?_);have p:((ps.map λj=>Value.int (j:Nat) 0).toArray)[((es.size:Int)).toNat]?=Y:=by
   rw[Int.toNat_natCast,List.getElem?_toArray,bU (by rw[lM1]at l ⊢;lia)]
  dsimp only;rw[p];dsimp only;refine wB1 (wS1 g (by simp) λh1 n h=>?_);refine wB1 (wS1 (s:={s with heap:=h1}) n (by simp) λh2 z r=>?_);exact tL (s:={s with heap:=h2}) m λh' k=>q h' λc o hc e=>k c o (r.extBut c o hc (h.extBut c o hc e))
theorem choose_W{b:Source}{n:Nat}{Q:Nat->cI->Prop}(hn:n≠0)(q:∀i c,i<n->Q i {s with drawn:=c}):cR (model P w) A (choose b n) Q E s:=fun Γ p a=>by
 unfold choose;rw[Sem.wp_choose];refine⟨hn,?_⟩;exact wP1 (A:=A) (E:=E) (q _ _ (Nat.mod_lt _ (Nat.pos_of_ne_zero hn))) Γ p a
theorem Ab{α:Type}:∀(n:Nat) (xs:List α) (s:cI) (Q:List α->cI->Prop),xs.length=n->(∀ys b,ys.Perm xs->Q ys {s with drawn:=b})->cR (model P w) A (drawOrder n xs) Q E s
 |0,xs,s,Q,h,q=>by
  have:=List.length_eq_zero_iff.mp h;subst this;exact wP1 (q [] s.drawn (.refl _))
 |n+1,[],s,Q,h,q=>by simp at h
 |n+1,x::xs,s,Q,h,q=>by
  rw[drawOrder];refine wB1 (choose_W (by simp) λi b hi=>?_);rw[gG1 hi];dsimp only;refine wB1 (Ab n _ _ _ (by rw[List.length_eraseIdx_of_lt hi];lia) λys a d=>wP1 (q _ a ?_));refine(d.cons _).trans ?_;have c:x::xs=(x::xs).take i++(x::xs)[i]::(x::xs).drop (i+1):=by rw[List.getElem_cons_drop,cb]
  rw[List.eraseIdx_eq_take_drop_succ];refine List.Perm.trans ?_ (List.Perm.of_eq c.symm);exact cc.symm
  all_goals simp
theorem A3{l:Bool}{Q:cH->cI->Prop}(ho:s.heap.get? a=some (stO es ep t))(hf:t.fits es.size=true)(hz:es.size<scanBound)(D:TS l t)(G:byT w=false->l=true)(q:∀it h' h f pl,(∀c o,s.heap.get? c=some o->h'.get? c=some o)->s.heap.objs.size<=it->G7 h' it a f 0 es.size ep->sN w h' a es ep t f 0 pl->(∀b,f = .ref b->b≠it/\s.heap.objs.size<=b)->Q (.ref it) {s with heap:=h',drawn:=h}):
  cR (model P w) A (pyIter (.ref a)) Q E s:=by
 have C:s.TypeIs (.ref a) "set":=⟨_,ho,rfl⟩;refine wpAny_pyIter_slot C PySem.F.slot_set_iter (wE1 PySem.F.slot_set_iter C sB ?_ (PySem.F.args_set_iter_1 _));unfold Builtin.«frozenset.__iter__»;refine wB1 (m:=Builtin.Frozenset.slot0 _ _) (wP1 ?_);unfold Builtin.Frozenset.sizeOf;refine wB1 (wB1 (wpAny_setEntries_of ho rfl hf (wP1 ?_)));unfold setDrawn;refine wB1 (wB1 (wpAny_setState_of ho rfl hf (wB1 (pH (wP1 ?_)))));show cR _ _ (if (!byT w&&(!t.plain&&decide (es.size>1)))=true then _ else _) _ _ _;have d:∀ (h1:cT) (h:Drawn) (f:cH) (pl:List cH),(∀ c o,s.heap.get? c=some o->h1.get? c=some o)->s.heap.objs.size<=h1.objs.size->(∀ b,f = .ref b->b<h1.objs.size/\s.heap.objs.size<=b)->(∀ h',(∀ c o,h1.get? c=some o->h'.get? c=some o)->sN w h' a es ep t f 0 pl) ->
   cR (model P w) A.in1 (setEpoch a >>= λe=>newFields "set_iterator" [f,rawInt 0,.ref a,rawInt es.size,rawInt e] >>= λr=>ret r) (λd s'=>∃r,d=Fin.done (Flow.ret r) /\ ∃T g,s'.TypeIs r T/\typeLookup (.type T) "__next__"=pure (Z g)/\Q r s') E {s with heap:=h1,drawn:=h}:=by
  intro h1 h f pl B x u F;refine wB1 (wpAny_setEpoch_of (B a _ ho) O hf (wB1 (wO1 (wP1 ⟨_,O,"set_iterator",_,⟨_,hS1 _ O,O⟩,jy.lookup,?_⟩) (by size_fits))));refine q h1.objs.size _ h f pl (λc o e=>hP1 _ (B c o e)) x ?_ (F _ λc o e=>hP1 _ e) λb e=>⟨nN1 (u b e).1,(u b e).2⟩;have:=hS1 h1 (o:={cls:=.type "set_iterator",data:=.fields #[f,.int 0 0,.ref a,.int es.size 0,.int ep 0]}) O;exact this
 by_cases n:byT w=M
 ·rw[aj (by rw[n];simp)];refine wB1 (wP1 ?_);exact d s.heap s.drawn _ _ (λ_ _ e=>e) (nR1 _) (λb z=>by cases z) λh' _=>.txt n 0 0
 ·have n:byT w=J:=by simpa using n
  by_cases p:(!t.plain&&decide (es.size>1))=M
  ·rw[ak (by rw[n,p];rfl)];refine wB1 (Ab es.size (af es.size) s _ (by simp) λys h y=>?_);refine wB1 (m:=newTuple _) (wO1 (s:={s with drawn:=h}) ?_ ?_)
   ·refine d (s.heap.push {cls:=.type "tuple",data:=.seq (ys.map λ(i:Nat)=>rawInt i).toArray}) h (.ref s.heap.objs.size) (ys.map λj=>(es[j]?.map (·.2)).getD .none) (λc o e=>hP1 _ e) (by rw[hZ1];exact bF _) (λb z=>by cases z;exact⟨by rw[hZ1];exact bB _,nR1 _⟩) λh' k=>?_;exact .drw n p 0 _ ys (k _ _ (hS1 _ O)) y
   ·have:=y.length_eq;have v:=fits_of_scanBound hz;simp[sizeOk,this,v]
  ·have p:(!t.plain&&decide (es.size>1))=J:=by simpa using p
   rw[aj (by rw[p];simp)];refine wB1 (wP1 ?_);exact d s.heap s.drawn _ _ (λ_ _ e=>e) (nR1 _) (λb z=>by cases z) λh' _=>.plc n p (by rw[D.ld];exact G n) D.up 0
end
theorem sN.keep{w:cN}{h h':cT}{a:cJ}{es:Array (Int×cH)}{ep:Nat}{t:SetTable}{f:cH}{i:Nat}{pl:List cH}(y:sN w h a es ep t f i pl)(k:∀c o,f = .ref c->h.get? c=Z o->h'.get? c=Z o):sN w h' a es ep t f i pl:=by
 cases y with
 |txt b _ sl=>exact .txt b _ sl
 |drw b d _ c ps e g=>exact .drw b d _ c ps (k c _ O e) g
 |plc b d j up _=>exact .plc b d j up _
section
variable{P:cK}{w:cN}{A:cM}{E:cH->cI->Prop}
theorem A2{it a S:cJ}{ep:Nat}{es:Array (Int×cH)}{t:SetTable}{pl:List cH}{z:cH}{R:Result->cI->Prop}(V:A.handled=none)(hf:t.fits es.size=true)(h1:it≠a)(h2:S≠a)(K:S≠it)(hn:es.size<=cQ):
  ∀(k i:Nat) (s:cI) (f:cH) (acc:Array cH) (c:Nat),es.size-i=k->i<=es.size->G7 s.heap it a f i es.size ep->s.heap.get? a=Z (stO es ep t)->sN w s.heap a es ep t f i pl->(∀g,f = .ref g->g≠it/\g≠S) ->
  s.heap.get? S=Z {cls:=.type "list",dict:=Y,data:=.seq acc c,slots:= #[]}->acc.toList=pl.take i ->
  (∀h' d G,(∀b u,b≠it->b≠S->s.heap.get? b=Z u->h'.get? b=Z u)->h'.get? S=Z {cls:=.type "list",dict:=Y,data:=.seq d G,slots:= #[]}->d.toList=pl->R (.ok (.ret z)) {s with heap:=h'}) ->
  cS (model P w) A (.builtin "list.extend.loop" ⟨[.ref S,.ref it,z],[]⟩) R s:=by
 intro k
 induction k with
 |zero=>
  intro i s f acc c T hi m D y E ao C am;have e:i=es.size:=by lia
  subst e;have j:=y.len;refine wD1 PySem.F.entry_extend_loop (?_:_);rw[Around.under_plainId PySem.F.plain_extend_loop _];show cR _ A.in1 (pyNext (.ref it) >>= _) _ _ s;refine wB1 (Ec V m D hf y λh' keep=>wP1 ?_);exact am h' acc c (λb u n _ e=>keep b u n e) (keep S _ K ao) (by rw[C,<- j,bR])
 |succ k ih=>
  intro i s f acc c T hi m D y E ao C am;have L:i<es.size:=by lia
  have j:=y.len;obtain⟨x,ar⟩:∃x,pl[i]?=some x:=⟨_,gG1 (by lia)⟩;have v:acc.size=i:=by rw[<- aH,C,aO];lia
  refine wD1 PySem.F.entry_extend_loop (?_:_);rw[Around.under_plainId PySem.F.plain_extend_loop _];show cR _ A.in1 (pyNext (.ref it) >>= _) _ _ s;refine wB1 (A1 m D hf y ar (λg e=>(E g e).1) λh' U r keep Q N=>?_);have p:=keep S _ K ao;show cR _ A.in1 (updateSeq S (·.push x) >>= _) _ _ _;refine wB1 (wpAny_updateSeq (s:={s with heap:=h'}) p O ?_ (by rw[v];lia) (by show(acc.push _).size<=cQ+1;rw[Array.size_push,v];lia));have h:∀b u,b≠S->h'.get? b=Z u->(h'.update S (Obj.mapSeq (·.push x))).get? b=Z u:=λb u n e=>by rw[hU1 _ _ _ _ n];exact e
  refine wP1 ⟨plainId_quiet PySem.F.plain_extend_loop _,ih (i+1) {s with heap:=h'.update S (Obj.mapSeq (·.push x))} U (acc.push x) _ (by lia) L (h it _ (Ne.symm K) r) (h a _ (Ne.symm h2) (keep a _ (Ne.symm h1) D)) (Q.keep λg o e q=>h g o (E g (N g e)).2 q) (λg e=>E g (N g e)) (hW1 _ p O) ?_ ?_⟩
  ·rw[b7,C,List.take_succ,ar];rfl
  ·intro H d G l I F;exact am H d G (λb u n B e=>l b u n B (h b u B (keep b u n e))) I F
theorem ya:typeLookup (.type "set") "__len__"=pure (Z (.builtin "set.__len__")):=by rw[typeLookup_type,builtinLookup_eq_fast];kernel_rfl
theorem A4 {s:cI}{v:cJ}{Q:Bool->cI->Prop}(c:s.TypeIs (.ref v) "set")(q:Q J s):cR (model P w) A (Builtin.List.listLengthHint (.ref v)) Q E s:=by
 unfold Builtin.List.listLengthHint;refine wB1 (wpAny_specialOf c ya (?_:_));generalize a:("set.__len__":String)=id0
 wp_delta
 rw[show splitId id0=Z ("set","__len__")from by subst a;decide+kernel];subst a;refine wB1 (wpAny_isInstance (b:=M) c (by rw[isSubtype_type];kernel_rfl) (?_:_));rw[aj (by decide)];dsimp only;rw[ak (by decide+kernel)];exact wB1 (wpAny_typeOf c (wP1 q))
theorem tu{s:cI}{a:cJ}{ns:List Int}{Q:List cH->cI->Prop}(hh:A.handled=Y)(hx:g5 (byT w) a ns s.heap)(q:∀h' p vs R,(∀b u,s.heap.get? b=Z u->h'.get? b=Z u)->s.heap.objs.size<=h'.objs.size->IntsAre vs R->R.Perm ns->Q vs {s with heap:=h',drawn:=p}):cR (model P w) A (collect (.ref a)) Q E s:=by
 obtain⟨es,ep,t,l,F,N,S,ar,X,aq⟩:=hx;have m:a<s.heap.objs.size:=hL1 F;unfold collect;refine wB1 (wpAny_runValue (wD1 PySem.F.entry_proto_collect (?_:_)));rw[Around.under_plainId PySem.F.plain_proto_collect _];show cR _ A.in1 (newList [] >>= λl=>again (.builtin "list.__iadd__" ⟨[l,.ref a],[]⟩)) _ _ s;refine wB1 (wO1 (?_:_));refine wP1 ⟨plainId_quiet PySem.F.plain_list_iadd _,wD1 PySem.F.entry_list_iadd (?_:_)⟩;rw[Around.under_plainId PySem.F.plain_list_iadd _];have r:(s.heap.push {cls:=.type "list",data:=.seq ([]:List cH).toArray}).get? s.heap.objs.size=Z {cls:=.type "list",data:=.seq ([]:List cH).toArray}:=hS1 _ O;have g:∀b u,s.heap.get? b=Z u->(s.heap.push {cls:=.type "list",data:=.seq ([]:List cH).toArray}).get? b=Z u:=λb u e=>hP1 _ e;have B:(s.heap.push {cls:=.type "list",data:=.seq ([]:List cH).toArray}).objs.size=s.heap.objs.size+1:=by rw[hZ1]
 have L:s.heap.objs.size≠a:=nG1 m;have h1:Builtin.List.listSameRef (.ref s.heap.objs.size) (.ref a)=J:=by simp[Builtin.List.listSameRef,L]
 show cR _ A.in1 (Builtin.List.listExtendWith (.ref s.heap.objs.size) (.ref a) (.ref s.heap.objs.size)) _ _ {s with heap:=s.heap.push {cls:=.type "list",data:=.seq ([]:List cH).toArray}};generalize s.heap.push {cls:=.type "list",data:=.seq ([]:List cH).toArray}=h₁ at *
 unfold Builtin.List.listExtendWith;refine wB1 (wpAny_typeOf (T:="set") ⟨_,g a _ F,O⟩ ?_);rw[aj (by rw[h1];decide)];refine wB1 (A3 (s:={s with heap:=h₁}) (g a _ F) ar S X aq λit d p f pl h c K y H=>?_);dsimp only at h c H;have j:=h _ _ r;have z:Shared.TypeIs {s with heap:=d,drawn:=p} (.ref a) "set":=⟨_,h _ _ (g a _ F),O⟩;refine wB1 (wpAny_holding (A4 z ?_));rw[ak (by decide+kernel)];refine wB1 (wpAny_rule (wB1 ?_));show cR _ A.in1 (updateSeq s.heap.objs.size (·.push .none) >>= λ_=>updateSeq s.heap.objs.size (·.pop)) _ _ _;refine wB1 (wpAny_updateSeq (s:={s with heap:=d,drawn:=p}) j O ?_);have i:=hW1 (Obj.mapSeq (·.push Value.none)) j O;refine wpAny_updateSeq (s:={s with heap:=d.update s.heap.objs.size (Obj.mapSeq (·.push Value.none)),drawn:=p}) i O ?_;have x:=hW1 (Obj.mapSeq (·.pop)) i O;have n:∀b u,b≠s.heap.objs.size->d.get? b=Z u->((d.update s.heap.objs.size (Obj.mapSeq (·.push Value.none))).update s.heap.objs.size (Obj.mapSeq (·.pop))).get? b=Z u:=λb u C e=>by
  rw[hU1 _ _ _ _ C,hU1 _ _ _ _ C];exact e
 rw[B]at c H;have ao:=y.perm;refine wP1 ⟨plainId_quiet PySem.F.plain_extend_loop _,A2 (it:=it) (pl:=pl) hh ar (nG1 (bi m c)) (nG1 m) (nN1 c) (fits_of_scanBound S) es.size 0
  {s with heap:=(d.update s.heap.objs.size (Obj.mapSeq (·.push Value.none))).update s.heap.objs.size (Obj.mapSeq (·.pop)),drawn:=p} f _ _ O (bj _) (n _ _ (nG1 c) K) (n a _ (nN1 m) (h _ _ (g a _ F))) (y.keep λI o e q=>n I o (nG1 (H I e).2) q) (λI e=>⟨(H I e).1,nG1 (H I e).2⟩) x O λh' G c' keep D U=>?_⟩
 show cR _ A (load s.heap.objs.size >>= _) _ _ {s with heap:=h',drawn:=p};refine wB1 (wpAny_load D ?_);have wq:∀v∈pl,∃k t,v=Value.int k t:=λv am=>by
  obtain⟨e,V,rfl⟩:=bZ.mp (ao.mem_iff.mp am);obtain⟨k,t,rfl⟩:=N.el e V;exact⟨k,t,O⟩
 have all:∀vs:List cH,(∀v∈vs,∃k t,v=Value.int k t)->IntsAre vs (vs.map λv=>Kd (0,v)):=by
  intro vs
  induction vs with
  |nil=>intro _;exact .nil
  |cons v vs ih=>
   intro am;obtain⟨k,t,rfl⟩:=am v mS1;exact .cons k t (ih λu W=>am u (mC1 _ W))
 refine wP1 (q h' p G.toList (pl.map λv=>Kd (0,v)) (λb u e=>?_) (Nat.le_of_lt (hL1 D)) (by rw[U];exact all pl wq) ?_)
 ·have C:=hL1 e;exact keep b u (nN1 (bi C c)) (nN1 C) (n b u (nN1 C) (h _ _ (g b u e)))
 ·refine(ao.map _).trans ?_;rw[bu];exact N.pm
theorem ri {s:cI}{a:cJ}{ns:List Int}{Q:cH->cI->Prop}(p:A.handled=none)(hx:g5 (byT w) a ns s.heap)(j:ns.length<64)
  (q:∀h' f L n c,(∀b u,s.heap.get? b=Z u->h'.get? b=Z u)->s.heap.objs.size<=L->h'.get? L=Z (seqObj "list" c n)->IntsAre c.toList (fF ns)->Q (.ref L) {s with heap:=h',drawn:=f}):
  cR (model P w) A (call (.builtin "sorted") [.ref a]) Q E s:=by
 refine Calls.call_function_entry kind_sorted plain_sorted entry_sorted (args_sorted1 _) (?_:_);unfold Builtin.«sorted»;refine wB1 (m:=checkCount "sorted" 1 1 _) (wP1 (wB1 (tu p hx λh' f vs v keep t o l=>?_)));have g:vs.length<64:=by rw[o.length,l.length_eq];exact j
 refine wB1 (wpAny_newList (hsz:=by rw[sizeLine_eq];lia) ?_);have d:(h'.push (seqObj "list" vs.toArray 0)).get? h'.objs.size=Z (seqObj "list" vs.toArray 0):=hS1 _ O;show cR _ _ _ _ _ {s with heap:=h'.push (seqObj "list" vs.toArray 0),drawn:=f};refine wB1 (wpAny_holding (wE1 slot_list_sort ⟨_,d,O⟩ entry_list_sort (list_sort_tree (s:={s with heap:=h'.push (seqObj "list" vs.toArray 0),drawn:=f}) d o g λc k a1 a2 a3=>⟨_,O,?_⟩) (args_list_sort _)));have r:k=fF ns:=kZ (a2.trans (l.trans (en ns).symm)) a3 (iE ns);subst r;obtain⟨n,h⟩:=sortedHeap_at (out:=c) d;refine wP1 ⟨_,O,q _ f h'.objs.size n c (λb u e=>?_) t h a1⟩;have i:=keep b u e;show(sortedHeap (h'.push (seqObj "list" vs.toArray 0)) h'.objs.size vs c).get? b=Z u;rw[sortedHeap_old (nN1 (hL1 i)) (by rw[hZ1];exact ca (hL1 i))];exact hP1 _ i
end
def jG:G1:=λd S=>match dj S d with
 |some (M,xs)=>(kF xs).bind λns=>if ns.length<64 then Z (.ref S.length,S++[.lst ((fF (ddI ns)).map D.int)])else Y
 |_=>Y
section
variable{X:Cx}
def HK(X:Cx)(vs:List V)(H:Hp)(Q:VK):Prop:=∃a xs ns,vs=[.ref a]/\lv X.K H a xs/\(∀us,dM xs us->IntsAre us ns)/\ns.length+1<scanBound /\ ∀p,H p=Y->Q (.ref p) (upd H p (.ext (g5 (byT X.w) p (ddI ns))))
def ET(X:Cx)(vs:List V)(H:Hp)(Q:VK):Prop:=∃a ns,vs=[.ref a]/\H a=Z (.ext (g5 (byT X.w) a ns))/\ns.length<64 /\ ∀p,H p=Y->Q (.ref p) (upd H p (.lst ((fF ns).map V.int)))
theorem wI{ag:List (cJ×Obj)}{σ:L2.St}{H:Hp}{s:cI}(I:Inv X ag σ H s)(d:Drawn):Inv X ag σ H {s with drawn:=d}:=⟨I.ok,I.os,I.bare,I.base,I.loc,I.cell,I.free,I.freeC,I.pin,I.hok,I.len⟩
theorem GT(hc:X.calm=M):eK X (.type "set") (HK X):=by
 intro ag s σ H xs m Q I r h;obtain⟨a,vs,ns,rfl,f,hi,g,q⟩:=h;obtain⟨u,rfl,r2⟩:=hQ r;cases r2;obtain⟨c,i,p,n⟩:=I.list f;have j:=hi c i;refine w5 (I.ok.hd hc) p.isList (by simpa using j) g λh' tk keep d=>?_;have b:=I.hok.fresh (nR1 s.heap.objs.size);refine⟨.ref s.heap.objs.size,_,I.laid (t':=tk) (o:=.ext (g5 (byT X.w) s.heap.objs.size (ddI ns))) keep (nR1 _) ⟨d,?_,λh1 h2 x k=>x.old k⟩,O,q _ b⟩;obtain⟨es,ep,t,l,e,_⟩:=d;exact⟨_,e⟩
theorem vX(hc:X.calm=M):eK X (.builtin "sorted") (ET X):=by
 intro ag s σ H xs l Q I r h;obtain⟨a,ns,rfl,g,j,q⟩:=h;obtain⟨u,rfl,r2⟩:=hQ r;cases r2;obtain⟨i,_⟩:=(show ew X.prog X.w H s.heap a (.ext (g5 (byT X.w) a ns))from I.hok a _ g);refine ri (I.ok.hd hc) i j λh' f L n d keep e c k=>?_;have b:=I.hok.fresh e;refine⟨.ref L,_,wI (I.laid (t':=s.toks) (o:=.lst ((fF ns).map V.int)) keep e ⟨?_,d.toList,n,pf k,by rw[Array.toArray_toList];exact c⟩) f,O,q _ b⟩;rw[lM1,(en ns).length_eq,sizeLine_eq];lia
theorem DV(ns:List Int):(ddI ns).length<=ns.length:=by
 have:=li ns [];unfold ddI;simpa using this
theorem wa (hc:X.calm=true){o:Expr}{m:FE}{p p2 pos b:Pos}(hg:Gl X "sorted")(hm:X.mg "sorted"=none)(hg2:Gl X "set")(hm2:X.mg "set"=none)(ho:XE X o m)
  (he:cP [.Call (.Name "set" p2) [o] [] b] X.env=[(J,eval (.Call (.Name "set" p2) [o] [] b) X.env)]:=by rfl) (e:cP [o] X.env=[(J,eval o X.env)]:=by rfl):XE X (.Call (.Name "sorted" p) [.Call (.Name "set" p2) [o] [] b] [] pos) (mN (b1 jG) (cX m cY)):=
 ⟨eo (k0 (vX hc) hg hm (by decide+kernel) (iZ (lB (GT hc) hg2 hm2 (by decide+kernel) (iZ ho.h lC e) (he:=e)) lC he) (he:=he)) <| by
  rintro σ H Q ⟨r,mu,S,d,F,he,n,hm,g⟩;obtain⟨⟨ds,C⟩,f,hm⟩:=oB1.mp hm;obtain⟨⟨x,E⟩,s,f⟩:=oB1.mp f;cases f;dsimp only[b1,jG]at hm;split at hm
  ·rename_i xs z;obtain⟨ns,w,hm⟩:=oB1.mp hm;split at hm
   ·rename_i i;cases hm;refine⟨r,mu,S,x,_,he,n,s,λv H1 mu1 B A k=>?_⟩;obtain⟨a,vs,rfl,q,t⟩:=dr A k z;refine⟨a,vs,ns,O,q,λD l=>(ph t l w).1,bi (Nat.succ_lt_succ i) (by decide),λp h=>?_⟩;refine⟨p,ddI ns,O,dZ,bD (DV ns) i,λp2 c=>?_⟩;have y:Ext mu1 mu1 H1 (upd H1 p (.ext (g5 (byT X.w) p (ddI ns)))):=Ext.fresh h;have j:=k.fresh (u:=.ext (g5 (byT X.w) p (ddI ns))) h;exact g _ _ (mu1++[p2]) (B.trans (y.trans (Ext.new_ c))) (.ref (g4 j.len _)) (j.newL (iI _) c)
   ·cases hm
  ·cases hm⟩
end
section
variable{X:Cx}{ag:List (cJ×Obj)}{σ:L2.St}{H:Hp}{s:cI}{a:cJ}{kvs:List (Key×V)}{k:Key}{v:V}{u r:cH}{A:cM}{E:cH->cI->Prop}
end
section
variable{X:Cx}
end
open AutoSeq1 (wpAny_loadPart')
section
variable{prog:cK}{w:cN}{A:cM}{E:cH->cI->Prop}{s:cI}
end
section
variable{X:Cx}
end
section
variable{P:cK}{w:cN}{A:cM}{E:cH->cI->Prop}{s:cI}
set_option maxHeartbeats 3200000 in
theorem wZ {l:cJ}{its:Array cH}{Q:cH->cI->Prop}(F:s.heap.IsTuple l its)
  (i:∀j:cM,j.handled=A.handled -> ∀R:Result->cI->Prop,(∀s',Q (.ref s.heap.objs.size) s'->R (.ok (.ret .none)) s') ->
   cS (model P w) j (.builtin "set.update.loop" ⟨[.ref s.heap.objs.size,.ref (s.heap.objs.size+1)],[]⟩) R {s with heap:=(s.heap.push (stO #[] 0 (.fresh 0 0 (!byT w)))).push {cls:=.type "tuple_iterator",data:=.fields #[.ref l,.int 0 0]}}):
  cR (model P w) A (call (.type "set") [.ref l]) Q E s:=by
 obtain⟨am,S,n⟩:=PySem.F.called_set.mro;have g:=PySem.F.called_set.made;have m:=PySem.F.called_set.sub
 refine wpAny_call (codeAny_of_tree (?_:cR _ _ (callAny (.type "set") _) _ _ _));refine wP1 ⟨Code.quiet_builtin _ (by decide+kernel),wD1 PySem.F.entry_type_call (?_:_)⟩;rw[Around.under_plain (weight_type_call_type "set" [.ref l] []) O];have V:=PySem.F.called_set.notType;have ao:=PySem.F.called_set.canCreate;have ar:=PySem.F.typeCall_set_1 (.ref l)
 repeat(any_goals (first|wp_step|assumption))
 refine codeAny_mono (vj (.ref l) (E:=E) (G:=λx p=>x = .ref s.heap.objs.size/\p={s with heap:=s.heap.push (stO #[] 0 (.fresh 0 0 (!byT w)))}) ⟨O,O⟩) λr p d=>?_;cases r with
 |error e=>exact d
 |ok y=>
  cases y with
  |ret x=>
   obtain⟨rfl,rfl⟩:=d;have t:(s.heap.push (stO #[] 0 (.fresh 0 0 (!byT w)))).get? s.heap.objs.size=Z (stO #[] 0 (.fresh 0 0 (!byT w))):=hS1 _ O;have C:Shared.TypeIs {s with heap:=s.heap.push (stO #[] 0 (.fresh 0 0 (!byT w)))} (.ref s.heap.objs.size) "set":=⟨_,t,O⟩;have N:=PySem.F.called_set.init.lookup;have K:=PySem.F.called_set.init.bind (.ref s.heap.objs.size)
   repeat(any_goals (first|wp_step|assumption))
   refine codeAny_mono (codeAny_call_builtin (R:=wants (λr o=>r = .none/\Q (.ref s.heap.objs.size) o) E) PySem.F.called_set.init.plain PySem.F.entry_set_init (check_set_init_1 C (?_:_))) λr2 o a=>?_
   ·obtain⟨B,f,c,k,b⟩:=F;obtain⟨X,D,W,u⟩:=B;simp only at c b;subst c;subst b;have z:(s.heap.push (stO #[] 0 (.fresh 0 0 (!byT w)))).get? l=Z {cls:=.type "tuple",dict:=D,data:=.seq its k,slots:=u}:=hP1 _ f;have L:=PySem.F.sub_tuple_set;have U:=PySem.F.sub_tuple_frozenset;have T:(Value.type "tuple" == Value.type "dict")=J:=by decide
    have H:(s.heap.push (stO #[] 0 (.fresh 0 0 (!byT w)))).IsTuple l its:=⟨_,z,O,k,O⟩;have v:(s.heap.push (stO #[] 0 (.fresh 0 0 (!byT w)))).get? s.heap.objs.size=Z {cls:=.type "set",dict:=Y,data:=.set #[] 0 (.fresh 0 0 (!byT w)),slots:= #[]}:=t;unfold Builtin.«set.__init__» noKeywords Builtin.Frozenset.updateFrom;generalize h:pyIter=PI
    wp_walk
    subst h;refine wpAny_pyIter_tuple H (wB1 (wpAny_runValue (?_:_)));dsimp only;rw[show(s.heap.push (stO #[] 0 (.fresh 0 0 (!byT w)))).objs.size=s.heap.objs.size+1 from by rw[hZ1]];refine i A.in1.in1 (by simp) _ λs' q=>?_;exact wP1 (wP1 ⟨O,q⟩)
   ·cases r2 with
    |error e=>exact a
    |ok I=>
     cases I with
     |ret r=>
      obtain⟨rfl,q⟩:=a
      repeat(any_goals (first|wp_step|assumption))
     |_=>exact a.elim
  |_=>exact d.elim
end
section
variable{X:Cx}
end
section
variable{X:Cx}{a b:Expr}{rest:List Expr}{pos:Pos}{ta tb:TE}{f g:FE}
theorem Fe(ha:PE X a ta)(hb:PE X (.BoolOp .Or (b::rest) pos) tb):PE X (.BoolOp .Or (a::b::rest) pos) (fun σ H Q=>ta σ H λx H'=>∃k,AN X.K x H' k/\if k=M then Q x H' else tb σ H' Q):=by
 intro ag s σ H Q I h;refine BoolOp_or (eR (ha ag s σ H _ I h) λv m ⟨x,H1,j,f,e⟩=>?_);obtain⟨k,tk,e⟩:=e;refine eR (xL ag m σ H1 x v (λi H'=>if i=M then Q x H' else tb σ H' Q) j f ⟨k,tk,e⟩) λc l ⟨H2,g,d⟩=>?_;cases c with
 |false=>rw[aj (by decide)]at d ⊢;exact hb ag l σ H2 Q g d
 |true=>rw[ak O]at d ⊢;exact⟨x,H2,g,f,d⟩
def Ck(a b:FE):FE:=λr S=>(a r S).bind λp=>(oC p.2 p.1).bind λk=>if k=M then Z p else b r p.2
theorem AY(ha:XE X a f)(hb:XE X (.BoolOp .Or (b::rest) pos) g):XE X (.BoolOp .Or (a::b::rest) pos) (Ck f g):=
 ⟨eo (Fe ha.h hb.h) <| by
  rintro σ H Q ⟨r,mu,S,d,t,m,o,c,hc⟩;obtain⟨⟨n,l⟩,q,c⟩:=oB1.mp c;obtain⟨k,s,c⟩:=oB1.mp c;refine⟨r,mu,S,n,l,m,o,q,λv H1 mu1 e j i=>⟨k,xN j i s,?_⟩⟩;cases k with
  |true=>rw[ak O]at c ⊢;cases c;exact hc _ H1 mu1 e j i
  |false=>rw[aj (by decide)]at c ⊢;exact⟨r,mu1,l,d,t,m.ext e,i,c,λp H2 h x2 r2 u=>hc p H2 h (e.trans x2) r2 u⟩⟩
end
section
variable{X:Cx}
end
section
variable{P:cK}{w:cN}{A:cM}{E:cH->cI->Prop}{b:Bool}
theorem wk{p l it:cJ}{its:Array cH}{ns:List Int}{R:Result->cI->Prop}(L:A.handled=none)(z:IntsAre its.toList ns)(hb:ns.length+1<scanBound)(K:p≠l)(u:p≠it)(G:it≠l):
  ∀(k i:Nat) (s:cI),its.size-i=k->i<=its.size->s.heap.IsTupleIter it l i->s.heap.IsTuple l its->g5 b p ((ns.take i).foldl step_dedup []) s.heap ->
  (∀h' tk,(∀c o,c≠p->c≠it->s.heap.get? c=Z o->h'.get? c=Z o)->g5 b p (ddI ns) h'->R (.ok (.ret .none)) {s with heap:=h',toks:=tk})->cS (model P w) A (.builtin "set.update.loop" ⟨[.ref p,.ref it],[]⟩) R s:=by
 have g:its.size=ns.length:=by rw[<- aH];exact z.length
 intro k
 induction k with
 |zero=>
  intro i s ao hi st h x q;have e:i=its.size:=by lia
  subst e;refine wD1 PyProof.Rows.F.entry_set_update_loop (?_:_);rw[Around.under_plainId PyProof.Rows.F.plain_set_update_loop _];show cR _ A.in1 (pyNext (.ref it) >>= _) _ _ s;refine wB1 (wpAny_pyNext_tuple_end (by simpa using L) st h (by simp) λh' y=>wP1 ?_);refine q h' s.toks (λc o _ hc e=>y c o hc e) ?_;have:=x.old (h':=h') λo e=>y p o u e;rw[g,bR]at this;exact this
 |succ k ih=>
  intro i s ao hi st h x q;have d:i<its.size:=by lia
  have B:=aG1 d;obtain⟨t,am⟩:=PyProof.Rows.IntsAre.int_at z i its[i] (by rw[aT1];exact B);refine wD1 PyProof.Rows.F.entry_set_update_loop (?_:_);rw[Around.under_plainId PyProof.Rows.F.plain_set_update_loop _];show cR _ A.in1 (pyNext (.ref it) >>= _) _ _ s;refine wB1 (wpAny_pyNext_tuple_item st h B λh' n C=>?_);rw[am];show cR _ A.in1 (holding [Value.int (ns.getD i 0) t] (setAdd p (.int (ns.getD i 0) t)) >>= _) _ _ _;refine wB1 (wpAny_holding ?_);unfold setAdd;refine wpAny_holding (wB1 (wpAny_pyHash_int ?_));have m:g5 b p ((ns.take i).foldl step_dedup []) h':=x.old λo e=>by rw[C.2 p u];exact e
  have j:=li (ns.take i) [];refine IX (s:={s with heap:=h',toks:=s.toks+1}) (k:=ns.getD i 0) m (by rw[aO,bf]at j;lia) λc h2 f a=>?_;have F:ns[i]?=Z (ns.getD i 0):=by rw[gG1 (by lia)];simp[List.getD,show i<ns.length by lia]
  have I:step_dedup ((ns.take i).foldl step_dedup []) (ns.getD i 0)=(ns.take (i+1)).foldl step_dedup []:=by
   rw[List.take_succ,F,List.foldl_append];rfl
  rw[I]at a;have E:∀c o,c≠p->c≠it->s.heap.get? c=Z o->h2.get? c=Z o:=λc o h1 v e=>by rw[f.2 c h1];show h'.get? c=_;rw[C.2 c v];exact e
  have keepIt:∀o,h'.get? it=Z o->h2.get? it=Z o:=λo e=>by rw[f.2 it (Ne.symm u)];exact e
  refine wP1 ⟨plainId_quiet PyProof.Rows.F.plain_set_update_loop _,ih (i+1) {s with heap:=h2,toks:=s.toks+1} (by lia) d (n.at keepIt) ?_ a λv tk H x3=>?_⟩
  ·obtain⟨o,e,r⟩:=h;exact⟨o,E l o (Ne.symm K) (Ne.symm G) e,r⟩
  ·exact q v tk (λc o h1 D e=>H c o h1 D (E c o h1 D e)) x3
theorem uz{s:cI}{l:cJ}{its:Array cH}{ns:List Int}{Q:cH->cI->Prop}(f:A.handled=Y)(d:s.heap.IsTuple l its)(p:IntsAre its.toList ns)(hb:ns.length+1<scanBound)(q:∀h' tk,(∀c o,s.heap.get? c=Z o->h'.get? c=Z o)->g5 (byT w) s.heap.objs.size (ddI ns) h'->Q (.ref s.heap.objs.size) {s with heap:=h',toks:=tk}):cR (model P w) A (call (.type "set") [.ref l]) Q E s:=by
 have a:l<s.heap.objs.size:=by obtain⟨o,e,_⟩:=d;exact hL1 e
 refine wZ d λt n R i=>?_;have g:(s.heap.push (stO #[] 0 (.fresh 0 0 (!byT w)))).objs.size=s.heap.objs.size+1:=by rw[hZ1]
 have j:(s.heap.push (stO #[] 0 (.fresh 0 0 (!byT w)))).get? s.heap.objs.size=Z (stO #[] 0 (.fresh 0 0 (!byT w))):=hS1 _ O;refine wk (its:=its) (ns:=ns) (b:=byT w) (n.trans f) p hb (nG1 a) (nN1 (bB _)) (nG1 (ca a)) _ 0 _ O (bj _) ?_ ?_ ?_ λh' tk k x=>i _ (q h' tk (λc o e=>k c o (nN1 (hL1 e)) (nN1 (ca (hL1 e))) (hP1 _ (hP1 _ e))) x)
 ·refine⟨{cls:=.type "tuple_iterator",data:=.fields #[.ref l,.int 0 0]},?_,O,O⟩;have this:((s.heap.push (stO #[] 0 (.fresh 0 0 (!byT w)))).push {cls:=.type "tuple_iterator",data:=.fields #[.ref l,.int 0 0]}).get? (s.heap.push (stO #[] 0 (.fresh 0 0 (!byT w)))).objs.size=Z {cls:=.type "tuple_iterator",data:=.fields #[.ref l,.int 0 0]}:=hS1 _ O;rw[g]at this;exact this
 ·obtain⟨o,e,r⟩:=d;exact⟨o,hP1 _ (hP1 _ e),r⟩
 ·refine⟨#[],0,_,!byT w,hP1 _ j,⟨λe m=>by simp at m,.refl _⟩,by decide,O,rf _,λh=>by rw[h];rfl⟩
end
def iQ:G1:=λd S=>match dj S d with
 |some (J,xs)=>(kF xs).bind λns=>if ns.length<64 then Z (.ref S.length,S++[.lst ((fF (ddI ns)).map D.int)])else Y
 |_=>Y
section
variable{X:Cx}
def EU(X:Cx)(vs:List V)(H:Hp)(Q:VK):Prop:=∃a xs ns,vs=[.ref a]/\jt X.K H a xs/\(∀us,dM xs us->IntsAre us ns)/\ns.length+1<scanBound /\ ∀p,H p=Y->Q (.ref p) (upd H p (.ext (g5 (byT X.w) p (ddI ns))))
theorem C9(hc:X.calm=M):eK X (.type "set") (EU X):=by
 intro ag s σ H xs m Q I r h;obtain⟨a,vs,ns,rfl,f,hi,g,q⟩:=h;obtain⟨u,rfl,r2⟩:=hQ r;cases r2;obtain⟨c,i,p,n⟩:=I.tuple f;have j:=hi c i;refine uz (I.ok.hd hc) p (by simpa using j) g λh' tk keep d=>?_;have b:=I.hok.fresh (nR1 s.heap.objs.size);refine⟨.ref s.heap.objs.size,_,I.laid (t':=tk) (o:=.ext (g5 (byT X.w) s.heap.objs.size (ddI ns))) keep (nR1 _) ⟨d,?_,λh1 h2 x k=>x.old k⟩,O,q _ b⟩;obtain⟨es,ep,t,l,e,_⟩:=d;exact⟨_,e⟩
theorem tq (hc:X.calm=true){o:Expr}{m:FE}{p p2 pos b:Pos}(hg:Gl X "sorted")(hm:X.mg "sorted"=none)(hg2:Gl X "set")(hm2:X.mg "set"=none)(ho:XE X o m)
  (he:cP [.Call (.Name "set" p2) [o] [] b] X.env=[(J,eval (.Call (.Name "set" p2) [o] [] b) X.env)]:=by rfl) (e:cP [o] X.env=[(J,eval o X.env)]:=by rfl):XE X (.Call (.Name "sorted" p) [.Call (.Name "set" p2) [o] [] b] [] pos) (mN (b1 iQ) (cX m cY)):=
 ⟨eo (k0 (vX hc) hg hm (by decide+kernel) (iZ (lB (C9 hc) hg2 hm2 (by decide+kernel) (iZ ho.h lC e) (he:=e)) lC he) (he:=he)) <| by
  rintro σ H Q ⟨r,mu,S,d,F,he,n,hm,g⟩;obtain⟨⟨ds,C⟩,f,hm⟩:=oB1.mp hm;obtain⟨⟨x,E⟩,s,f⟩:=oB1.mp f;cases f;dsimp only[b1,iQ]at hm;split at hm
  ·rename_i xs z;obtain⟨ns,w,hm⟩:=oB1.mp hm;split at hm
   ·rename_i i;cases hm;refine⟨r,mu,S,x,_,he,n,s,λv H1 mu1 B A k=>?_⟩;obtain⟨a,vs,rfl,q,t⟩:=dr A k z;refine⟨a,vs,ns,O,q,λD l=>(ph t l w).1,bi (Nat.succ_lt_succ i) (by decide),λp h=>?_⟩;refine⟨p,ddI ns,O,dZ,bD (DV ns) i,λp2 c=>?_⟩;have y:Ext mu1 mu1 H1 (upd H1 p (.ext (g5 (byT X.w) p (ddI ns)))):=Ext.fresh h;have j:=k.fresh (u:=.ext (g5 (byT X.w) p (ddI ns))) h;exact g _ _ (mu1++[p2]) (B.trans (y.trans (Ext.new_ c))) (.ref (g4 j.len _)) (j.newL (iI _) c)
   ·cases hm
  ·cases hm⟩
end
section
variable{prog:cK}{w:cN}{A:cM}{E:cH->cI->Prop}{s:cI}
end
section
variable{X:Cx}{ag:List (cJ×Obj)}{σ:L2.St}{H:Hp}{s:cI}{mu:List cJ}
end
section
variable{X:Cx}
end
section
variable{X:Cx}{f:cJ}{fd:cU}{ps:List Str}{k n:Nat}{sp:Sp}{dvs:List V}{ds:List cH}{CX:xm}{E:XK}{t:TA}{e:Expr}{es:List Expr}{p pos:Pos}{i:Nat}{v x:Str}
end
section
variable{prog:cK}{w:cN}{K:Type} [DecidableEq K] {knd:HeapKind prog w K}{A:cM}{E:cH->cI->Prop}{s:cI}
end
section
variable{X:Cx}
end
theorem JN.fits{es:Array (Int×cH)}{t:SetTable}(h:JN es t):t.fits es.size=M:=by
 unfold SetTable.fits SetTable.fill;rw[h.du,h.sz];have:=h.fl;simp;exact this
def JP(h:cT)(k:TK)(e:Int×cH):Prop:=∃a,e=(k.hash,.ref a)/\gP h k (.ref a)/\k.dep<=8
section
variable{prog:cK}{w:cN}{A:cM}{E:cH->cI->Prop}{s:cI}
end
theorem gP.keepsS{h h':cT}{p:cJ}{es:Array (Int×cH)}{ep:Nat}{t:SetTable}(ho:h.get? p=some (stO es ep t))(hs:∀ a o,a≠p->h.get? a=some o->h'.get? a=some o):∀ {k:TK} {v:cH},gP h k v->gP h' k v:=fun e=>e.rec (motive_1:=fun k v _=>gP h' k v) (motive_2:=fun k v _=>gu h' k v) .non .int
  (λ{a} _ _ _ _ d f c _ ih=>.tup (hs a _ (λz=>by subst z;rw[d]at ho;cases ho;cases c) d) f c ih) .nil (λ_ _ a b=>.cons a b)
theorem JP.keep{h h':cT}{p:cJ}{es:Array (Int×cH)}{ep:Nat}{t:SetTable}(ho:h.get? p=Z (stO es ep t))(hs:∀a o,a≠p->h.get? a=Z o->h'.get? a=Z o){k:TK}{e:Int×cH}(x:JP h k e):JP h' k e:=by
 obtain⟨a,b,d,c⟩:=x;exact⟨a,b,d.keepsS ho hs,c⟩
section
variable{P:cK}{w:cN}{A:cM}{E:cH->cI->Prop}{s:cI}{p:cJ}{xs:List (TK×cJ×cH)}
end
section
variable{P:cK}{w:cN}{A:cM}{E:cH->cI->Prop}
end
section
variable{X:Cx}
end
section
variable{X:Cx}{pos:Pos}
theorem ce{op:CmpOp}{x y:Expr}{f:FN}{a b:FE}(ho:fJ X (compareOp op) (r2 X.K f))(hx:XE X x a)(hy:XE X y b)(hm:behindInMarks op y=J:=by exact yQ _):XE X (.Compare x [op] [y] pos) (m2 f a b):=AZ ho hx hy hm
theorem ct{op:CmpOp}{x y:Expr}{f:FN}{a b:FE}(ho:fJ X (compareOp op) (r2 X.K f))(hx:XE X x a)(hy:XE X y b)(hm:behindInMarks op y=J:=by exact yQ _):XT X (.Compare x [op] [y] pos) (mB (m2 f a b)):=qX ho hx hy hm
theorem kc{a:cW}{i:Nat}{l:List Nat}(x:Str)(r:∀i∈l,∃x,X.N[i]?=Z x/\a.names.lookup x=Z .free/\(X.env.kindOf x=Z .cell\/X.env.kindOf x=Z .free)/\(x,NameKind.cell)∉a.names)(h1:X.N[i]?=Z x:=by rfl)(h2:a.names.lookup x=Z .free:=by rfl)(c:X.env.kindOf x=Z .cell\/X.env.kindOf x=Z .free:=by first|exact Or.inl rfl|exact Or.inr rfl)(b:(x,NameKind.cell)∉a.names:=by decide+kernel):∀j∈i::l,∃x,X.N[j]?=Z x/\a.names.lookup x=Z .free/\(X.env.kindOf x=Z .cell\/X.env.kindOf x=Z .free)/\(x,NameKind.cell)∉a.names:=List.forall_mem_cons.mpr ⟨⟨x,h1,h2,c,b⟩,r⟩
end
structure dG (K:Fg1)(x:Str)(st:cV)(f:cJ):Prop where
 ns:wN1 K cO x=some (some (.ref f))
 fn:∃fd,v8 K x x st f fd
theorem IN{K:Fg1}{x:Str}{st:cV}{f:cJ}{j:cH}{i g:Option cJ}{d:Array (Option cH)}{kV e h b ct:cH}(a:wN1 K cO x=Z (Z (.ref f)))(l:K.lookup f=Z ⟨j,i,.func (wF1 x x (iu st) (fg st) (dA st) .none kV e h g b ct),d⟩)(c:wC1 K b x=M)(k:wK1 K (.ref f)=M):dG K x st f:=⟨a,_,zQ l c k⟩
theorem xo{P:cK}{w:cN}{K:Fg1}{mg:Str->Option cH}{base h:cT}{x:Str}{st:cV}{f:cJ}{N ps:List Str}{k n:Nat}{b:FS}(X:K.In h)(G:h.Ns cO mg)(F:dG K x st f)(S:gH N ps (dA st))(hb:∀(kV e j:cH) (i:Option cJ) (a ct:cH) (us:List cH),us.length=ps.length->bindArgs (wF1 x x (iu st) (fg st) (dA st) .none kV e j i a ct) ⟨us,[]⟩=pure (ps.zip us))(d:∀(f:cJ) (a:cH) (A:cM) (c:List Env) (s:cI) (H:Hp) (E:XK),gf k (A.deeper (envOfC x (dA st) s.heap.objs.size f a)) ->
   uE (mO sT P w K mg base N x (dA st) f a A c s H E).nox (fg st) b)(hn:ps.length=n:=by rfl):Own P w K mg base (k+1) x n (gC N.length b):=by
 obtain⟨fd,g⟩:=F.fn;exact uL g (g.binds hb) (wM1 X G F.ns) S hn (d f)
section
variable{X:Cx}{ag:List (cJ×Obj)}{σ:L2.St}{H:Hp}{s:cI}{mu:List cJ}
end
section
variable{P:cK}{w:cN}{A:cM}{E:cH->cI->Prop}{s:cI}{a x:cJ}{xs:List (TK×cJ×cH)}{k:TK}
end
section
variable{X:Cx}
end
section
variable{X:Cx}{o e:Expr}{es:List Expr}{to:TE}{t:TA}{name:Str}{apos cpos:Pos}{id:String}{r:V->List V->Hp->VK->Prop}
end
section
variable{X:Cx}
end
section
variable{X:Cx}{x y z u:Expr}{pos:Pos}{f g k:FN}{a b c d:FE}{op op' op'':CmpOp}{ta tb tc td:TE}
end
structure Blt (L:List Str)(mg:Str->Option cH):Prop where
 h:∀x∈L,mg x=none
theorem bz{L:List Str}{mg:Str->Option cH}{x:Str}(B:Blt L mg)(h:x∈L:=by decide):mg x=Y:=B.h x h
theorem sk{N P:List Str}{sc:cW}(h1:sc.kind = .function:=by rfl)(h2:sc.isCoroutine=J:=by rfl)(d:sc.isGenerator=J:=by rfl)(c:N.Nodup:=by decide+kernel)(a:N.take P.length=P:=by rfl)(b:∀x∈P,sc.names.lookup x=Z .local\/sc.names.lookup x=Z .cell:=by decide+kernel)(e:∀y∈sc.names,y.2 ≠ .free:=by decide+kernel):gH N P sc:=⟨h1,h2,d,c,a,b,e⟩
def Ja(K:Fg1):List Str->Prop
 |[]=>True
 |x::l=>wN1 K cO x=Z Y/\Ja K l
theorem Ja.blt{K:Fg1}{mg:Str->Option cH}{h:cT}(X:K.In h)(G:h.Ns cO mg):∀{L:List Str},Ja K L->Blt L mg
 |[],_=>⟨λ_ m=>nomatch m⟩
 |_::_,z=>⟨λ_ m=>match m with
  | .head _=>PySem.W.mg_none_of X G z.1
  | .tail _ m=>(Ja.blt X G z.2).h _ m⟩
def Jm:List Str->Bool
 |[]=>M
 |x::l=> !l.contains x&&Jm l
theorem jC:∀{l:List Str},Jm l=M->l.Nodup
 |[],_=>br
 |x::l,h=>by
  obtain⟨a,b⟩:=(bA1 _ _).mp h;exact aL.mpr ⟨λm=>(by rw[List.contains_iff_mem.mpr m]at a;cases a),jC b⟩
section
variable{X:Cx}{pos:Pos}{k:Nat}{x:Str}{i:Nat}{e y:Expr}{es:List Expr}{m b:FE}{a:FA}{p:Pos}
theorem xv (hN:X.N[i]?=Z x:=by rfl)(hv:Vis X.env.scope x:=by first|exact Or.inl rfl|exact Or.inr (Or.inl rfl)|exact Or.inr (Or.inr rfl))(hd:(x == ("__debug__":Str))=J:=by decide)(hcd:(x == ("__classdict__":Str))=J:=by decide):XE X (.Name x pos) (mV i):=La i hN hv hd hcd
theorem gq(hN:Jm X.N=M:=by rfl)(hi:X.N[i]?=Z x:=by rfl)(hx:uK X.env.scope x:=by first|exact Or.inl rfl|exact Or.inr rfl)(hf:X.fn x=M\/X.env.scope.names.lookup x=Z .local:=by first|exact .inl rfl|exact .inr rfl|assumption):XG X (.Name x pos) (gN i):=qO i (jC hN) hi hx hf
theorem sq(he:XE X e m)(hN:Jm X.N=M:=by rfl)(hi:X.N[i]?=Z x:=by rfl)(hx:uK X.env.scope x:=by first|exact Or.inl rfl|exact Or.inr rfl)(hs:swapsWith e (Z (.Name x p)) pos.line X.env=pure J:=by rfl)(hf:X.fn x=M\/X.env.scope.names.lookup x=Z .local:=by first|exact .inl rfl|exact .inr rfl|assumption):XS X (.Assign [.Name x p] e pos) (dI m (gN i)):=qY i (jC hN) hi hx he hs hf
theorem jq(hx:XE X e m)(hy:XE X y b)(hr:gf k X.A:=by assumption)(hs:na y:=by intro _ _;rfl):XE X (.Subscript e y pos) (m2 (b2 de) m b):=qJ (qP hr.units) hx hy hs
theorem oq{ar:Prop}(o:X.A.units+64<cLine->ar)(hr:gf k X.A:=by assumption):ar:=o hr.units
theorem wn {k' n:Nat}{f:FN}(h:Own X.prog X.w X.K X.mg X.base k x n f)(ha:XA X (e::es) a)(hr:gf k' X.A:=by assumption)(hk:k<=k':=by first|decide|omega)(hg:Gl X x:=by rfl)(hdb:(x == ("__debug__":Str))=J:=by decide)(he:cP (e::es) X.env=(J,eval e X.env)::cP es X.env:=by rfl)(hpl:(backTo pos (cP es X.env)).any (·.1)=J:=by rfl):XE X (.Call (.Name x p) (e::es) [] pos) (mN (c9 n f) a):=qH h hr hk hg ha hdb he hpl
theorem cn {id:String}{f:FN}(hc:eK X (.builtin id) (rN X.K f))(ha:XA X (e::es) a)(hm:X.mg x=Y:=by exact bz (by assumption))(hg:Gl X x:=by rfl)(hv:bootBuiltins x=Z (.builtin id):=by decide+kernel)(hn:x≠"__name__":=by decide)(hdb:(x == ("__debug__":Str))=J:=by decide)(he:cP (e::es) X.env=(J,eval e X.env)::cP es X.env:=by rfl)(hpl:(backTo pos (cP es X.env)).any (·.1)=J:=by rfl):XE X (.Call (.Name x p) (e::es) [] pos) (mN f a):=qD hc hg hm hv ha hn hdb he hpl
theorem cz {T:String}{f:FN}(hc:eK X (.type T) (rN X.K f))(ha:XA X (e::es) a)(hm:X.mg x=Y:=by exact bz (by assumption))(hg:Gl X x:=by rfl)(hv:bootBuiltins x=Z (.type T):=by decide+kernel)(hn:x≠"__name__":=by decide)(hdb:(x == ("__debug__":Str))=J:=by decide)(he:cP (e::es) X.env=(J,eval e X.env)::cP es X.env:=by rfl)(hpl:(backTo pos (cP es X.env)).any (·.1)=J:=by rfl):XE X (.Call (.Name x p) (e::es) [] pos) (mN f a):=qE hc hg hm hv ha hn hdb he hpl
theorem a1(h:XE X e m)(hs:cP [e] X.env=(J,eval e X.env)::cP [] X.env:=by rfl):XA X [e] (cX m cY):=qA h qN hs
theorem a2(h:XE X e m)(g:XE X y b)(hs:cP [e,y] X.env=(J,eval e X.env)::cP [y] X.env:=by rfl)(hs2:cP [y] X.env=(J,eval y X.env)::cP [] X.env:=by rfl):XA X [e,y] (cX m (cX b cY)):=qA h (a1 g hs2) hs
theorem a3{z:Expr}{c:FE}(h:XE X e m)(g:XE X y b)(l:XE X z c)(hs:cP [e,y,z] X.env=(J,eval e X.env)::cP [y,z] X.env:=by rfl)(hs2:cP [y,z] X.env=(J,eval y X.env)::cP [z] X.env:=by rfl)(a:cP [z] X.env=(J,eval z X.env)::cP [] X.env:=by rfl):XA X [e,y,z] (cX m (cX b (cX c cY))):=qA h (a2 g l hs2 a) hs
theorem ir (ha:XA X [e] a)(hm:X.mg "range"=Y:=by exact bz (by assumption))(hg:Gl X "range":=by rfl)(hs:cP [e] X.env=[(J,eval e X.env)]:=by rfl):XI X y (.Call (.Name "range" p) [e] [] pos) (mZ a):=tm hg hm ha hs
theorem ie {elts:List Expr}{b:Nat}{tpos:Pos}(ha:XA X [e] a)(hm:X.mg "enumerate"=Y:=by exact bz (by assumption))(hg:Gl X "enumerate":=by rfl)(hs:cP [e] X.env=[(J,eval e X.env)]:=by rfl):XI X (.Tuple elts b tpos) (.Call (.Name "enumerate" p) [e] [] pos) (vE a):=xp hg hm ha hs
theorem ii {T:Ty}{p2:Pos}(h:XE X e m)(hm:X.mg "isinstance"=Y:=by exact bz (by assumption))(hm2:X.mg x=Y:=by exact bz (by assumption))(hg:Gl X "isinstance":=by rfl)(hg2:Gl X x:=by rfl)(hv2:bootBuiltins x=Z (.type T.nm):=by decide+kernel)(hn:x≠"__name__":=by decide)(hd:(x == ("__debug__":Str))=J:=by decide)(hs1:cP [e,.Name x p2] X.env=(J,eval e X.env)::cP [.Name x p2] X.env:=by rfl)(hs2:cP [.Name x p2] X.env=(J,eval (.Name x p2) X.env)::cP [] X.env:=by rfl)(hpl:(backTo pos (cP [.Name x p2] X.env)).any (·.1)=J:=by rfl):XE X (.Call (.Name "isinstance" p) [e,.Name x p2] [] pos) (d8 T m):=tt T hg hm hg2 hm2 hv2 h hn hd hs1 hs2 hpl
structure Lm (X:Cx)(name:Str)(id:String)(f:FN):Prop where
 s:Slot "list" name id
 t:typeOf (.builtin id)=pure (.type "method_descriptor")
 m:He X id (λx xs H Q=>rN X.K f (x::xs) H Q)
theorem ap:Lm X "append" "list.append" (b2 mM):=⟨PySem.F.slot_list_append,PySem.F.type_list_append,Hr⟩
theorem lq{f:FN}{name:Str}{apos:Pos}{id:String}(s:Lm X name id f)(ho:XE X y m)(ha:XA X (e::es) a)(hbase:attributeBase y name X.env (eval y X.env)=eval y X.env:=by rfl)(hfew:((backTo pos (cP (e::es) X.env)).all (λx=> !x.1)&&(backToKw pos (keywordEach [] X.env)).all (λx=>x.1.isSome)&&decide ((e::es).length+([]:List Keyword).length+(if([]:List Keyword).isEmpty then 0 else 1)<30))=M:=by rfl)(hline:(apos.endLine == pos.line)=M:=by rfl)(hs:cP (e::es) X.env=(J,eval e X.env)::cP es X.env:=by rfl)(hplain:(backTo pos (cP es X.env)).any (·.1)=J:=by rfl):XS X (.Expr (.Call (.Attribute y name apos) (e::es) [] pos) p) (ij (vq f m a)):=xn (qe s.s s.t s.m ho ha hbase hfew hline hs hplain)
theorem fo{tg iter:Expr}{a:List cV}{m:FI}{g:FG}{b:FS}(hi:XI X tg iter m)(hg:XG X tg g)(hb:uE X a b)(hp:PassesOwn (model X.prog X.w) X.A X.env X.xe:=by exact PassesOwn.never)(hc:X.calm=M:=by rfl)(hs:∀x,foldedSetIterable iter X.env x=pure x:=by intro _;rfl):XS X (.For tg iter a [] pos) (ga m g b):=qW hp hc hi hg hb hs
theorem tg2{d:Expr}{g h:FG}{a:Nat}(h1:XG X e g)(h2:XG X d h)(hc:X.calm=M:=by rfl)(hs:(assignEach [e,d] X.env).map (·.2)=assign e X.env::(assignEach [d] X.env).map (·.2):=by rfl)(hs2:(assignEach [d] X.env).map (·.2)=assign d X.env::(assignEach [] X.env).map (·.2):=by rfl)(hn:(assignEach [e,d] X.env).length=2:=by rfl)(hst:(assignEach [e,d] X.env).findIdx? (·.1)=Y:=by rfl):XG X (.Tuple [e,d] a pos) (gT 2 (gm g (gm h lN))):=pG hc (ee h1 (ee h2 nf hs2) hs) hn hst
def Jn(x:Str):List (Str×NameKind)->Bool
 |[]=>M
 |(y,.cell)::l=> !(y == x)&&Jn x l
 |_::l=>Jn x l
omit k i in
theorem yX:∀{l:List (Str×NameKind)},Jn x l=M->(x,NameKind.cell)∉l
 |[],_,m=>nomatch m
 |(y,c)::l,h,m=>by
  rcases aD.mp m with e|a
  ·cases e;have h:=((bA1 _ _).mp h).1;rw[beq_self_eq_true]at h;cases h
  ·cases c with
   |cell=>exact yX ((bA1 _ _).mp h).2 a
   |_=>exact yX (l:=l) h a
theorem kz{a:cW}{l:List Nat}(r:∀i∈l,∃x,X.N[i]?=Z x/\a.names.lookup x=Z .free/\(X.env.kindOf x=Z .cell\/X.env.kindOf x=Z .free)/\(x,NameKind.cell)∉a.names)(h1:X.N[i]?=Z x:=by rfl)(h2:a.names.lookup x=Z .free:=by rfl)(c:X.env.kindOf x=Z .cell\/X.env.kindOf x=Z .free:=by first|exact Or.inl rfl|exact Or.inr rfl)(b:Jn x a.names=M:=by rfl):∀j∈i::l,∃x,X.N[j]?=Z x/\a.names.lookup x=Z .free/\(X.env.kindOf x=Z .cell\/X.env.kindOf x=Z .free)/\(x,NameKind.cell)∉a.names:=kc x r h1 h2 c (yX b)
def K2(X:Cx)(sc:cW):List (Str×cJ):=(jJ X.env.cells sc.names []).getD []
theorem fk{elt tg iter:Expr}{ifs:List Expr}{scope:cW}(T:List Str){keep:List Nat}{m:FI}{g:FG}{t:FT}{e:FE}(hi:XI X tg iter m)(hb:∀ {s H d},Ko (cxC X scope (K2 X scope) T keep s H d) X.K tg ifs elt g t e)(free:∀i∈keep,∃x,X.N[i]?=Z x/\scope.names.lookup x=Z .free/\(X.env.kindOf x=Z .cell\/X.env.kindOf x=Z .free)/\(x,NameKind.cell)∉scope.names:=by first|exact ci _|exact kz (ci _)|exact kz (kz (ci _))|exact kz (kz (kz (ci _)))|exact kz (kz (kz (kz (ci _)))))(hc:X.calm=M:=by rfl)(b:scope.kind = .function:=by rfl)(a:∀x∈scope.names,x.2 = .local->scope.names.lookup x.1=Z .local:=by decide+kernel)(c:jJ X.env.cells scope.names []=Z (K2 X scope):=by rfl)(hs:∀x,foldedSetIterable iter X.env x=pure x:=by intro _;rfl):XE X (.ListComp elt [⟨tg,iter,ifs,0⟩] scope pos) (d6 T.length keep m g t (dV e)):=qZ hc ⟨b,a,free⟩ c hi (λ_ _ _=>hb) hs
end
theorem xq{P:cK}{w:cN}{K:Fg1}{mg:Str->Option cH}{base h:cT}{x:Str}{st:cV}{f:cJ}{k n:Nat}{b:FS}(N:List Str)(X:K.In h)(G:h.Ns cO mg)(F:dG K x st f)(d:∀{f:cJ} {a:cH} {A:cM} {c:List Env} {s:cI} {H:Hp} {E:XK},gf k (A.deeper (envOfC x (dA st) s.heap.objs.size f a)) ->
   uE (mO sT P w K mg base N x (dA st) f a A c s H E).nox (fg st) b)(S:gH N (N.take n) (dA st):=by exact sk)(hb:∀(kV g l:cH) (j:Option cJ) (a ct:cH) (us:List cH),us.length=(N.take n).length->bindArgs (wF1 x x (iu st) (fg st) (dA st) .none kV g l j a ct) ⟨us,[]⟩=pure ((N.take n).zip us):=by
   intro _ _ _ _ _ _ us e;first|exact KP e λ_=>rfl|exact Kb e λ_ _=>rfl|exact KO e λ_ _ _=>rfl|exact Lx e λ_ _ _ _=>rfl)(hn:(N.take n).length=n:=by rfl):Own P w K mg base (k+1) x n (gC N.length b):=xo X G F S hb (λ_ _ _ _ _ _ _ i=>d i) hn
open AutoSeq1 (wpAny_loadPart')
theorem rW:fillsNumberSlot (.type "tuple") "mul"=pure J:=
 PySem.fillsNumberSlot_seq (id:="tuple.__mul__") (r:=Z (.builtin "tuple.__rmul__")) F.slot_tuple_mul.lookup (by decide+kernel) F.slot_tuple_rmul.lookup (by decide+kernel)
theorem Bo:seqRepeat? (.type "tuple")=pure (Z (.builtin "tuple.__mul__")):=by
 unfold seqRepeat?;rw[PySem.seqSlot_of (T:="tuple") (name:="__mul__") (id:="tuple.__mul__") F.slot_tuple_mul.lookup (by decide+kernel),PySem.seqSlot_of (T:="tuple") (name:="__rmul__") (id:="tuple.__rmul__") F.slot_tuple_rmul.lookup (by decide+kernel)];rfl
theorem yf(a:Int)(t:Tok)(l:cJ)(items:Array cH)(n:Nat)(dd:Option cJ)(sl:Array (Option cH)):
  Meets (Builtin.«int.__rmul__» ⟨[.int a t,.ref l],[]⟩) (λ_ R s=>s.heap.get? l=Z {cls:=.type "tuple",dict:=dd,data:=.seq items n,slots:=sl}/\R (.ok (.ret Value.notImplemented)) s):=.of_wp λ_ _ _ _ s h=>by
 obtain⟨e,g,d,tk,c⟩:=s;obtain⟨b,h⟩:=h;wp_walk using wpAny_loadPart' b,wpAny_load b;exact⟨_,O,h⟩
theorem B3(l:cJ)(items:Array cH)(n:Nat)(dd:Option cJ)(sl:Array (Option cH))(x:Int)(u:Tok)(c:(decide (x < -(2^63))||decide (x>=2^63))=false)(h1:(items.isEmpty||x == 1)=false)(h2:(decide (x<=0)||items.isEmpty)=false)(e:¬ ((items.size:Int)*x>(2^63-1)/8))(k:Builtin.Tuple.tupleTooMany ((items.size:Int)*x)=false)(f:¬ (aV (fun b x2=>b++x2) #[] (aM x.toNat items)).size>cQ):
  Meets (Builtin.«tuple.__mul__» ⟨[.ref l,.int x u],[]⟩) (λ_ R s=>s.heap.get? l=Z {cls:=.type "tuple",dict:=dd,data:=.seq items n,slots:=sl}/\R (.ok (.ret (Value.ref s.heap.objs.size))) {s with heap:=s.heap.push {cls:=Value.type "tuple",data:=Data.seq (aV (λb x2=>b++x2) #[] (aM x.toNat items))}}):=.of_wp λ_ _ _ _ s h=>by
 obtain⟨j,g,d,tk,i⟩:=s;obtain⟨a,h⟩:=h
 wp_walk using wpAny_loadPart' a,wpAny_load a
 refine wpAny_ite_false (ai (by rw[c];exact aI)) ?_
 wp_walk using wpAny_loadPart' a,wpAny_load a
 refine wpAny_ite_false (ai e) ?_
 wp_walk using wpAny_loadPart' a,wpAny_load a
 exact⟨_,O,h⟩
def HM(K:Fg1):R2:=λx y H Q=>∃l k xs,x = .ref l/\y = .int k/\jt K H l xs/\2<=k/\k<2^62/\xs≠[]/\xs.length*k.toNat<=cQ /\
 ∀p,H p=Y->Q (.ref p) (upd H p (.tup (aM k.toNat xs).flatten))
section
variable{X:Cx}
theorem BR:fJ X (binaryOp .Mult) (HM X.K):=by
 intro ag s σ H x y v u Q I D w h;obtain⟨l,k,xs,rfl,rfl,E,h1,h2,C,m,q⟩:=h;cases D;obtain⟨t,rfl⟩:=w;obtain⟨a,r,p,_⟩:=I.tuple E;obtain⟨⟨A,dd,i,sl⟩,d,hc,n,g⟩:=id p;simp only at hc g;subst hc g;have e:a≠[]:=λz=>C (r.nil_iff.mp z);have c:a.toArray.isEmpty=J:=by simpa using e
 have G:a.length=xs.length:=r.length.symm;have j:aV (λB x2=>B++x2) #[] (aM k.toNat a.toArray)=(aM k.toNat a).flatten.toArray:=by
  have:=lQ a k.toNat [];rw[a0]at this;exact this
 have f:a.toArray.size*k.toNat<=cQ:=by rw[aJ,G];exact m
 have hi:((a.toArray.size:Nat):Int)*k=((a.toArray.size*k.toNat:Nat):Int):=by
  rw[Int.natCast_mul,Int.toNat_of_nonneg (by lia)]
 refine wpAny_binaryOp_repeat_ref (T:="tuple") (U:="int") (by decide) ⟨_,d,O⟩ (λs'=>typeIs_int s' k t) rW F.fills_int_mul F.slot_int_rmul Bo F.slot_int_index.lookup
  (call_meets F.slot_int_rmul (typeIs_int s k t) F.entry_int_rmul (F.args_int_rmul_2 _ _) (yf k t l a.toArray n dd sl)
   ⟨d,O,⟨_,d,O⟩,call_meets F.slot_tuple_mul ⟨_,d,O⟩ F.entry_tuple_mul (F.args_tuple_mul_2 _ _) (B3 l a.toArray n dd sl k t ?_ ?_ ?_ ?_ ?_ ?_) ⟨d,?_⟩⟩)
 ·rw[ai (by lia),ai (by lia)];rfl
 ·rw[c,Bool.false_or,beq_eq_false_iff_ne];lia
 ·rw[c,Bool.or_false,ai (by lia)]
 ·rw[hi];have:(cQ:Int)<=(2^63-1)/8:=by decide
  lia
 ·rw[hi];unfold Builtin.Tuple.tupleTooMany;exact ai (by lia)
 ·rw[j,aJ,lc];rw[aJ,Nat.mul_comm]at f;lia
 rw[j];refine⟨.ref s.heap.objs.size,_,I.laid (t':=s.toks) (o:=.tup (aM k.toNat xs).flatten) (λb am q=>hP1 _ q) (nR1 _) ?_,O,q _ (I.hok.fresh (nR1 _))⟩;exact⟨by rw[lc,Nat.mul_comm];exact m,_,r.rep k.toNat,IsTup.new _ _⟩
def kj:G2:=λd e S=>match d,e with
 | .tup xs,.int k=>if 2<=k/\k<2^62/\xs.isEmpty=J/\xs.length*k.toNat<=cQ then Z (.tup (aM k.toNat xs).flatten,S)else Y
 |_,_=>Y
theorem yM:fJ X (binaryOp .Mult) (r2 X.K (b2 kj)):=by
 intro ag s σ H x y u w Q I m i h;obtain⟨mu,S,d,e,r,o,l,r2,j,b,hc⟩:=oR h;unfold kj at b;split at b
 ·rename_i xs k;split at b
  ·rename_i c;cases b;cases r2;cases l with
   |tup n f=>
    rename_i vs a;refine BR ag s σ H _ _ u w Q I m i ⟨a,k,vs,O,O,n,c.1,c.2.1,λz=>?_,by rw[<- f.length];exact c.2.2.2,λp g=>?_⟩
    ·subst z;cases f;cases c.2.2.1
    ·exact hc _ _ mu (Ext.fresh g) (.tup (jt.of dZ) ((dk.rep f k.toNat).ext (Ext.fresh g))) (j.fresh g)
  ·cases b
 ·cases b
end
def W{α:Type}(o:Option α)(Q:α->Prop):Prop:=∃x,o=Z x/\Q x
section
variable{α β:Type}{Q:α->Prop}
theorem dm{x:α}:W (Z x) Q↔Q x:=⟨λ⟨_,e,h⟩=>(by cases e;exact h),λh=>⟨x,O,h⟩⟩
theorem jO:W (Y:Option α) Q↔False:=⟨λ⟨_,e,_⟩=>(by cases e),False.elim⟩
theorem dh{o:Option β}{f:β->Option α}:W (o.bind f) Q↔W o λx=>W (f x) Q:=by
 cases o with
 |none=>exact⟨λ⟨_,e,_⟩=>(by cases e),λ⟨_,e,_⟩=>(by cases e)⟩
 |some x=>exact⟨λh=>⟨x,O,h⟩,λ⟨_,e,h⟩=>by cases e;exact h⟩
theorem jo{o:Option β}{f:β->α}:W (o.map f) Q↔W o λx=>Q (f x):=by
 cases o with
 |none=>exact⟨λ⟨_,e,_⟩=>(by cases e),λ⟨_,e,_⟩=>(by cases e)⟩
 |some x=>exact⟨λ⟨_,e,h⟩=>(by cases e;exact⟨x,O,h⟩),λ⟨_,e,h⟩=>(by cases e;exact⟨_,O,h⟩)⟩
theorem ox{c:Prop}[Decidable c]{a b:Option α}:W (if c then a else b) Q↔if c then W a Q else W b Q:=by split<;>exact Iff.rfl
theorem W.mono{o:Option α}{Q':α->Prop}(h:W o Q)(k:∀x,Q x->Q' x):W o Q':=let ⟨x,e,q⟩:=h;⟨x,e,k x q⟩
theorem W.of{o:Option α}{x:α}(e:o=Z x)(h:Q x):W o Q:=⟨x,e,h⟩
end
theorem eg{a b:FS}{r:Ev}{S:Sto}{Q:Fl×Ev×Sto->Prop}(R:Ev->Sto->Prop)(h1:W (a r S) λp=>p.1 = .nx/\R p.2.1 p.2.2)(h2:∀r S,R r S->W (b r S) Q):W (di a b r S) Q:=by
 obtain⟨⟨f,g,h⟩,e,d,c⟩:=h1;dsimp only at d c;subst d;unfold di;rw[e];exact h2 g h c
theorem io{n:Nat}{b:FS}{ds:List D}{S:Sto}{Q:D×Sto->Prop}(h:W (b (iX n ds) S) fun p=>match p.1 with
  | .rt d=>Q (d,p.2.2)
  | .nx=>Q (.non,p.2.2)
  |_=>False):W (gC n b ds S) Q:=by
 obtain⟨⟨f,a,c⟩,e,q⟩:=h;unfold gC;rw[e];cases f with
 |rt d=>exact⟨_,O,q⟩
 |nx=>exact⟨_,O,q⟩
 |bk=>exact q.elim
 |ct=>exact q.elim
theorem sI{n:Nat}{f:FN}{ds:List D}{S:Sto}{Q:D×Sto->Prop}(hn:ds.length=n)(a:D.unds 0 ds=J)(h:W (f ds S) λp=>Q (gc S.length p)):W (c9 n f ds S) Q:=by
 obtain⟨⟨d,b⟩,e,q⟩:=h;exact⟨_,pv e hn a,q⟩
theorem jK{n:Nat}{f:FN}{ds:List D}{S:Sto}{Q:D×Sto->Prop}(hn:ds.length=n)(b:D.unds 0 ds=M)(h:W (f ds []) λp=>p.1.und 0=M/\Q (p.1,S)):W (c9 n f ds S) Q:=by
 obtain⟨⟨d,g⟩,e,c,a⟩:=h;exact⟨_,pu e hn b c,a⟩
mutual
theorem ju{n:Nat}:∀{d:D},d.und 0=M->d.und n=M
 | .non,_=>rfl
 | .bl _,_=>rfl
 | .int _,_=>rfl
 | .str _,_=>rfl
 | .tup xs,h=>by rw[D.und]at h ⊢;exact dH h
 | .rol xs,h=>by rw[D.und]at h ⊢;exact dH h
 | .fn _,_=>rfl
 | .ref k,h=>by simp[D.und]at h
theorem dH{n:Nat}:∀{ds:List D},D.unds 0 ds=M->D.unds n ds=M
 |[],_=>rfl
 |d::ds,h=>by
  rw[D.unds,bA1]at h ⊢;exact⟨ju h.1,dH h.2⟩
end
theorem fv{c:List (Nat×List D)}{g:FG}{b:FS}{Q:Fl×Ev×Sto->Prop}(I:Nat->Ev->Sto->Prop):∀ (items:List D) (k:Nat) (r:Ev) (S:Sto),I k r S ->
  (∀i r S,I i r S->qS S c=M) ->
  (∀i d,items[i]?=Z d -> ∀r S,I (k+i) r S->W (g d r S) λp=>W (b p.1 p.2) λq=>q.1 = .nx/\I (k+i+1) q.2.1 q.2.2) ->
  (∀r S,I (k+items.length) r S->Q (.nx,r,S))->W (iO c g b items r S) Q
 |[],k,r,S,hi,hok,_,hq=>by rw[iO];dsimp only;rw[ak (hok _ _ _ hi),dm];exact hq r S (by simpa using hi)
 |d::ds,k,r,S,hi,hok,hs,hq=>by
  rw[iO];dsimp only;rw[ak (hok _ _ _ hi),dh];obtain⟨p,n,h1⟩:=hs 0 d O r S (by simpa using hi);refine⟨p,n,?_⟩;dsimp only;rw[dh];obtain⟨⟨f,l,m⟩,o,h2,e⟩:=h1;refine⟨_,o,?_⟩;dsimp only at h2 e ⊢;subst h2;refine fv I ds (k+1) l m (by simpa using e) hok (λi j h r S a=>?_) λr S a=>hq r S (by rw[lC1,show k+(ds.length+1)=k+1+ds.length by lia];exact a);have:=hs (i+1) j (by simpa using h) r S (by rw[show k+(i+1)=k+1+i by lia];exact a);rw[show k+(i+1)+1=k+1+i+1 by lia]at this;exact this
theorem ik{c:List (Nat×List D)}{g:FG}{t:FT}{e:FE}{Q:List D×Ev×Sto->Prop}(I:Nat->List D->Ev->Sto->Prop):∀ (items:List D) (k:Nat) (acc:List D) (r:Ev) (S:Sto),I k acc r S ->
  (∀i acc r S,I i acc r S->qS S c=M) ->
  (∀i d,items[i]?=Z d -> ∀acc r S,I (k+i) acc r S->W (g d r S) λp=>W (t p.1 p.2) λb=>if b.1=M then W (e p.1 b.2) λx=>I (k+i+1) (acc++[x.1]) p.1 x.2 else I (k+i+1) acc p.1 b.2) ->
  (∀xs r S,I (k+items.length) (acc++xs) r S->Q (xs,r,S))->W (fz c g t (dV e) items r S) Q
 |[],k,acc,r,S,hi,hok,_,hq=>by rw[fz];dsimp only;rw[ak (hok _ _ _ _ hi),dm];exact hq [] r S (by simpa using hi)
 |d::ds,k,acc,r,S,hi,hok,hs,hq=>by
  rw[fz];dsimp only;rw[ak (hok _ _ _ _ hi),dh];obtain⟨p,n,h1⟩:=hs 0 d O acc r S (by simpa using hi);refine⟨p,n,?_⟩;dsimp only;rw[dh];obtain⟨⟨b,m⟩,o,h2⟩:=h1;refine⟨_,o,?_⟩;have step:∀i f,ds[i]?=Z f -> ∀acc r S,I (k+1+i) acc r S->W (g f r S) λp=>W (t p.1 p.2) λb=>if b.1=M then W (e p.1 b.2) λx=>I (k+1+i+1) (acc++[x.1]) p.1 x.2 else I (k+1+i+1) acc p.1 b.2:=λi f j acc r S a=>by
   have:=hs (i+1) f (by simpa using j) acc r S (by rw[show k+(i+1)=k+1+i by lia];exact a);rw[show k+(i+1)+1=k+1+i+1 by lia]at this;exact this
  dsimp only at h2 ⊢;cases b with
  |true=>
   rw[ak O]at h2 ⊢;rw[dh,dV,jo];obtain⟨⟨x,q⟩,l,h⟩:=h2;refine⟨_,l,?_⟩;dsimp only at h ⊢;rw[jo];refine ik I ds (k+1) (acc++[x]) p.1 q (by simpa using h) hok step λxs r S a=>?_;refine hq _ r S ?_;rw[lC1,show k+(ds.length+1)=k+1+ds.length by lia];simpa using a
  |false=>
   rw[aj (by decide)]at h2 ⊢;refine ik I ds (k+1) acc p.1 m (by simpa using h2) hok step λxs r S a=>?_;refine hq _ r S ?_;rw[lC1,show k+(ds.length+1)=k+1+ds.length by lia];exact a
theorem xM{S:Sto}{b:Bool}:oC S (.bl b)=Z b:=rfl
theorem Ji{S:Sto}:oC S .non=Z J:=rfl
theorem Jj{S:Sto}{i:Int}:oC S (.int i)=Z (i != 0):=rfl
theorem vJ{x y:Int}{S:Sto}:gEq (.int x) (.int y) S=Z (.bl (x == y),S):=rfl
theorem vG{x y:Int}{S:Sto}:gNe (.int x) (.int y) S=Z (.bl (!(x == y)),S):=rfl
theorem vI{x y:Int}{S:Sto}:oA (.int x) (.int y) S=Z (.bl (decide (x<y)),S):=rfl
theorem Jr{x y:Str}{S:Sto}:gEq (.str x) (.str y) S=Z (.bl (x == y),S):=rfl
theorem Jq{x y:Str}{S:Sto}:gNe (.str x) (.str y) S=Z (.bl (!(x == y)),S):=rfl
theorem ite_and'{c p:Prop}[Decidable c]:(if c then p else False)↔c/\p:=by split<;>simp[*]
def xj(j:Int):Bool:=decide (-(2^62)<=j)&&decide (j<2^62)
theorem fw{n:Nat}(h:n<2^60):xj n=M:=by
 unfold xj;rw[bA1,al,al];lia
theorem uA{j:Int}(h: -(2^60)<=j)(h':j<2^60):xj j=M:=by
 unfold xj;rw[bA1,al,al];lia
def HJ(p:List D×Sto)(Q:AO×Sto->Prop):Prop:=match p.1 with
 |[.int j]=>xj j=M/\Q (⟨iL 0 j.toNat,[]⟩,p.2)
 |_=>False
def HI(p:List D×Sto)(Q:AO×Sto->Prop):Prop:=match p.1 with
 |[.int i,.int j]=>xj i=M/\xj j=M/\Q (⟨iL i (j-i).toNat,[]⟩,p.2)
 |_=>False
theorem D2{m:FA}{r:Ev}{S:Sto}{Q:AO×Sto->Prop}:W (mZ m r S) Q↔W (m r S) λp=>HJ p Q:=by
 unfold mZ;rw[dh];constructor
 ·refine λh=>h.mono λp q=>?_;unfold HJ;split at q
  ·rename_i j e
   try rw[e]
   rw[ox]at q;split at q
   ·rename_i hc;exact⟨by unfold xj;rw[bA1,al,al];exact hc,dm.mp q⟩
   ·exact(jO.mp q).elim
  ·exact(jO.mp q).elim
 ·refine λh=>h.mono λp q=>?_;unfold HJ at q;split at q
  ·rename_i j e;obtain⟨a,b⟩:=q;unfold xj at a;rw[bA1,al,al]at a
   try rw[e]
   try dsimp only
   rw[ak a];exact dm.mpr b
  ·exact q.elim
theorem D1{m:FA}{r:Ev}{S:Sto}{Q:AO×Sto->Prop}:W (IG m r S) Q↔W (m r S) λp=>HI p Q:=by
 unfold IG;rw[dh];constructor
 ·refine λh=>h.mono λp q=>?_;unfold HI;split at q
  ·rename_i i j e
   try rw[e]
   rw[ox]at q;split at q
   ·rename_i hc;refine⟨?_,?_,dm.mp q⟩
    ·unfold xj;rw[bA1,al,al];exact⟨hc.1,hc.2.1⟩
    ·unfold xj;rw[bA1,al,al];exact hc.2.2
   ·exact(jO.mp q).elim
  ·exact(jO.mp q).elim
 ·refine λh=>h.mono λp q=>?_;unfold HI at q;split at q
  ·rename_i i j e;obtain⟨a,b,c⟩:=q;unfold xj at a b;rw[bA1,al,al]at a b
   try rw[e]
   try dsimp only
   rw[ak ⟨a.1,a.2,b⟩];exact dm.mpr c
  ·exact q.elim
def fits(n:Nat):Bool:=decide (n<=cQ)
theorem dg{n:Nat}(h:n<=100000):fits n=M:=by unfold fits;rw[al];exact aB h (by decide)
theorem sx{n:Nat}:fits n=M↔n<=cQ:=by unfold fits;rw[al]
theorem K1:fits 0=M:=dg (by decide)
theorem K0:fits 1=M:=dg (by decide)
theorem KZ:fits 2=M:=dg (by decide)
theorem KY:fits 3=M:=dg (by decide)
theorem KX:fits 4=M:=dg (by decide)
theorem KW:fits 5=M:=dg (by decide)
theorem LL:fits 6=M:=dg (by decide)
theorem KU:fits 7=M:=dg (by decide)
theorem KS:fits 8=M:=dg (by decide)
theorem iA{α:Type}{n:Nat}{o:Option α}{Q:α->Prop}:W (if n<=cQ then o else Y) Q↔fits n=M/\W o Q:=by
 rw[sx,ox];split
 ·rename_i h;exact⟨λq=>⟨h,q⟩,λq=>q.2⟩
 ·rename_i h;exact⟨λq=>(jO.mp q).elim,λq=>absurd q.1 h⟩
theorem uF{a:FA}{r:Ev}{S:Sto}{Q:D×Sto->Prop}:W (dz a r S) Q↔W (a r S) λp=>fits p.1.length=M/\Q (.tup p.1,p.2):=by
 unfold dz;rw[dh];exact⟨λh=>h.mono λp q=>(iA.mp q).imp_right dm.mp,λh=>h.mono λp q=>iA.mpr (q.imp_right dm.mpr)⟩
theorem uG{a:FA}{r:Ev}{S:Sto}{Q:D×Sto->Prop}:W (et a r S) Q↔W (a r S) λp=>fits p.1.length=M/\Q (.ref p.2.length,p.2++[.lst p.1]):=by
 unfold et;rw[dh];exact⟨λh=>h.mono λp q=>(iA.mp q).imp_right dm.mp,λh=>h.mono λp q=>iA.mpr (q.imp_right dm.mpr)⟩
theorem v6{k:Nat}{keep:List Nat}{m:FI}{g:FG}{t:FT}{b:FV}{r:Ev}{S:Sto}{Q:D×Sto->Prop}:W (d6 k keep m g t b r S) Q↔W (m r S) λp=>W (fz p.1.chk g t b p.1.items (uk k keep r) p.2) λq=>fits q.1.length=M/\Q (.ref q.2.2.length,q.2.2++[.lst q.1]):=by
 unfold d6;rw[dh];refine⟨λh=>h.mono λp q=>?_,λh=>h.mono λp q=>?_⟩
 ·rw[dh]at q;exact q.mono λz w=>(iA.mp w).imp_right dm.mp
 ·rw[dh];exact q.mono λz w=>iA.mpr (w.imp_right dm.mpr)
theorem AL{xs ys:List D}{S:Sto}{Q:D×Sto->Prop}:W (dS (.tup xs) (.tup ys) S) Q↔fits (xs.length+ys.length)=M/\Q (.tup (xs++ys),S):=
 ⟨λq=>(iA.mp q).imp_right dm.mp,λq=>iA.mpr (q.imp_right dm.mpr)⟩
theorem AM{x y:Int}{S:Sto}{Q:D×Sto->Prop}:W (dS (.int x) (.int y) S) Q↔Q (.int (x+y),S):=dm
theorem lW{a b:Nat}{xs ys:List D}{S:Sto}{Q:D×Sto->Prop}(h1:S[a]?=Z (.lst xs))(h2:S[b]?=Z (.lst ys)):W (dS (.ref a) (.ref b) S) Q↔fits (xs.length+ys.length)=M/\Q (.ref S.length,S++[.lst (xs++ys)]):=by
 rw[dS];simp only[h1,h2];exact⟨λq=>(iA.mp q).imp_right dm.mp,λq=>iA.mpr (q.imp_right dm.mpr)⟩
theorem sP{n:Nat}{v:D}{xs:List D}{S:Sto}{Q:D×Sto->Prop}(h:S[n]?=Z (.lst xs)):W (mM (.ref n) v S) Q↔fits (xs.length+1)=M/\Q (.non,S.set n (.lst (xs++[v]))):=by
 rw[mM];simp only[h];rw[ox,sx];split
 ·rename_i a;exact⟨λq=>⟨a,dm.mp q⟩,λq=>dm.mpr q.2⟩
 ·rename_i a;exact⟨λq=>(jO.mp q).elim,λq=>absurd q.1 a⟩
theorem W_mulL{n:Nat}{k:Nat}{xs:List D}{S:Sto}{Q:D×Sto->Prop}(h:S[n]?=Z (.lst xs))(hk:k<=1000)(hx:xs.length<=1000)(q:Q (.ref S.length,S++[.lst (aM k xs).flatten])):W (im (.ref n) (.int k) S) Q:=by
 rw[im];simp only[h];have a:xs.length*k<=cQ:=aB (Nat.mul_le_mul hx hk) (by decide);rw[ak ⟨by lia,by lia,by rw[Int.toNat_natCast];exact a⟩,dm,Int.toNat_natCast];exact q
theorem gt{n:Nat}{i:Nat}{xs:List D}{x:D}{S:Sto}{Q:D×Sto->Prop}(h:S[n]?=Z (.lst xs))(hx:xs[i]?=Z x)(q:Q (x,S)):W (de (.ref n) (.int i) S) Q:=by
 refine W.of (x:=(x,S)) ?_ q;have a:=(gE1.mp hx).1;simp only[de,mK,xi,h,dj,pE,sX,oS1,ak (show(0:Int)<=i by lia)];rw[ak (by lia)];simp[hx]
theorem v5{i:Nat}{xs:List D}{x:D}{S:Sto}{Q:D×Sto->Prop}(hx:xs[i]?=Z x)(q:Q (x,S)):W (de (.tup xs) (.int i) S) Q:=by
 refine W.of (x:=(x,S)) ?_ q;have a:=(gE1.mp hx).1;simp only[de,mK,xi,dj,pE,sX,oS1,ak (show(0:Int)<=i by lia)];rw[ak (by lia)];simp[hx]
theorem qC{n:Nat}{i:Nat}{xs:List D}{v:D}{S:Sto}{Q:D×Sto->Prop}(h:S[n]?=Z (.lst xs))(hx:i<xs.length)(q:Q (.non,S.set n (.lst (xs.set i v)))):W (fR (.ref n) (.int i) v S) Q:=by
 refine W.of (x:=(.non,S.set n (.lst (xs.set i v)))) ?_ q;simp only[fR,jH,jI,h,sX,ak (show(0:Int)<=i by lia)];rw[ak (by lia)];simp
theorem KJ:aM 0 (Y:Option D)=[]:=rfl
theorem KI:aM 1 (Y:Option D)=[Y]:=rfl
theorem KH:aM 2 (Y:Option D)=[Y,Y]:=rfl
theorem KG:aM 3 (Y:Option D)=[Y,Y,Y]:=rfl
theorem LK:aM 4 (Y:Option D)=[Y,Y,Y,Y]:=rfl
theorem KF:aM 5 (Y:Option D)=[Y,Y,Y,Y,Y]:=rfl
theorem KE:aM 6 (Y:Option D)=[Y,Y,Y,Y,Y,Y]:=rfl
theorem KD:aM 7 (Y:Option D)=[Y,Y,Y,Y,Y,Y,Y]:=rfl
theorem LJ:aM 8 (Y:Option D)=[Y,Y,Y,Y,Y,Y,Y,Y]:=rfl
theorem LI:aM 9 (Y:Option D)=[Y,Y,Y,Y,Y,Y,Y,Y,Y]:=rfl
theorem Lu:aM 10 (Y:Option D)=[Y,Y,Y,Y,Y,Y,Y,Y,Y,Y]:=rfl
theorem Ls:aM 11 (Y:Option D)=[Y,Y,Y,Y,Y,Y,Y,Y,Y,Y,Y]:=rfl
theorem Lr:aM 12 (Y:Option D)=[Y,Y,Y,Y,Y,Y,Y,Y,Y,Y,Y,Y]:=rfl
theorem Lq:aM 13 (Y:Option D)=[Y,Y,Y,Y,Y,Y,Y,Y,Y,Y,Y,Y,Y]:=rfl
theorem Lp:aM 14 (Y:Option D)=[Y,Y,Y,Y,Y,Y,Y,Y,Y,Y,Y,Y,Y,Y]:=rfl
theorem HF:aM 15 (Y:Option D)=[Y,Y,Y,Y,Y,Y,Y,Y,Y,Y,Y,Y,Y,Y,Y]:=rfl
theorem Lo:aM 16 (Y:Option D)=[Y,Y,Y,Y,Y,Y,Y,Y,Y,Y,Y,Y,Y,Y,Y,Y]:=rfl
theorem Ln:aM 17 (Y:Option D)=[Y,Y,Y,Y,Y,Y,Y,Y,Y,Y,Y,Y,Y,Y,Y,Y,Y]:=rfl
theorem Ll:aM 18 (Y:Option D)=[Y,Y,Y,Y,Y,Y,Y,Y,Y,Y,Y,Y,Y,Y,Y,Y,Y,Y]:=rfl
theorem Lk:aM 19 (Y:Option D)=[Y,Y,Y,Y,Y,Y,Y,Y,Y,Y,Y,Y,Y,Y,Y,Y,Y,Y,Y]:=rfl
theorem Lj:aM 20 (Y:Option D)=[Y,Y,Y,Y,Y,Y,Y,Y,Y,Y,Y,Y,Y,Y,Y,Y,Y,Y,Y,Y]:=rfl
theorem il{α:Type}{T G:List α}{k:Nat}:(T++G)[T.length+k]?=G[k]?:=by rw[gR1 (by lia)];congr 1;lia
theorem db{α:Type}{T G:List α}:(T++G)[T.length]?=G[0]?:=by rw[gR1 (by lia)];congr 1;lia
theorem vg:∀(n:Nat) (lo:Int),iL lo n=(af n).map λi:Nat=>D.int (lo+i)
 |0,lo=>rfl
 |n+1,lo=>by
  rw[iL,vg n (lo+1),List.range_succ_eq_map,mP1,bu]
  congr 1
  ·simp
  ·apply cj;intro i _;simp only[Function.comp_apply,ck]
   congr 1
   push_cast
   lia
theorem k9(n:Nat):iL 0 n=(af n).map λi:Nat=>D.int i:=by
 rw[vg];apply cj;intro i _;simp
theorem nN{α:Type}{c:List (Nat×List D)}{g:FG}{t:FT}{e:FE}{S:Sto}{f:α->D}{Q:List D×Ev×Sto->Prop}(F:α->D)(P:Ev->Prop)(d:qS S c=true):∀ (xs:List α) (r:Ev),P r ->
  (∀a∈xs,∀r,P r->W (g (f a) r S) λp=>W (t p.1 p.2) λb=>b.1=M/\W (e p.1 b.2) λx=>x.1=F a/\x.2=S/\P p.1) ->
  (∀i,P i->Q (xs.map F,i,S))->W (fz c g t (dV e) (xs.map f) r S) Q
 |[],r,hr,_,h=>by rw[ba,fz];dsimp only;rw[ak d,dm];exact h r hr
 |a::xs,r,hr,hs,h=>by
  rw[mP1,fz];dsimp only;rw[ak d,dh];obtain⟨p,l,⟨b,q,n,⟨x,k,s,u,m⟩⟩⟩:=hs a mS1 r hr;refine⟨p,l,?_⟩;dsimp only;rw[dh];refine⟨b,q,?_⟩;dsimp only;rw[ak n,dh,dV,jo];refine⟨x,k,?_⟩;dsimp only;rw[u,jo];refine nN F P d xs p.1 m (λa o=>hs a (mC1 _ o)) λi j=>?_;have:=h i j;rw[mP1,<- s]at this;exact this
theorem i5{α:Type}{c:List (Nat×List D)}{g:FG}{t:FT}{e:FE}{S:Sto}{f:α->D}{Q:List D×Ev×Sto->Prop}(k:α->Bool)(F:α->D)(P:Ev->Prop)(d:qS S c=true):∀ (xs:List α) (r:Ev),P r ->
  (∀a∈xs,∀r,P r->W (g (f a) r S) λp=>W (t p.1 p.2) λb=>b.1=k a/\b.2=S/\P p.1/\(k a=M->W (e p.1 S) λx=>x.1=F a/\x.2=S)) ->
  (∀j,P j->Q ((xs.filter k).map F,j,S))->W (fz c g t (dV e) (xs.map f) r S) Q
 |[],r,hr,_,h=>by rw[ba,fz];dsimp only;rw[ak d,dm];exact h r hr
 |a::xs,r,hr,hs,h=>by
  rw[mP1,fz];dsimp only;rw[ak d,dh];obtain⟨p,v,⟨b,w,q,s,o,n⟩⟩:=hs a mS1 r hr;refine⟨p,v,?_⟩;dsimp only;rw[dh];refine⟨b,w,?_⟩;dsimp only;cases hk:k a with
  |true=>
   rw[q,hk,ak O,dh,dV,jo,s];obtain⟨x,u,n,l⟩:=n hk;refine⟨x,u,?_⟩;dsimp only;rw[l,jo];refine i5 k F P d xs p.1 o (λa m=>hs a (mC1 _ m)) λj i=>?_;have:=h j i;rw[bg,hk,ak O,mP1,<- n]at this;exact this
  |false=>
   rw[q,hk,aj (by decide),s];refine i5 k F P d xs p.1 o (λa m=>hs a (mC1 _ m)) λj i=>?_;have:=h j i;rw[bg,hk,aj (by decide)]at this;exact this
theorem iT{α:Type}{f:α->Bool}:∀xs:List α,Mi.uB (xs.map λx=>D.bl (f x))=Z (xs.all f)
 |[]=>rfl
 |x::xs=>by rw[mP1,Mi.uB,iT xs];rfl
mutual
theorem xD{n m:Nat}(h:n<=m):∀{d:D},d.und n=M->d.und m=M
 | .non,_=>rfl
 | .bl _,_=>rfl
 | .int _,_=>rfl
 | .str _,_=>rfl
 | .tup xs,q=>by rw[D.und]at q ⊢;exact gE h q
 | .rol xs,q=>by rw[D.und]at q ⊢;exact gE h q
 | .fn _,_=>rfl
 | .ref k,q=>by simp[D.und]at q ⊢;lia
theorem gE{n m:Nat}(h:n<=m):∀{ds:List D},D.unds n ds=M->D.unds m ds=M
 |[],_=>rfl
 |d::ds,q=>by
  rw[D.unds,bA1]at q ⊢;exact⟨xD h q.1,gE h q.2⟩
end
theorem nH{n m:Nat}(h:n<=m):∀{o:Ob},o.und n=M->o.und m=M
 | .lst xs,q=>by rw[Ob.und]at q ⊢;exact gE h q
 | .dct xs,q=>by rw[Ob.und]at q ⊢;exact gE h q
 | .dcT xs,q=>by rw[Ob.und]at q ⊢;exact gE h q
 | .dcF xs,q=>by rw[Ob.und]at q ⊢;exact gE h q
 | .iset _,_=>rfl
 | .tst _,_=>rfl
theorem unds_map{α:Type}{n:Nat}{f:α->D}:∀{xs:List α},(∀x∈xs,(f x).und n=M)->D.unds n (xs.map f)=M
 |[],_=>rfl
 |x::xs,h=>by rw[mP1,D.unds,h x mS1,unds_map λy a=>h y (mC1 _ a)];rfl
theorem K4{x:Nat}:x+1+1=x+2:=rfl
theorem LR{x:Nat}:x+2+1=x+3:=rfl
theorem LQ{x:Nat}:x+3+1=x+4:=rfl
theorem LP{x:Nat}:x+4+1=x+5:=rfl
theorem LO{x:Nat}:x+5+1=x+6:=rfl
theorem LN{x:Nat}:x+6+1=x+7:=rfl
theorem K3{x:Nat}:x+1+2=x+3:=rfl
theorem vt{xs:List D}{S:Sto}:dX (.tup xs) S=Z (.int xs.length,S):=rfl
theorem vw{xs:List D}{S:Sto}:dX (.rol xs) S=Z (.int xs.length,S):=rfl
theorem Iy{S:Sto}:dX (.str "") S=Z (.int 0,S):=rfl
theorem mT{xs:List D}{S:Sto}:dj S (.tup xs)=Z (J,xs):=rfl
theorem Jk{xs:List D}{S:Sto}:dj S (.rol xs)=Z (M,xs):=rfl
theorem C4{xs:List D}{S:Sto}:lm S (.tup xs)=[]:=rfl
theorem Js{xs:List D}{S:Sto}:lm S (.rol xs)=[]:=rfl
theorem fT{n:Nat}{xs:List D}{S:Sto}(h:S[n]?=Z (.lst xs)):dj S (.ref n)=Z (M,xs):=by simp only[dj,h]
theorem C5{n:Nat}{xs:List D}{S:Sto}(h:S[n]?=Z (.lst xs)):lm S (.ref n)=[(n,xs)]:=by simp only[lm,h]
def sW(S:Sto)(d:D)(Q:List D×List (Nat×List D)->Prop):Prop:=W (dj S d) λq=>Q (q.2,lm S d)
theorem ft{xs:List D}{S:Sto}{Q:List D×List (Nat×List D)->Prop}:sW S (.tup xs) Q↔Q (xs,[]):=dm
theorem eI{n:Nat}{xs:List D}{S:Sto}{Q:List D×List (Nat×List D)->Prop}(h:S[n]?=Z (.lst xs))(q:Q (xs,[(n,xs)])):sW S (.ref n) Q:=by
 unfold sW;rw[fT h,C5 h,dm];exact q
theorem AG{m:FE}{r:Ev}{S:Sto}{Q:AO×Sto->Prop}:W (gb m r S) Q↔W (m r S) λp=>sW p.2 p.1 λq=>Q (⟨q.1,q.2⟩,p.2):=by
 unfold gb;rw[dh];refine⟨λh=>h.mono λp q=>?_,λh=>h.mono λp q=>?_⟩
 ·rw[dh]at q;exact q.mono λz w=>dm.mp w
 ·rw[dh];exact W.mono (show W (dj p.2 p.1) _ from q) λz w=>dm.mpr w
theorem AH{d:D}{S:Sto}{Q:D×Sto->Prop}:W (Mi.gTup d S) Q↔sW S d λq=>Q (.tup q.1,S):=by
 unfold Mi.gTup;rw[jo];exact Iff.rfl
theorem D0{n:Nat}{S:Sto}{Q:D×Sto->Prop}:W (dX (.ref n) S) Q↔sW S (.ref n) λq=>Q (.int q.1.length,S):=by
 unfold dX sW;rw[jo]
def pD(e:Nat×Nat):D:=.tup [.int e.1,.int e.2]
theorem W_ins{S:Sto}{n k:Nat}{xs:List D}{v:D}{Q:D×Sto->Prop}(h:S[n]?=Z (.lst xs))(hk:k<=xs.length)(a:xs.length<1000)(q:Q (.non,S.set n (.lst (xs.take k++v::xs.drop k)))):W (uo (.ref n) (.int k) v S) Q:=by
 refine W.of ?_ q;have hi:nU xs.length k=k:=by
  unfold nU;rw[aj (by lia),Int.toNat_natCast];lia
 have b:xs.length<cQ:=nL1 a (by decide);simp only[uo,h,hi];rw[ak ⟨by lia,by lia,b⟩]
theorem ow{f:FN}{o:FE}{a:FA}{r:Ev}{S:Sto}{Q:D×Sto->Prop}(h:W (o r S) λp=>∃n xs,p.1 = .ref n/\p.2[n]?=Z (.lst xs)/\W (a r p.2) λq=>W (f (.ref n::q.1) q.2) Q):W (vq f o a r S) Q:=by
 unfold vq;rw[dh];refine h.mono ?_;rintro⟨d,b⟩ ⟨n,xs,rfl,e,q⟩;dsimp only at e q ⊢;rw[e];dsimp only;rw[dh];exact q
def mf(row:List (Nat×Nat)):Ob:=.lst (row.map pD)
theorem wo{n:Nat}{row:List (Nat×Nat)}:(mf row).und n=M:=by
 unfold mf;rw[Ob.und];exact unds_map λ_ _=>rfl
theorem mU:∀{k n i:Nat},i<k->(jX n k)[i]?=Z (.ref (n+i))
 |k+1,n,0,_=>rfl
 |k+1,n,i+1,h=>by rw[jX,gC1,mU (Nat.lt_of_succ_lt_succ h),show n+1+i=n+(i+1) by lia]
theorem iJ:∀k n:Nat,(jX n k).length=k
 |0,_=>rfl
 |k+1,n=>by rw[jX,lC1,iJ]
def tot(E:List (List (Nat×Nat))):Nat:=(E.map List.length).sum
def nmD(rs:List Nat):List D:=rs.map λi:Nat=>D.int i
theorem eQ(rs:List Nat):(nmD rs).length=rs.length:=by simp[nmD]
theorem fI(rs:List Nat):D.unds 0 (nmD rs)=M:=unds_map λ_ _=>rfl
theorem inL_nm{S:Sto}{n:Nat}{x:Nat}:∀a:List Nat,sm (hB S (n+1)) (.int x) (nmD a)=Z (a.contains x)
 |[]=>rfl
 |c::a=>by
  have d:hB S (n+1) (.int c) (.int x)=Z ((c:Int) == (x:Int)):=rfl;have b:((c:Int) == (x:Int))=(x == c):=by
   rw[bL,beq_iff_eq,beq_iff_eq];lia
  have ih:=inL_nm (S:=S) (n:=n) (x:=x) a;rw[nmD,mP1,sm,d,b];rw[nmD]at ih;rw[ih,List.contains_cons];rfl
theorem zq{κ:Type}[DecidableEq κ]{k:κ}:dy ([]:List (κ×D)) k=Y:=rfl
theorem fZ{κ:Type}[DecidableEq κ]{k a:κ}{d:D}{r:List (κ×D)}:dy ((a,d)::r) k=if a=k then Z d else dy r k:=by
 unfold dy;rw[bb];by_cases h:a=k
 ·simp[h]
 ·simp[h]
theorem sb{κ:Type}[DecidableEq κ]{k:κ}{b:List (κ×D)}:∀{a:List (κ×D)},dy (a++b) k=(dy a k).or (dy b k)
 |[]=>rfl
 |(x,d)::a=>by
  rw[bm,fZ,fZ,sb (a:=a)];split<;>rfl
theorem o8{κ:Type}[DecidableEq κ]{k:κ}:∀{a:List (κ×D)},(a.any λp=>decide (p.1=k))=J->dy a k=Y
 |[],_=>rfl
 |(x,d)::a,h=>by
  simp only[bc,Bool.or_eq_false_iff,decide_eq_false_iff_not]at h;rw[fZ,aj h.1];exact o8 h.2
theorem lG{κ:Type}[DecidableEq κ]{k k':κ}{v:D}:∀{a:List (κ×D)},(a.any λp=>decide (p.1=k))=M->dy (a.map λp=>if p.1=k then(p.1,v)else p) k'=if k'=k then Z v else dy a k'
 |[],h=>by simp at h
 |(x,d)::a,h=>by
  rw[mP1];by_cases f:x=k
  ·subst f;rw[ak (show(x,d).1=x from rfl)];rw[fZ,fZ];by_cases b:k'=x
   ·subst b;simp
   ·rw[aj (Ne.symm b),aj (Ne.symm b),aj b];by_cases g:(a.any λp=>decide (p.1=x))=M
    ·rw[lG g,aj b]
    ·have:(a.map fun p=>if p.1=x then (p.1,v) else p)=a:=by
      have e:(a.any λp=>decide (p.1=x))=J:=cq.mpr g;rw[List.any_eq_false]at e
      conv=>rhs;rw[<- List.map_id a]
      apply cj;intro p i;have:=e p i;simp at this;simp[this]
     rw[this]
  ·simp only[bc,ai f,Bool.false_or]at h;rw[aj (show¬ (x,d).1=k from f)];rw[fZ,fZ,lG h];by_cases c:x=k'
   ·subst c;simp[f]
   ·simp[c]
theorem r6{κ:Type}[DecidableEq κ]{k k':κ}{v:D}{a:List (κ×D)}:dy (gQ a k v) k'=if k'=k then Z v else dy a k':=by
 unfold gQ;split
 ·rename_i h;exact lG h
 ·rename_i h;have h':(a.any λp=>decide (p.1=k))=J:=cq.mpr h;rw[sb,fZ,zq];by_cases b:k'=k
  ·subst b;rw[o8 h',ak O];rfl
  ·rw[aj (Ne.symm b),aj b];cases dy a k'<;>rfl
theorem Bv{κ:Type}[DecidableEq κ]{k:κ}{v:D}{a:List (κ×D)}:(gQ a k v).length<=a.length+1:=by
 unfold gQ;split
 ·rw[lM1];lia
 ·rw[lA1];simp
theorem EY{κ:Type}[DecidableEq κ]{k:κ}{v:D}{a:List (κ×D)}:gQ a k v≠[]:=by
 unfold gQ;split
 ·rename_i h;intro z;cases a with
  |nil=>simp at h
  |cons x xs=>simp at z
 ·simp
def dO(F:List (TK×D)):Ob:=if F=[]then .dct []else .dcT F
theorem G4{U:Sto}{n:Nat}{F:List (TK×D)}{a v:D}{k:TK}{Q:D×Sto->Prop}(h:U[n]?=Z (dO F))(hk:lK a=Z k)(c:F.length<1000)(q:Q (.non,U.set n (dO (gQ F k v)))):W (fR (.ref n) a v U) Q:=by
 refine W.of ?_ q;unfold dO at h ⊢;rw[aj EY];by_cases b:F=[]
 ·subst b;rw[ak O]at h;simp only[fR,h,hk];rfl
 ·rw[aj b]at h;simp only[fR,h,hk,oS1];rw[ak (nL1 c (by decide))]
theorem G5{U:Sto}{n:Nat}{F:List (TK×D)}{a v:D}{k:TK}{Q:D×Sto->Prop}(h:U[n]?=Z (dO F))(hk:lK a=Z k)(hv:dy F k=Z v)(q:Q (v,U)):W (de (.ref n) a U) Q:=by
 refine W.of ?_ q;unfold dO at h;by_cases b:F=[]
 ·subst b;cases hv
 ·rw[aj b]at h;simp only[de,h,hk,oS1,hv,oP1]
def xR(e:Nat×Nat):TK:=.tup [.int e.1,.int e.2]
theorem vA{e:Nat×Nat}:lK (pD e)=Z (xR e):=rfl
theorem zH{d:D}{S G:Sto}(hd:d.und 0=M)(a:S.all (Ob.und S.length)=M):gc S.length (d,S++G)=(d,S):=by
 unfold gc;dsimp only;rw[List.take_left,ak (by rw[ju hd,a];rfl)]
theorem I3{m:FA}{r:Ev}{S:Sto}{xs:List D}{Q:AO×Sto->Prop}(hm:m r S=Z ([.tup xs],S))(q:Q (⟨z7 0 xs,[]⟩,S)):W (vE m r S) Q:=by
 refine W.of (x:=(⟨z7 0 xs,[]⟩,S)) ?_ q;simp only[vE,hm,oS1,mT,C4]
mutual
theorem EA{n:Nat}:∀{d:D},d.und 0=M->d.sh n=d
 | .non,_=>rfl
 | .bl _,_=>rfl
 | .int _,_=>rfl
 | .str _,_=>rfl
 | .tup xs,h=>by rw[D.und]at h;rw[D.sh,mS h]
 | .rol xs,h=>by rw[D.und]at h;rw[D.sh,mS h]
 | .fn _,_=>rfl
 | .ref k,h=>by simp[D.und]at h
theorem mS{n:Nat}:∀{ds:List D},D.unds 0 ds=M->D.shs n ds=ds
 |[],_=>rfl
 |d::ds,h=>by
  rw[D.unds,bA1]at h;rw[D.shs,EA h.1,mS h.2]
end
theorem callL{n:Nat}{f:FN}{ds:List D}{S:Sto}{Q:D×Sto->Prop}(hn:ds.length=n)(a:D.unds 0 ds=M)(h:W (f ds []) λp=>∃xs,p=(.ref 0,[.lst xs])/\D.unds 0 xs=M/\Q (.ref S.length,S++[.lst xs])):W (c9 n f ds S) Q:=by
 obtain⟨p,e,xs,rfl,d,q⟩:=h;refine⟨_,sH e hn a O,?_⟩;have b:(D.ref 0).sh S.length = .ref S.length:=rfl;have c:[Ob.lst xs].map (Ob.sh S.length)=[Ob.lst xs]:=by rw[mP1,ba,Ob.sh,mS d]
 rw[b,c];exact q
theorem nL{ns:List Int}{k:Int}:k∈ddI ns↔k∈ns:=by
 have b:∀(ns a:List Int),k∈ns.foldl step_dedup a↔k∈a\/k∈ns:=by
  intro ns
  induction ns with
  |nil=>intro a;simp
  |cons n ns ih=>
   intro a;rw[aX,ih];have:k∈step_dedup a n↔k∈a\/k=n:=by
    unfold step_dedup;split
    ·rename_i h;obtain⟨x,c,e⟩:=bM.mp h;have e:=beq_iff_eq.mp e;subst e;constructor
     ·exact .inl
     ·rintro(z|z)
      ·exact z
      ·rw[z];exact c
    ·simp
   rw[this,aD,or_assoc]
 unfold ddI;rw[b];simp
theorem Bg{xs:List Nat}{m:Nat}{f:Nat->Bool}(h:∀r,r∈xs↔r<m/\f r=M):fF (ddI (xs.map λ(r:Nat)=>(r:Int)))=((af m).filter f).map λ(r:Nat)=>(r:Int):=by
 refine kZ ?_ (iE _) ?_
 ·refine(en _).trans ?_;refine(List.perm_ext_iff_of_nodup (lk _ [] br) ?_).mpr λk=>?_
  ·refine cr.mpr ((List.nodup_range.filter f).imp λb z=>b (by lia))
  ·show k∈ddI _↔_;rw[nL,bZ,bZ];constructor
   ·rintro⟨r,a,rfl⟩;exact⟨r,az.mpr ⟨aA.mpr ((h r).mp a).1,((h r).mp a).2⟩,O⟩
   ·rintro⟨r,a,rfl⟩;obtain⟨h1,h2⟩:=az.mp a;exact⟨r,(h r).mpr ⟨aA.mp h1,h2⟩,O⟩
 ·refine cr.mpr ((List.pairwise_lt_range.sublist List.filter_sublist).imp λc=>by lia)
theorem vC(xs:List Nat):kF (nmD xs)=Z (xs.map λ(r:Nat)=>(r:Int)):=by
 induction xs with
 |nil=>rfl
 |cons x xs ih=>
  show(kF (nmD xs)).map _=_;rw[ih];rfl
theorem xa{S:Sto}{n:Nat}{xs:List Nat}{m:Nat}{f:Nat->Bool}{Q:D×Sto->Prop}(hn:S[n]?=Z (.lst (nmD xs)))(h:∀r,r∈xs↔r<m/\f r=M)(a:xs.length<64)(q:Q (.ref S.length,S++[.lst (nmD ((af m).filter f))])):W (jG (.ref n) S) Q:=by
 refine W.of (x:=(.ref S.length,S++[.lst (nmD ((af m).filter f))])) ?_ q;simp only[jG,fT hn,vC,oS1];rw[ak (by rw[lM1];exact a),Bg h,bu];rfl
end Mi
end
local macro_rules | `(tactic| walk_at"w") => `(tactic| simp only[Mi.dm, Mi.jO, Mi.ite_and', Mi.dh, Mi.jo, Mi.ox, Mi.di, Mi.dI, Mi.eh, Mi.dB, Mi.ij, Mi.hI, Mi.mN, Mi.cX, Mi.cY, Mi.m2, Mi.m1, Mi.mV, Mi.mC, Mi.uF, Mi.uG, Mi.mB, Mi.iN, Mi.eu, Mi.eX, Mi.oY, Mi.Iw, Mi.eH, Mi.mTr, Mi.xM, Mi.gN, Mi.gT, Mi.gm, Mi.lN, Mi.gS, Mi.b1, Mi.b2, Mi.b3, Mi.gC, Mi.iX, Mi.v6, Mi.D2, Mi.D1, Mi.HJ, Mi.HI, Mi.ga, Mi.uk, Mi.AL, Mi.AM, Mi.gSub, Mi.fA, Mi.mL, Mi.vJ, Mi.vG, Mi.vI, Mi.K1, Mi.K0, Mi.KZ, Mi.KY, Mi.KX, Mi.KW, Mi.KU, Mi.KS, true_and, Mi.il, Mi.db, aW, lA1, cs, gC1, List.getElem?_nil, cu, cv, lC1, bf, mP1, ba, Mi.KJ, Mi.KI, Mi.KH, Mi.KG, Mi.KF, Mi.KE, Mi.KD, Mi.HF, a0, bm, aK, Nat.reduceAdd, Nat.reduceSub, Option.join_some, Option.join_none, oP1, Option.map_none, oS1, Option.bind_none, if_true, if_false, bF1, bV, Bool.not_false, ite_true, ite_false, reduceIte, decide_true, decide_false, Mi.K4, Mi.K3, Mi.vt, Mi.vw, Mi.mT, Mi.AG, Mi.AH, Mi.D0])
local macro_rules | `(tactic| walk_at "own wl") => `(tactic| simp -implicitDefEqProofs only[Mi.dm, Mi.jO, Mi.ite_and', Mi.dh, Mi.jo, Mi.ox, Mi.di, Mi.dI, Mi.eh, Mi.dB, Mi.ij, Mi.hI, Mi.mN, Mi.cX, Mi.cY, Mi.m2, Mi.m1, Mi.mV, Mi.mC, Mi.uF, Mi.uG, Mi.mB, Mi.iN, Mi.eu, Mi.eX, Mi.oY, Mi.Iw, Mi.eH, Mi.mTr, Mi.xM, Mi.gN, Mi.gT, Mi.gm, Mi.lN, Mi.gS, Mi.b1, Mi.b2, Mi.b3, Mi.gC, Mi.iX, Mi.v6, Mi.D2, Mi.D1, Mi.HJ, Mi.HI, Mi.ga, Mi.uk, Mi.AL, Mi.AM, Mi.gSub, Mi.fA, Mi.mL, Mi.vJ, Mi.vG, Mi.vI, Mi.K1, Mi.K0, Mi.KZ, Mi.KY, Mi.KX, Mi.KW, Mi.KU, Mi.KS, true_and, Mi.il, Mi.db, aW, lA1, cs, gC1, List.getElem?_nil, cu, cv, lC1, bf, mP1, ba, Mi.KJ, Mi.KI, Mi.KH, Mi.KG, Mi.KF, Mi.KE, Mi.KD, Mi.HF, a0, bm, aK, Nat.reduceAdd, Nat.reduceSub, Option.join_some, Option.join_none, oP1, Option.map_none, oS1, Option.bind_none, if_true, if_false, bF1, bV, Bool.not_false, ite_true, ite_false, reduceIte, decide_true, decide_false, Mi.K4, Mi.K3, Mi.vt, Mi.vw, Mi.mT, Mi.AG, Mi.AH, Mi.D0])
noncomputable section
namespace Law
open PySem PySem.Spec PyProof.Rows L2 Mi
def iD (i:Nat):cV:=PySem.Challenge.pw_ringmeet_k54_errands_of_anything.main.body.getD i (.Pass ⟨0,0,0,0⟩)
abbrev BL:List Str:=["all","any","bool","enumerate","int","isinstance","len","list","max","min","range","set","sorted","str","tuple"]
def m6:D:=(D.tup [(D.tup [(D.str "came"),(D.int 5)]),(D.tup [(D.str "chalk"),(D.int 2)]),(D.tup [(D.str "doors"),(D.int 5)]),(D.tup [(D.str "others"),(D.int 2)])])
def m7:D:=(D.tup [(D.str "leave"),(D.str "mark"),(D.str "wipe")])
def m5:D:=(D.int 4)
def fh:D:=(D.int 8)
def fB:D:=(D.int 4)
def gF:D:=(D.int 6)
def hD:D:=(D.int 3)
def hE:D:=(D.int 8)
def hH:D:=(D.int 40)
section
variable{P:cK}{w:cN}{K:Fg1}{mg:Str->Option cH}{base h:cT}(X:K.In h) (G:h.Ns cO mg) (B:Blt BL mg)
include X G B
abbrev nl:cV:=iD 1
def oh:FS:=(dB (eX (d8 .int (mV 0)) (oY (d8 .bool (mV 0)))))
def fe:FN:=gC 1 oh
theorem rD {f:cJ}(F:dG K "is_whole" nl f):
  Own P w K mg base 1 "is_whole" 1 fe:=xq ["thing"] X G F λa=>
 (qG (qU (d9 (ii xv) (eP (uO (ii xv))))))
abbrev j4:cV:=iD 3
def iz:FS:=(dB (eX (d8 .tuple (mV 0)) (m2 (b2 gEq) (mN (b1 dX) (cX (mV 0) cY)) (mV 1))))
def dJ:FN:=gC 2 iz
theorem nz {f:cJ}(F:dG K "is_tuple_of" j4 f):
  Own P w K mg base 1 "is_tuple_of" 2 dJ:=xq ["thing","many"] X G F λa=>
 (qG (qU (d9 (ii xv) (eP (ce (oq h9) (cn eb (a1 xv)) xv)))))
abbrev l0:cV:=iD 4
def mr:FS:=(dB (mN (b1 gn) (cX (d6 1 [0] (mZ (cX (m2 (b2 gSub) (mN (b1 dX) (cX (mV 0) cY)) (mC (D.int 1))) cY)) (gN 0) eH (dV (m2 (b2 oA) (m2 (b2 de) (mV 1) (mV 0)) (m2 (b2 de) (mV 1) (m2 (b2 dS) (mV 0) (mC (D.int 1))))))) cY)))
def ei:FN:=gC 1 mr
theorem pZ {f:cJ}(F:dG K "is_rising" l0 f):
  Own P w K mg base 1 "is_rising" 1 ei:=xq ["things"] X G F λa=>
 (qG (qU (cn (jk O) (a1 (fk ["at"] (ir (a1 (qI ke (cn eb (a1 xv)) qK))) ⟨gq,dY,(ce (oq jg) (jq xv xv) (jq xv (qI dN xv qK)))⟩)))))
abbrev rm:cV:=iD 10
def sK:FS:=(dB (eX (d8 .str (mV 0)) (m2 (b2 lP) (mV 0) (d6 2 [] (gb (mC m6)) (gT 2 (gm (gN 0) (gm (gN 1) lN))) eH (dV (mV 0))))))
def jD:FN:=gC 1 sK
theorem ww {f:cJ}(F:dG K "is_eye" rm f)(a:CGl K mg "PARTS" m6):
  Own P w K mg base 1 "is_eye" 1 jD:=xq ["thing"] X G F λb=>
 (qG (qU (d9 (ii xv) (eP (ce (oq vf) xv (fk ["eye","many"] (qd (gg a O)) ⟨(tg2 gq gq),dY,xv⟩) (by with_unfolding_all rfl))))))
abbrev oQ:cV:=iD 11
def pC:FS:=(dB (eX (d8 .str (mV 0)) (m2 (b2 lP) (mV 0) (mC m7))))
def iM:FN:=gC 1 pC
theorem tX {f:cJ}(F:dG K "is_hand" oQ f)(a:CGl K mg "HANDS" m7):
  Own P w K mg base 1 "is_hand" 1 iM:=xq ["thing"] X G F λb=>
 (qG (qU (d9 (ii xv) (eP (ce (oq vf) xv (gg a O) (by with_unfolding_all rfl))))))
abbrev yc:cV:=iD 13
def rB:FS:=(eh (mB (m2 (b2 gl) (mV 7) (mV 2))) (di (dI (m2 (b2 dS) (m2 (b2 de) (mV 2) (mV 5)) (dz (cX (mV 6) cY))) (gS (b3 fR) (mV 2) (mV 7)))
  (ij (vq (b2 mM) (mV 3) (cX (mV 7) cY)))) hI)
def rz:FT:=(mB (m2 (b2 oA) (mV 4) (mN (b1 dX) (cX (mV 3) cY))))
def rv:FS:=(di (dI (m2 (b2 de) (mV 3) (mV 4)) (gN 5))
  (di (ga (vE (cX (m2 (b2 de) (mV 0) (mV 5)) cY)) (gT 2 (gm (gN 6) (gm (gT 2 (gm (gN 7) (gm (gN 8) lN))) lN))) rB)
  (Cn 4 (b2 zO) (mC (D.int 1)))))
def Az:FS:=(di (dI (mj [((mV 1),(dz cY))]) (gN 2))
  (di (dI (et (cX (mV 1) cY)) (gN 3))
  (di (dI (mC (D.int 0)) (gN 4))
  (di (wd rz rv 100000)
  (dB (mN (b1 gTup) (cX (d6 1 [2] (mZ (cX (mN (b1 dX) (cX (mV 0) cY)) cY)) (gN 0) eH (dV (zm (mV 1) (mV 0)))) cY)))))))
def nO:FN:=gC 9 Az
theorem BV {f:cJ}(F:dG K "ways" yc f):
  Own P w K mg base 1 "ways" 2 nO:=xq ["web","room","found","queue","at","here","door","there","back"] X G F λa=>
 (qF (sq (q7 (q0 xv (df qN) uN))) (qF (sq (dw (a1 xv))) (qF (sq qK) (qF (oM 100000 PassesOwn.never (ct (oq jg) xv (cn eb (a1 xv))) (qF (sq (jq xv xv)) (qF (fo (ie (a1 (jq xv xv))) (tg2 gq (tg2 gq gq)) (qG (qV (ct (oq k7) xv xv (by with_unfolding_all rfl)) (qF (qR (qI dN (jq xv xv) (df (a1 xv))) (g7 xv xv (iY a.units))) (qG (lq ap xv (a1 xv)))) qQ))) (qG (AX 4 (jC O) O (by first|exact Or.inl rfl|exact Or.inr rfl) qK CD))))) (qG (qU (cz gr (a1 (fk ["other"] (ir (a1 (cn eb (a1 xv)))) ⟨gq,dY,(wb a.units xv xv)⟩)))))))))
abbrev l5:cV:=iD 24
def ms:FS:=(di (dI (m2 (b2 de) (m2 (b2 de) (mV 0) (mV 1)) (mV 2)) (gT 2 (gm (gN 3) (gm (gN 4) lN))))
  (di (eh (iN (mB (m2 (b2 gEq) (dz (cX (mV 3) (cX (mV 4) cY))) (dz (cX (mV 1) (cX (mV 2) cY))))) (eu (mB (ml (b2 (fA λi j=>decide (i<=j))) (b2 oA) (mC (D.int 0)) (mV 3) (mN (b1 dX) (cX (mV 0) cY)))))) (dB (mC (D.bl J))) hI)
  (dB (eX (ml (b2 (fA λi j=>decide (i<=j))) (b2 oA) (mC (D.int 0)) (mV 4) (mN (b1 dX) (cX (m2 (b2 de) (mV 0) (mV 3)) cY))) (m2 (b2 gEq) (m2 (b2 de) (m2 (b2 de) (mV 0) (mV 3)) (mV 4)) (dz (cX (mV 1) (cX (mV 2) cY))))))))
def gK:FN:=gC 5 ms
theorem p0 {f:cJ}(F:dG K "is_paired" l5 f):
  Own P w K mg base 1 "is_paired" 3 gK:=xq ["rooms","room","door","there","back"] X G F λa=>
 (qF (qR (jq (jq xv xv) xv) (tg2 gq gq)) (qF (qV (fC (d7 (ct (oq h9) (df (a2 xv xv)) (df (a2 xv xv))) (ek (dn (iB k8 (oq jg) qK xv (cn eb (a1 xv))))))) (qG (qU d4)) qQ) (qG (qU (d9 (lw k8 (oq jg) qK xv (cn eb (a1 (jq xv xv)))) (eP (ce (oq h9) (jq (jq xv xv) xv) (df (a2 xv xv)))))))))
abbrev jz:cV:=iD 38
def jM:FS:=(di (eh (mB (m2 (b2 oA) (mV 1) (mN (b1 dX) (cX (mV 0) cY)))) (dB (m2 (b2 de) (mV 0) (mV 1))) hI)
  (dB (mC (D.int 0))))
def e3:FN:=gC 2 jM
theorem mG {f:cJ}(F:dG K "_law_cell_at" jz f):
  Own P w K mg base 1 "_law_cell_at" 2 e3:=xq ["_law_script","_law_k"] X G F λa=>
 (qF (qV (ct (oq jg) xv (cn eb (a1 xv))) (qG (qU (jq xv xv))) qQ) (qG (qU qK)))
abbrev md:cV:=iD 40
def jL:FS:=(di (eh (mB (m2 (b2 (fA fun i j=>decide (j<i))) (m2 (b2 de) (mV 0) (mC (D.int 0))) (mC (D.int 0)))) (di (dI (m2 (b2 jZ) (m2 (b2 de) (mV 0) (mC (D.int 0))) (mV 1)) (gN 2))
  (di (dI (m2 (b2 wP) (m2 (b2 de) (mV 0) (mC (D.int 0))) (mV 1)) (gS (b3 fR) (mV 0) (mC (D.int 0))))
  (dB (mV 2)))) hI)
  (di (dI (m2 (b2 dS) (m2 (b2 de) (mV 0) (mC (D.int 2))) (mC (D.int 1))) (gS (b3 fR) (mV 0) (mC (D.int 2))))
  (di (dI (m2 (b2 jZ) (m2 (b2 dS) (m2 (b2 dS) (m2 (b2 gB) (m2 (b2 de) (mV 0) (mC (D.int 1))) (mC (D.int 48271))) (mC (D.int 12345))) (m2 (b2 gB) (mC (D.int 7919)) (m2 (b2 de) (mV 0) (mC (D.int 2))))) (mC (D.int 2147483647))) (gS (b3 fR) (mV 0) (mC (D.int 1))))
  (dB (m2 (b2 jZ) (m2 (b2 wP) (m2 (b2 jZ) (m2 (b2 gB) (m2 (b2 de) (mV 0) (mC (D.int 1))) (m2 (b2 de) (mV 0) (mC (D.int 1)))) (mC (D.int 1999999973))) (mC (D.int 31))) (mV 1))))))
def da:FN:=gC 3 jL
theorem p8 {f:cJ}(F:dG K "_law_pick" md f):
  Own P w K mg base 1 "_law_pick" 2 da:=xq ["_law_left_here","_law_many","_law_digit"] X G F λa=>
 (qF (qV (ct yN (jq xv qK) qK) (qF (sq (qI kf (jq xv qK) xv)) (qF (qR (qI DG (jq xv qK) xv) (g7 xv qK (iY a.units))) (qG (qU xv)))) qQ) (qF (qR (qI dN (jq xv qK) qK) (g7 xv qK (iY a.units))) (qF (qR (qI kf (qI dN (qI dN (qI jf (jq xv qK) qK) qK) (qI jf qK (jq xv qK))) qK) (g7 xv qK (iY a.units))) (qG (qU (qI kf (qI DG (qI kf (qI jf (jq xv qK) (jq xv qK)) qK) qK) xv))))))
abbrev g6:cV:=iD 41
def jp:FS:=(eh (mTr (mV 1)) (ij (vq (b2 mM) (mV 2) (cX (dz (cX (dz (cX (m2 (b2 jZ) (m2 (b2 dS) (mV 3) (mC (D.int 1))) (mV 0)) (cX (mC (D.int 1)) cY))) (cX (dz (cX (m2 (b2 jZ) (m2 (b2 gSub) (mV 3) (mC (D.int 1))) (mV 0)) (cX (mC (D.int 0)) cY))) cY))) cY))) (di (dI (m2 (b2 im) (et (cX (dz (cX (m2 (b2 gSub) (mV 3) (mC (D.int 1))) (cX (mN (b1 mL) (cX (m2 (b2 (fA fun i j=>decide (j<i))) (mV 3) (mC (D.int 1))) cY)) cY))) cY)) (mN (b1 mL) (cX (m2 (b2 (fA fun i j=>decide (j<i))) (mV 3) (mC (D.int 0))) cY))) (gN 4))
  (ij (vq (b2 mM) (mV 2) (cX (mN (b1 gTup) (cX (m2 (b2 dS) (mV 4) (m2 (b2 im) (et (cX (dz (cX (m2 (b2 dS) (mV 3) (mC (D.int 1))) (cX (mC (D.int 0)) cY))) cY)) (mN (b1 mL) (cX (m2 (b2 oA) (m2 (b2 dS) (mV 3) (mC (D.int 1))) (mV 0)) cY)))) cY)) cY)))))
def j2:FS:=(di (dI (et cY) (gN 2))
  (di (ga (mZ (cX (mV 0) cY)) (gN 3) jp)
  (dB (mN (b1 gTup) (cX (mV 2) cY)))))
def eG:FN:=gC 5 j2
theorem jB {f:cJ}(F:dG K "_law_row_of_rooms" g6 f):
  Own P w K mg base 1 "_law_row_of_rooms" 2 eG:=xq ["_law_many","_law_round_about","_law_rooms","_law_room","_law_back"] X G F λa=>
 (qF (sq (dw qN)) (qF (fo (ir (a1 xv)) gq (qG (qV (dv xv) (qG (lq ap xv (a1 (df (a2 (df (a2 (qI kf (qI dN xv qK) xv) qK)) (df (a2 (qI kf (qI ke xv qK) xv) qK))))))) (qF (sq (qI nJ (dw (a1 (df (a2 (qI ke xv qK) (cz oa (a1 (ce yN xv qK))))))) (cz oa (a1 (ce yN xv qK))))) (qG (lq ap xv (a1 (cz gr (a1 (qI dN xv (qI nJ (dw (a1 (df (a2 (qI dN xv qK) qK)))) (cz oa (a1 (ce (oq jg) (qI dN xv qK) xv)))))))))))))) (qG (qU (cz gr (a1 xv))))))
abbrev jA:cV:=iD 48
def jN:FS:=(dB (eX (d8 .int (mV 0)) (eX (oY (d8 .bool (mV 0))) (ml (b2 (fA λi j=>decide (i<=j))) (b2 (fA λi j=>decide (i<=j))) (mV 1) (mV 0) (mV 2)))))
def dL:FN:=gC 3 jN
theorem mH {f:cJ}(F:dG K "_law_between" jA f):
  Own P w K mg base 1 "_law_between" 3 dL:=xq ["_law_thing","_law_low","_law_high"] X G F λa=>
 (qG (qU (d9 (ii xv) (d9 (uO (ii xv)) (eP (lw k8 k8 xv xv xv))))))
abbrev i8:cV:=iD 51
def jl:FS:=(dB (eX (d8 .tuple (mV 0)) (m2 (b2 gEq) (mN (b1 jr) (cX (mV 0) cY)) (d6 1 [0] (gb (mV 1)) (gN 0) (mB (m2 (b2 lP) (mV 0) (mV 1))) (dV (mV 0))))))
def ej:FN:=gC 2 jl
theorem lD {f:cJ}(F:dG K "_law_words_of" i8 f):
  Own P w K mg base 1 "_law_words_of" 2 ej:=xq ["_law_thing","_law_words"] X G F λa=>
 (qG (qU (d9 (ii xv) (eP (ce (oq h9) (cz c_list (a1 xv)) (fk ["_law_word"] (qd xv) ⟨gq,(hO (ct (oq vf) xv xv (by with_unfolding_all rfl))),xv⟩))))))
abbrev np:cV:=iD 2
def ol:FS:=(dB (eX (mN (c9 1 fe) (cX (mV 0) cY)) (ml (b2 (fA λi j=>decide (i<=j))) (b2 oA) (mC (D.int 0)) (mV 0) (mV 1))))
def eN:FN:=gC 2 ol
theorem rG {f:cJ}(F:dG K "is_below" np f)(a:Own P w K mg base 1 "is_whole" 1 fe):
  Own P w K mg base 2 "is_below" 2 eN:=xq ["thing","bound"] X G F λb=>
 (qG (qU (d9 (wn a (a1 xv)) (eP (lw k8 (oq jg) qK xv xv)))))
abbrev nr:cV:=iD 9
def om:FS:=(dB (eX (d8 .tuple (mV 0)) (eX (mN (b1 gn) (cX (d6 1 [] (gb (mV 0)) (gN 0) eH (dV (mN (c9 1 jD) (cX (mV 0) cY)))) cY)) (mN (c9 1 ei) (cX (mV 0) cY)))))
def hW:FN:=gC 1 om
theorem rJ {f:cJ}(F:dG K "are_eyes" nr f)(b:Own P w K mg base 1 "is_eye" 1 jD)(a:Own P w K mg base 1 "is_rising" 1 ei):
  Own P w K mg base 2 "are_eyes" 1 hW:=xq ["thing"] X G F λc=>
 (qG (qU (d9 (ii xv) (d9 (cn (jk O) (a1 (fk ["eye"] (qd xv) ⟨gq,dY,(wn b (a1 xv))⟩))) (eP (wn a (a1 xv)))))))
abbrev oP:cV:=iD 22
def lU:FS:=(di (eh (iN (eu (mTr (d8 .tuple (mV 0)))) (mB (m2 (b2 (fA fun i j=>decide (j<i))) (mN (b1 dX) (cX (mV 0) cY)) (mC fB)))) (dB (mC (D.bl false))) hI)
  (dB (mN (b1 gn) (cX (d6 1 [] (gb (mV 0)) (gN 0) eH (dV (eX (mN (c9 2 dJ) (cX (mV 0) (cX (mC (D.int 2)) cY))) (eX (mN (c9 1 fe) (cX (m2 (b2 de) (mV 0) (mC (D.int 0))) cY)) (mN (c9 1 fe) (cX (m2 (b2 de) (mV 0) (mC (D.int 1))) cY)))))) cY))))
def gy:FN:=gC 1 lU
theorem tW {f:cJ}(F:dG K "is_room" oP f)(b:CGl K mg "MOST_DOORS" fB)(c:Own P w K mg base 1 "is_tuple_of" 2 dJ)(a:Own P w K mg base 1 "is_whole" 1 fe):
  Own P w K mg base 2 "is_room" 1 gy:=xq ["thing"] X G F λd=>
 (qF (qV (fC (d7 (dn (dv (ii xv))) (ek (ct yN (cn eb (a1 xv)) (gg b O))))) (qG (qU d4)) qQ) (qG (qU (cn (jk O) (a1 (fk ["door"] (qd xv) ⟨gq,dY,(d9 (wn c (a2 xv qK)) (d9 (wn a (a1 (jq xv qK))) (eP (wn a (a1 (jq xv qK))))))⟩))))))
abbrev kT:cV:=iD 23
def lp:FS:=(dB (mN (b1 gn) (cX (d6 2 [0] (mZ (cX (mN (b1 dX) (cX (mV 0) cY)) cY)) (gN 0) eH (sy (mZ (cX (mN (b1 dX) (cX (m2 (b2 de) (mV 2) (mV 0)) cY)) cY)) (gN 1) eH (dV (mN (c9 3 gK) (cX (mV 2) (cX (mV 0) (cX (mV 1) cY))))))) cY)))
def gi:FN:=gC 1 lp
theorem oE {f:cJ}(F:dG K "leads_back" kT f)(a:Own P w K mg base 1 "is_paired" 3 gK):
  Own P w K mg base 2 "leads_back" 1 gi:=xq ["rooms"] X G F λb=>
 (qG (qU (cn (jk O) (a1 (wc O (T:=["room","door"]) (keep:=[0]) ⟨O,by decide+kernel,(kc "rooms" (ci _))⟩ O (ir (a1 (cn eb (a1 xv)))) (λ_ _ _=>⟨gq,dY,(ir (a1 (cn eb (a1 (jq xv xv))))),gq,dY,(wn a (a3 xv xv xv))⟩))))))
abbrev iG:cV:=iD 25
def iR:FS:=(dB (m2 (b2 gl) (mC D.non) (mN (c9 2 nO) (cX (mV 0) (cX (mC (D.int 0)) cY)))))
def eZ:FN:=gC 1 iR
theorem k3 {f:cJ}(F:dG K "hangs_together" iG f)(a:Own P w K mg base 1 "ways" 2 nO):
  Own P w K mg base 2 "hangs_together" 1 eZ:=xq ["rooms"] X G F λb=>
 (qG (qU (ce (oq k7) ia (wn a (a2 xv qK)) (by with_unfolding_all rfl))))
abbrev ma:cV:=iD 34
def mz:FS:=(di (eh (iN (eu (mTr (d8 .tuple (mV 0)))) (mB (m2 (b2 gEq) (mN (b1 dX) (cX (mV 0) cY)) (mC (D.int 0))))) (dB (mC (D.bl false))) hI)
  (dB (eX (mN (b1 gn) (cX (d6 1 [] (gb (mV 0)) (gN 0) eH (dV (mN (c9 1 iM) (cX (mV 0) cY)))) cY)) (mN (c9 1 ei) (cX (mV 0) cY)))))
def gO:FN:=gC 1 mz
theorem p7 {f:cJ}(F:dG K "are_hands" ma f)(a:Own P w K mg base 1 "is_hand" 1 iM)(b:Own P w K mg base 1 "is_rising" 1 ei):
  Own P w K mg base 2 "are_hands" 1 gO:=xq ["thing"] X G F λc=>
 (qF (qV (fC (d7 (dn (dv (ii xv))) (ek (ct (oq h9) (cn eb (a1 xv)) qK)))) (qG (qU d4)) qQ) (qG (qU (d9 (cn (jk O) (a1 (fk ["hand"] (qd xv) ⟨gq,dY,(wn a (a1 xv))⟩))) (eP (wn b (a1 xv)))))))
abbrev me:cV:=iD 39
def mD:FS:=(di (dI (mN (c9 2 e3) (cX (mV 0) (cX (m2 (b2 jZ) (mV 1) (mN (b2 sr) (cX (mC (D.int 1)) (cX (mN (b1 dX) (cX (mV 0) cY)) cY)))) cY))) (gN 2))
  (di (dI (m2 (b2 jZ) (m2 (b2 gB) (m2 (b2 dS) (m2 (b2 dS) (m2 (b2 jZ) (mV 2) (mC (D.int 2147483629))) (m2 (b2 gB) (m2 (b2 gB) (mC (D.int 7919)) (mV 1)) (mV 1))) (mC (D.int 11))) (mC (D.int 48271))) (mC (D.int 2147483647))) (gN 3))
  (di (dI (m2 (b2 gB) (m2 (b2 gB) (m2 (b2 gB) (m2 (b2 gB) (m2 (b2 gB) (m2 (b2 gA) (mC (D.int 10)) (mC (D.int 60))) (m2 (b2 gA) (mC (D.int 10)) (mC (D.int 60)))) (m2 (b2 gA) (mC (D.int 10)) (mC (D.int 60)))) (m2 (b2 gA) (mC (D.int 10)) (mC (D.int 60)))) (m2 (b2 gA) (mC (D.int 10)) (mC (D.int 60)))) (m2 (b2 gA) (mC (D.int 10)) (mC (D.int 60)))) (gN 4))
  (dB (et (cX (m2 (b2 gB) (m2 (b2 jZ) (mV 2) (mV 4)) (mN (b1 mL) (cX (m2 (b2 (fA λi j=>decide (j<=i))) (mV 2) (m2 (b2 gA) (mC (D.int 10)) (mC (D.int 18)))) cY))) (cX (mV 3) (cX (mC (D.int 0)) cY))))))))
def fY:FN:=gC 5 mD
theorem p9 {f:cJ}(F:dG K "_law_left" me f)(a:Own P w K mg base 1 "_law_cell_at" 2 e3):
  Own P w K mg base 2 "_law_left" 2 fY:=xq ["_law_script","_law_k","_law_cell","_law_seed","_law_bound"] X G F λb=>
 (qF (sq (wn a (a2 xv (qI kf xv (cn (As O) (a2 qK (cn eb (a1 xv)))))))) (qF (sq (qI kf (qI jf (qI dN (qI dN (qI kf xv qK) (qI jf (qI jf qK xv) xv)) qK) qK) qK)) (qF (sq (qI jf (qI jf (qI jf (qI jf (qI jf (qI mh qK qK) (qI mh qK qK)) (qI mh qK qK)) (qI mh qK qK)) (qI mh qK qK)) (qI mh qK qK))) (qG (qU (dw (a3 (qI jf (qI kf xv xv) (cz oa (a1 (ce J8 xv (qI mh qK qK))))) xv qK)))))))
abbrev j6:cV:=iD 42
def gX:FS:=(di (dI (d6 1 [3] (mZ (cX (mV 4) cY)) (gN 0) (mB (m2 (b2 oA) (m2 (b2 de) (mV 1) (mV 0)) (mC (D.int 4)))) (dV (mV 0))) (gN 5))
  (di (ij (vq (b2 mM) (mV 2) (cX (dz (cX (mV 4) (cX (m2 (b2 de) (mV 5) (mN (c9 2 da) (cX (mV 0) (cX (mN (b1 dX) (cX (mV 5) cY)) cY)))) cY))) cY)))
  (dI (dz (cX (m2 (b2 dS) (m2 (b2 de) (mV 3) (mV 4)) (mC (D.int 1))) (cX (m2 (b2 dS) (m2 (b2 de) (mV 3) (m2 (b2 de) (m2 (b2 de) (mV 2) (m1 (b1 lO) (mC (D.int 1)))) (mC (D.int 1)))) (mC (D.int 1))) cY))) (gT 2 (gm (gS (b3 fR) (mV 3) (mV 4)) (gm (gS (b3 fR) (mV 3) (m2 (b2 de) (m2 (b2 de) (mV 2) (m1 (b1 lO) (mC (D.int 1)))) (mC (D.int 1)))) lN))))))
def gW:FS:=(di (dI (dz (cX (mN (c9 2 da) (cX (mV 0) (cX (mV 1) cY))) (cX (mN (c9 2 da) (cX (mV 0) (cX (mV 1) cY))) cY))) (gT 2 (gm (gN 7) (gm (gN 8) lN))))
  (eh (mB (m2 (b2 oA) (m2 (b2 dS) (mN (b2 sr) (cX (m2 (b2 de) (mV 3) (mV 7)) (cX (m2 (b2 de) (mV 3) (mV 8)) cY))) (mN (b1 mL) (cX (m2 (b2 gEq) (mV 7) (mV 8)) cY))) (mC (D.int 4)))) (di (ij (vq (b2 mM) (mV 2) (cX (dz (cX (mV 7) (cX (mV 8) cY))) cY)))
  (di (dI (m2 (b2 dS) (m2 (b2 de) (mV 3) (mV 7)) (mC (D.int 1))) (gS (b3 fR) (mV 3) (mV 7)))
  (dI (m2 (b2 dS) (m2 (b2 de) (mV 3) (mV 8)) (mC (D.int 1))) (gS (b3 fR) (mV 3) (mV 8))))) hI))
def jc:FS:=(ij (vq (b3 uo) (m2 (b2 de) (mV 9) (m2 (b2 de) (mV 11) (mV 12))) (cX (mN (c9 2 da) (cX (mV 0) (cX (m2 (b2 dS) (mN (b1 dX) (cX (m2 (b2 de) (mV 9) (m2 (b2 de) (mV 11) (mV 12))) cY)) (mC (D.int 1))) cY))) (cX (dz (cX (mV 10) (cX (mV 12) cY))) cY))))
def gU:FS:=(ga (mZ (cX (mC (D.int 2)) cY)) (gN 12) jc)
def jb:FS:=(dI (dz (cX (mV 4) (cX (mV 15) cY))) (gS (b3 fR) (mV 13) (mV 16)))
def gR:FS:=(ga (vE (cX (mV 14) cY)) (gT 2 (gm (gN 15) (gm (gN 16) lN))) jb)
def kl:FS:=(di (dI (dz (cX (et cY) (cX (m2 (b2 im) (et (cX (mC (D.int 0)) cY)) (mV 1)) cY))) (gT 2 (gm (gN 2) (gm (gN 3) lN))))
  (di (ga (IG (cX (mC (D.int 1)) (cX (mV 1) cY))) (gN 4) gX)
  (di (ga (mZ (cX (mN (c9 2 da) (cX (mV 0) (cX (mC (D.int 4)) cY))) cY)) (gN 6) gW)
  (di (dI (d6 1 [] (mZ (cX (mV 1) cY)) (gN 0) eH (dV (et cY))) (gN 9))
  (di (ga (vE (cX (mV 2) cY)) (gT 2 (gm (gN 10) (gm (gN 11) lN))) gU)
  (di (dI oZ (gN 13))
  (di (ga (vE (cX (mV 9) cY)) (gT 2 (gm (gN 4) (gm (gN 14) lN))) gR)
  (dB (mN (b1 gTup) (cX (d6 1 [13] (gb (mV 9)) (gN 0) eH (dV (mN (b1 gTup) (cX (d6 2 [1] (gb (mV 0)) (gT 2 (gm (gN 0) (gm (gN 1) lN))) eH (dV (m2 (b2 de) (mV 2) (dz (cX (mV 0) (cX (m2 (b2 gSub) (mC (D.int 1)) (mV 1)) cY)))))) cY)))) cY))))))))))
def fM:FN:=gC 17 kl
theorem nB {f:cJ}(F:dG K "_law_web_of" j6 f)(a:Own P w K mg base 1 "_law_pick" 2 da):
  Own P w K mg base 2 "_law_web_of" 2 fM:=xq ["_law_left_here","_law_many","_law_pairs","_law_used","_law_room","_law_free","_law_turn","_law_one","_law_other","_law_ends","_law_number","_law_pair","_law_side","_law_spots","_law_some","_law_door","_law_end"] X G F λb=>
 (qF (qR (df (a2 (dw qN) (qI nJ (dw (a1 qK)) xv))) (tg2 gq gq)) (qF (fo (tj O (bz B) (a2 qK xv)) gq (qF (iC 5 O (T:=["_law_other"]) (keep:=[3]) ⟨O,by decide+kernel,(kc "_law_used" (ci _))⟩ O (ir (a1 xv)) (λ_ _ _=>⟨gq,(hO (ct (oq jg) (jq xv xv) qK)),xv⟩) (jC O) O (by first|exact Or.inl rfl|exact Or.inr rfl)) (qF (lq ap xv (a1 (df (a2 xv (jq xv (wn a (a2 xv (cn eb (a1 xv))))))))) (qG (qR (df (a2 (qI dN (jq xv xv) qK) (qI dN (jq xv (jq (jq xv (kx nI qK)) qK)) qK))) (tg2 (g7 xv xv (iY b.units)) (g7 xv (jq (jq xv (kx nI qK)) qK) (iY b.units)))))))) (qF (fo (ir (a1 (wn a (a2 xv qK)))) gq (qF (uM 7 8 rfl (jC rfl) rfl rfl (by decide) rfl rfl (a2 (wn a (a2 xv xv)) (wn a (a2 xv xv)))) (qG (qV (ct (oq jg) (qI dN (cn (As rfl) (a2 (jq xv xv) (jq xv xv))) (cz oa (a1 (ce (oq h9) xv xv)))) qK) (qF (lq ap xv (a1 (df (a2 xv xv)))) (qF (qR (qI dN (jq xv xv) qK) (g7 xv xv (iY b.units))) (qG (qR (qI dN (jq xv xv) qK) (g7 xv xv (iY b.units)))))) qQ)))) (qF (iC 9 rfl (T:=["_law_room"]) (keep:=[]) ⟨rfl,by decide+kernel,(ci _)⟩ rfl (ir (a1 xv)) (λ_ _ _=>⟨gq,dY,(dw qN)⟩) (jC O) O (by first|exact Or.inl rfl|exact Or.inr rfl)) (qF (fo (ie (a1 xv)) (tg2 gq gq) (qG (fo (ir (a1 qK)) gq (qG (lq ⟨PySem.F.slot_list_insert,PySem.F.type_list_insert,Ho⟩ (jq xv (jq xv xv)) (a2 (wn a (a2 xv (qI dN (cn eb (a1 (jq xv (jq xv xv)))) qK))) (df (a2 xv xv)))))))) (qF (sq q3) (qF (fo (ie (a1 xv)) (tg2 gq gq) (qG (fo (ie (a1 xv)) (tg2 gq gq) (qG (qR (df (a2 xv xv)) (g7 xv xv (iY b.units))))))) (qG (qU (cz gr (a1 (fk ["_law_some"] (qd xv) ⟨gq,dY,(cz gr (a1 (fk ["_law_number","_law_side"] (qd xv) ⟨(tg2 gq gq),dY,(jq xv (df (a2 xv (qI ke qK xv))))⟩)))⟩))))))))))))
abbrev i9:cV:=iD 44
def ig:FS:=(di (dI (d6 1 [3] (mZ (cX (mV 2) cY)) (gN 0) (mB (m2 (b2 gl) (mV 0) (mV 1))) (dV (mV 0))) (gN 6))
  (ij (vq (b2 mM) (mV 3) (cX (m2 (b2 de) (mV 6) (mN (c9 2 da) (cX (mV 0) (cX (mN (b1 dX) (cX (mV 6) cY)) cY)))) cY))))
def jm:FS:=(di (dI (dz (cX (mN (b1 dX) (cX (mV 1) cY)) (cX (et cY) cY))) (gT 2 (gm (gN 2) (gm (gN 3) lN))))
  (di (dI (m2 (b2 dS) (mC (D.int 1)) (mN (c9 2 da) (cX (mV 0) (cX (m2 (b2 de) (et (cX (mC (D.int 3)) (cX (mC (D.int 3)) (cX (mC (D.int 3)) (cX (mV 2) cY))))) (mN (c9 2 da) (cX (mV 0) (cX (mC (D.int 4)) cY)))) cY)))) (gN 4))
  (di (ga (mZ (cX (mN (b2 wN) (cX (mV 4) (cX (mV 2) cY))) cY)) (gN 5) ig)
  (di (dI (dz cY) (gN 7))
  (di (eh (mB (m2 (b2 gEq) (mN (c9 2 da) (cX (mV 0) (cX (mC (D.int 3)) cY))) (mC (D.int 0)))) (dI (mN (b1 gTup) (cX (d6 1 [0] (mZ (cX (mV 2) cY)) (gN 0) (mB (m2 (b2 gEq) (mN (c9 2 da) (cX (mV 1) (cX (mC (D.int 3)) cY))) (mC (D.int 0)))) (dV (mV 0))) cY)) (gN 7)) hI)
  (dB (dz (cX (mN (b1 gTup) (cX (mN (b1 lh) (cX (mV 3) cY)) cY)) (cX (mV 7) cY)))))))))
def fi:FN:=gC 8 jm
theorem lE {f:cJ}(F:dG K "_law_standing" i9 f)(a:Own P w K mg base 1 "_law_pick" 2 da):
  Own P w K mg base 2 "_law_standing" 2 fi:=xq ["_law_left_here","_law_web_here","_law_many","_law_rooms","_law_few","_law_turn","_law_free","_law_chalk"] X G F λb=>
 (qF (qR (df (a2 (cn eb (a1 xv)) (dw qN))) (tg2 gq gq)) (qF (sq (qI dN qK (wn a (a2 xv (jq (dw (qA qK (a3 qK qK xv))) (wn a (a2 xv qK))))))) (qF (fo (ir (a1 (cn (DX O) (a2 xv xv)))) gq (qF (iC 6 O (T:=["_law_room"]) (keep:=[3]) ⟨O,by decide+kernel,(kc "_law_rooms" (ci _))⟩ O (ir (a1 xv)) (λ_ _ _=>⟨gq,(hO (ct (oq k7) xv xv (by with_unfolding_all rfl))),xv⟩) (jC O) O (by first|exact Or.inl rfl|exact Or.inr rfl)) (qG (lq ap xv (a1 (jq xv (wn a (a2 xv (cn eb (a1 xv)))))))))) (qF (sq (df qN)) (qF (qV (ct (oq h9) (wn a (a2 xv qK)) qK) (qG (sq (cz gr (a1 (fk ["_law_room"] (ir (a1 xv)) ⟨gq,(hO (ct (oq h9) (wn a (a2 xv qK)) qK)),xv⟩))))) qQ) (qG (qU (df (a2 (cz gr (a1 (cn Ar (a1 xv)))) xv)))))))))
abbrev kb:cV:=iD 45
def ku:FS:=(di (dI (d6 1 [0] (gb (mV 1)) (gN 0) (mB (m2 (b2 gEq) (mN (c9 2 da) (cX (mV 1) (cX (mC (D.int 2)) cY))) (mC (D.int 0)))) (dV (mV 0))) (gN 3))
  (di (eh (mB (m2 (b2 oA) (mN (b1 dX) (cX (mV 3) cY)) (mV 2))) (dI (et (cX (m2 (b2 de) (mV 1) (mN (c9 2 da) (cX (mV 0) (cX (mN (b1 dX) (cX (mV 1) cY)) cY)))) cY)) (gN 3)) hI)
  (dB (mN (b1 gTup) (cX (mV 3) cY)))))
def eW:FN:=gC 4 ku
theorem nF {f:cJ}(F:dG K "_law_chosen" kb f)(a:Own P w K mg base 1 "_law_pick" 2 da):
  Own P w K mg base 2 "_law_chosen" 3 eW:=xq ["_law_left_here","_law_words","_law_least","_law_found"] X G F λb=>
 (qF (iC 3 O (T:=["_law_word"]) (keep:=[0]) ⟨O,by decide+kernel,(kc "_law_left_here" (ci _))⟩ O (qd xv) (λ_ _ _=>⟨gq,(hO (ct (oq h9) (wn a (a2 xv qK)) qK)),xv⟩) (jC O) O (by first|exact Or.inl rfl|exact Or.inr rfl)) (qF (qV (ct (oq jg) (cn eb (a1 xv)) xv) (qG (sq (dw (a1 (jq xv (wn a (a2 xv (cn eb (a1 xv))))))))) qQ) (qG (qU (cz gr (a1 xv))))))
abbrev nu:cV:=iD 47
def ot:FS:=(di (dI (et (cX (mC D.non) (cX (mC (D.bl true)) (cX (mC (D.bl false)) (cX (mC (D.int 0)) (cX (mC (D.int 1)) (cX (mC (D.int 2)) (cX (mC (D.int 3)) (cX (mC (D.int 4)) (cX (mC (D.int 5)) (cX (mC (D.int 6)) (cX (mC (D.int 7)) (cX (mC (D.int 8)) (cX (mC (D.int 9)) (cX (mC (D.int 40)) (cX (mC (D.int 41)) (cX (m1 (b1 lO) (mC (D.int 1))) (cX (m2 (b2 gA) (mC (D.int 10)) (mC (D.int 30))) (cX (mC (D.str "leave")) (cX (mC (D.str "mark")) (cX (mC (D.str "wipe")) (cX (mC (D.str "came")) cY)))))))))))))))))))))) (gN 2))
  (di (dI (m2 (b2 dS) (mV 2) (et (cX (mC (D.str "chalk")) (cX (mC (D.str "doors")) (cX (mC (D.str "others")) (cX (mC (D.str "Leave")) (cX (mC (D.str "ask")) (cX (mC (D.str "fails")) (cX (mC (D.str "never")) (cX (mC (D.str "colours")) (cX (mC (D.str "alike")) (cX (mC (D.str "does")) cY)))))))))))) (gN 2))
  (di (dI (m2 (b2 dS) (mV 2) (et (cX (mC (D.str "none")) (cX (mC (D.str "")) (cX (mC (D.str "0")) cY))))) (gN 2))
  (di (dI (m2 (b2 dS) (mV 2) (et (cX (dz cY) (cX (et cY) (cX oZ (cX (dz (cX (mC (D.int 0)) cY)) (cX (dz (cX (mC D.non) cY)) (cX (dz (cX (mC (D.int 0)) (cX (mC (D.int 1)) cY))) (cX (dz (cX (mC (D.int 1)) (cX (mC (D.int 0)) cY))) (cX (dz (cX (mC (D.int 0)) (cX (mC (D.int 0)) cY))) (cX (dz (cX (dz (cX (mC (D.int 0)) (cX (mC (D.int 0)) cY))) cY)) (cX (dz (cX (mC (D.bl M)) cY)) (cX (dz (cX (mC (D.str "leave")) cY)) (cX (dz (cX (mV 1) cY)) (cX (et (cX (mV 1) cY)) cY))))))))))))))) (gN 2))
  (di (eh (mTr (d8 .tuple (mV 1))) (dI (m2 (b2 dS) (mV 2) (m2 (b2 im) (et (cX (mN (b1 jr) (cX (mV 1) cY)) (cX (vp (mV 1) (m1 (b1 lO) (mC (D.int 1)))) (cX (m2 (b2 dS) (mV 1) (fQ (mV 1) eF (eE (mC (D.int 1))))) (cX (fQ (mV 1) eF (eE (m1 (b1 lO) (mC (D.int 1))))) (cX (m2 (b2 dS) (mV 1) (dz (cX (mC (D.int 0)) cY))) (cX (fQ (mV 1) (eE (mC (D.int 1))) eF) cY))))))) (mC (D.int 6)))) (gN 2)) hI)
  (di (eh (mTr (d8 .int (mV 1))) (dI (m2 (b2 dS) (mV 2) (m2 (b2 im) (et (cX (m2 (b2 dS) (mN (b1 mL) (cX (mV 1) cY)) (mC (D.int 1))) (cX (m2 (b2 gSub) (mN (b1 mL) (cX (mV 1) cY)) (mC (D.int 1))) (cX (mN (b1 zI) (cX (mV 1) cY)) (cX (m2 (b2 gEq) (mV 1) (mC (D.int 1))) (cX (mN (b1 zM) (cX (mV 1) cY)) cY)))))) (mC (D.int 5)))) (gN 2)) hI)
  (dB (m2 (b2 de) (mV 2) (mN (c9 2 da) (cX (mV 0) (cX (mN (b1 dX) (cX (mV 2) cY)) cY)))))))))))
def gz:FN:=gC 3 ot
theorem rL {f:cJ}(F:dG K "_law_odd" nu f)(a:Own P w K mg base 1 "_law_pick" 2 da):
  Own P w K mg base 2 "_law_odd" 2 gz:=xq ["_law_left_here","_law_thing","_law_some"] X G F λb=>
 (qF (sq (dw (qA ia (qA d4 (qA d4 (qA qK (qA qK (qA qK (qA qK (qA qK (qA qK (qA qK (qA qK (qA qK (qA qK (qA qK (qA qK (qA (kx nI qK) (qA (qI mh qK qK) (qA dE (a3 dE dE dE))))))))))))))))))))) (qF (sq (qI dN xv (dw (qA dE (qA dE (qA dE (qA dE (qA dE (qA dE (qA dE (a3 dE dE dE))))))))))) (qF (sq (qI dN xv (dw (a3 dE dE dE)))) (qF (sq (qI dN xv (dw (qA (df qN) (qA (dw qN) (qA q3 (qA (df (a1 qK)) (qA (df (a1 ia)) (qA (df (a2 qK qK)) (qA (df (a2 qK qK)) (qA (df (a2 qK qK)) (qA (df (a1 (df (a2 qK qK)))) (qA (df (a1 d4)) (a3 (df (a1 dE)) (df (a1 xv)) (dw (a1 xv)))))))))))))))) (qF (qV (dv (ii xv)) (qG (sq (qI dN xv (qI nJ (dw (qA (cz c_list (a1 xv)) (qA (lZ xv (kx nI qK)) (qA (qI dN xv (d1 xv eB (eA qK))) (a3 (d1 xv eB (eA (kx nI qK))) (qI dN xv (df (a1 qK))) (d1 xv (eA qK) eB)))))) qK)))) qQ) (qF (qV (dv (ii xv)) (qG (sq (qI dN xv (qI nJ (dw (qA (qI dN (cz oa (a1 xv)) qK) (qA (qI ke (cz oa (a1 xv)) qK) (a3 (cz IR (a1 xv)) (ce (oq h9) xv qK) (cz GV (a1 xv)))))) qK)))) qQ) (qG (qU (jq xv (wn a (a2 xv (cn eb (a1 xv)))))))))))))
abbrev j7:cV:=iD 49
def kn:FS:=(di (eh (iN (eu (mTr (d8 .tuple (mV 0)))) (eu (mTr (mN (b1 gn) (cX (d6 1 [1] (gb (mV 0)) (gN 0) eH (dV (mN (c9 3 dL) (cX (mV 0) (cX (mC (D.int 0)) (cX (m2 (b2 gSub) (mV 1) (mC (D.int 1))) cY)))))) cY))))) (dB (mC (D.bl false))) hI)
  (dB (m2 (b2 gEq) (mN (b1 jr) (cX (mV 0) cY)) (mN (b1 iQ) (cX (mV 0) cY)))))
def fj:FN:=gC 2 kn
theorem nC {f:cJ}(F:dG K "_law_rising" j7 f)(a:Own P w K mg base 1 "_law_between" 3 dL):
  Own P w K mg base 2 "_law_rising" 2 fj:=xq ["_law_thing","_law_many"] X G F λb=>
 (qF (qV (fC (d7 (dn (dv (ii xv))) (ek (dn (dv (cn (jk O) (a1 (fk ["_law_one"] (qd xv) ⟨gq,dY,(wn a (a3 xv qK (qI ke xv qK)))⟩)))))))) (qG (qU d4)) qQ) (qG (qU (ce (oq h9) (cz c_list (a1 xv)) (tq O O (bz B) O (bz B) xv)))))
abbrev j8:cV:=iD 50
def g0:FS:=(di (eh (iN (eu (mTr (d8 .tuple (mV 4)))) (iN (mB (m2 (b2 gNe) (mN (b1 dX) (cX (mV 4) cY)) (mC (D.int 2)))) (eu (mTr (mN (c9 3 dL) (cX (m2 (b2 de) (mV 4) (mC (D.int 0))) (cX (mC (D.int 0)) (cX (m2 (b2 gSub) (mN (b1 dX) (cX (mV 0) cY)) (mC (D.int 1))) cY)))))))) (dB (mC (D.bl false))) hI)
  (di (eh (iN (eu (mTr (mN (c9 3 dL) (cX (m2 (b2 de) (mV 4) (mC (D.int 1))) (cX (mC (D.int 0)) (cX (m2 (b2 gSub) (mN (b1 dX) (cX (m2 (b2 de) (mV 0) (m2 (b2 de) (mV 4) (mC (D.int 0)))) cY)) (mC (D.int 1))) cY)))))) (mB (m2 (b2 gEq) (mV 4) (dz (cX (mV 1) (cX (mV 3) cY)))))) (dB (mC (D.bl J))) hI)
  (eh (mB (m2 (b2 gNe) (m2 (b2 de) (m2 (b2 de) (mV 0) (m2 (b2 de) (mV 4) (mC (D.int 0)))) (m2 (b2 de) (mV 4) (mC (D.int 1)))) (dz (cX (mV 1) (cX (mV 3) cY))))) (dB (mC (D.bl J))) hI)))
def gZ:FS:=(ga (vE (cX (mV 2) cY)) (gT 2 (gm (gN 3) (gm (gN 4) lN))) g0)
def jd:FT:=(mB (m2 (b2 oA) (mV 6) (mN (b1 dX) (cX (mV 5) cY))))
def gY:FS:=(di (ij (vq (b2 zK) (mV 5) (cX (mN (b1 jG) (cX (d6 1 [5] (gb (m2 (b2 de) (mV 0) (m2 (b2 de) (mV 5) (mV 6)))) (gN 0) (mB (m2 (b2 gl) (m2 (b2 de) (mV 0) (mC (D.int 0))) (mV 1))) (dV (m2 (b2 de) (mV 0) (mC (D.int 0))))) cY)) cY)))
  (dI (m2 (b2 dS) (mV 6) (mC (D.int 1))) (gN 6)))
def kq:FS:=(di (eh (iN (eu (mTr (d8 .tuple (mV 0)))) (eu (mB (ml (b2 (fA fun i j=>decide (i<=j))) (b2 (fA fun i j=>decide (i<=j))) (mC (D.int 1)) (mN (b1 dX) (cX (mV 0) cY)) (mC (D.int 8)))))) (dB (mC (D.bl false))) hI)
  (di (eh (eu (mTr (mN (b1 gn) (cX (d6 1 [] (gb (mV 0)) (gN 0) eH (dV (eX (d8 .tuple (mV 0)) (m2 (b2 (fA λi j=>decide (i<=j))) (mN (b1 dX) (cX (mV 0) cY)) (mC (D.int 4)))))) cY)))) (dB (mC (D.bl J))) hI)
  (di (ga (vE (cX (mV 0) cY)) (gT 2 (gm (gN 1) (gm (gN 2) lN))) gZ)
  (di (dI (dz (cX (et (cX (mC (D.int 0)) cY)) (cX (mC (D.int 0)) cY))) (gT 2 (gm (gN 5) (gm (gN 6) lN))))
  (di (wd jd gY 100000)
  (dB (m2 (b2 gEq) (mN (b1 dX) (cX (mV 5) cY)) (mN (b1 dX) (cX (mV 0) cY)))))))))
def fN:FN:=gC 7 kq
theorem nD {f:cJ}(F:dG K "_law_is_web" j8 f)(a:Own P w K mg base 1 "_law_between" 3 dL):
  Own P w K mg base 2 "_law_is_web" 1 fN:=xq ["_law_thing","_law_r","_law_room","_law_d","_law_door","_law_met","_law_at"] X G F λb=>
 (qF (qV (fC (d7 (dn (dv (ii xv))) (ek (dn (iB k8 k8 qK (cn eb (a1 xv)) qK))))) (qG (qU d4)) qQ) (qF (qV (dn (dv (cn (jk O) (a1 (fk ["_law_room"] (qd xv) ⟨gq,dY,(d9 (ii xv) (eP (ce k8 (cn eb (a1 xv)) qK)))⟩))))) (qG (qU d4)) qQ) (qF (fo (ie (a1 xv)) (tg2 gq gq) (qG (fo (ie (a1 xv)) (tg2 gq gq) (qF (qV (fC (d7 (dn (dv (ii xv))) (d7 (ct (oq tZ) (cn eb (a1 xv)) qK) (ek (dn (dv (wn a (a3 (jq xv qK) qK (qI ke (cn eb (a1 xv)) qK))))))))) (qG (qU d4)) qQ) (qF (qV (fC (d7 (dn (dv (wn a (a3 (jq xv qK) qK (qI ke (cn eb (a1 (jq xv (jq xv qK)))) qK))))) (ek (ct (oq h9) xv (df (a2 xv xv)))))) (qG (qU d4)) qQ) (qG (qV (ct (oq tZ) (jq (jq xv (jq xv qK)) (jq xv qK)) (df (a2 xv xv))) (qG (qU d4)) qQ))))))) (qF (qR (df (a2 (dw (a1 qK)) qK)) (tg2 gq gq)) (qF (oM 100000 PassesOwn.never (ct (oq jg) xv (cn eb (a1 xv))) (qF (lq ⟨PySem.F.slot_list_extend,PySem.F.type_list_extend,Hq⟩ xv (a1 (wa O O (bz B) O (bz B) (fk ["_law_door"] (qd (jq xv (jq xv xv))) ⟨gq,(hO (ct (oq k7) (jq xv qK) xv (by with_unfolding_all rfl))),(jq xv qK)⟩)))) (qG (sq (qI dN xv qK))))) (qG (qU (ce (oq h9) (cn eb (a1 xv)) (cn eb (a1 xv))))))))))
abbrev kd:cV:=iD 55
def fU:FS:=(dI (m2 (b2 de) (et (cX (dz (cX (mV 2) cY)) (cX (et (cX (mV 2) cY)) (cX (dz (cX (mV 2) (cX (mC (D.int 0)) cY))) cY)))) (mN (c9 2 da) (cX (mV 0) (cX (mC (D.int 3)) cY)))) (gN 2))
def kw:FS:=(di (dI (mV 1) (gN 2))
  (di (ga (mZ (cX (mC (D.int 30)) cY)) (gN 3) fU)
  (di (dI (et (cX (mV 2) (cX (dz (cX (mV 1) cY)) (cX (et (cX (mV 1) cY)) (cX (mN (b1 jr) (cX (mV 1) cY)) (cX (m2 (b2 dS) (mV 1) (dz (cX (mC (D.int 0)) cY))) (cX (fQ (mV 1) eF (eE (mC (D.int 6)))) (cX (fQ (mV 1) (eE (mC (D.int 1))) eF) (cX (mj [((mC (D.int 0)),(mV 1))]) (cX (mC D.non) (cX (mC (D.int 0)) (cX (mC (D.str "")) cY)))))))))))) (gN 4))
  (di (dI (m2 (b2 dS) (mV 4) (et (cX (m2 (b2 dS) (dz (cX (mN (b1 jr) (cX (m2 (b2 de) (mV 1) (mC (D.int 0))) cY)) cY)) (fQ (mV 1) (eE (mC (D.int 1))) eF)) (cX (m2 (b2 dS) (dz (cX (m2 (b2 de) (m2 (b2 de) (mV 1) (mC (D.int 0))) (mC (D.int 0))) cY)) (fQ (mV 1) (eE (mC (D.int 1))) eF)) (cX (vp (mV 1) (m1 (b1 lO) (mC (D.int 1)))) (cX (m2 (b2 dS) (dz (cX (dz cY) cY)) (fQ (mV 1) (eE (mC (D.int 1))) eF)) cY)))))) (gN 4))
  (di (dI (m2 (b2 dS) (mV 4) (et (cX (m2 (b2 dS) (dz (cX (m2 (b2 kj) (m2 (b2 de) (mV 1) (mC (D.int 0))) (mC (D.int 7))) cY)) (fQ (mV 1) (eE (mC (D.int 1))) eF)) (cX (m2 (b2 dS) (dz (cX (m2 (b2 kj) (fQ (m2 (b2 de) (mV 1) (mC (D.int 0))) eF (eE (mC (D.int 1)))) (mC (D.int 6))) cY)) (fQ (mV 1) (eE (mC (D.int 1))) eF)) (cX (m2 (b2 dS) (fQ (mV 1) eF (eE (mC (D.int 6)))) (dz (cX (m2 (b2 gEq) (m2 (b2 de) (mV 1) (mC (D.int 6))) (mC (D.int 1))) cY))) cY))))) (gN 4))
  (dB (m2 (b2 dS) (m2 (b2 dS) (mV 4) (mN (b1 jr) (cX (mV 1) cY))) (et (cX (m2 (b2 dS) (m2 (b2 dS) (fQ (mV 1) eF (eE (mC (D.int 4)))) (dz (cX (mC (D.bl M)) cY))) (fQ (mV 1) (eE (mC (D.int 5))) eF)) (cX (m2 (b2 dS) (m2 (b2 dS) (fQ (mV 1) eF (eE (mC (D.int 1)))) (dz (cX (mN (b1 jr) (cX (m2 (b2 de) (mV 1) (mC (D.int 1))) cY)) cY))) (fQ (mV 1) (eE (mC (D.int 2))) eF)) cY))))))))))
def fP:FN:=gC 5 kw
theorem nG {f:cJ}(F:dG K "_law_around" kd f)(a:Own P w K mg base 1 "_law_pick" 2 da):
  Own P w K mg base 2 "_law_around" 2 fP:=xq ["_law_left_here","_law_errand_here","_law_deep","_law_turn","_law_some"] X G F λb=>
 (qF (sq xv) (qF (fo (ir (a1 qK)) gq (qG (sq (jq (dw (a3 (df (a1 xv)) (dw (a1 xv)) (df (a2 xv qK)))) (wn a (a2 xv qK)))))) (qF (sq (dw (qA xv (qA (df (a1 xv)) (qA (dw (a1 xv)) (qA (cz c_list (a1 xv)) (qA (qI dN xv (df (a1 qK))) (qA (d1 xv eB (eA qK)) (qA (d1 xv (eA qK) eB) (qA (q7 (q0 qK xv uN)) (a3 ia qK dE))))))))))) (qF (sq (qI dN xv (dw (qA (qI dN (df (a1 (cz c_list (a1 (jq xv qK))))) (d1 xv (eA qK) eB)) (a3 (qI dN (df (a1 (jq (jq xv qK) qK))) (d1 xv (eA qK) eB)) (lZ xv (kx nI qK)) (qI dN (df (a1 (df qN))) (d1 xv (eA qK) eB))))))) (qF (sq (qI dN xv (dw (a3 (qI dN (df (a1 (qI yM (jq xv qK) qK))) (d1 xv (eA qK) eB)) (qI dN (df (a1 (qI yM (d1 (jq xv qK) eB (eA qK)) qK))) (d1 xv (eA qK) eB)) (qI dN (d1 xv eB (eA qK)) (df (a1 (ce (oq h9) (jq xv qK) qK)))))))) (qG (qU (qI dN (qI dN xv (cz c_list (a1 xv))) (dw (a2 (qI dN (qI dN (d1 xv eB (eA qK)) (df (a1 d4))) (d1 xv (eA qK) eB)) (qI dN (qI dN (d1 xv eB (eA qK)) (df (a1 (cz c_list (a1 (jq xv qK)))))) (d1 xv (eA qK) eB))))))))))))
abbrev l9:cV:=iD 16
def my:FS:=(di (eh (iN (eu (mTr (d8 .tuple (mV 1)))) (eu (mTr (mN (b1 gn) (cX (d6 1 [0] (gb (mV 1)) (gN 0) eH (dV (mN (c9 2 eN) (cX (mV 0) (cX (mN (b1 dX) (cX (mV 1) cY)) cY))))) cY))))) (dB (mC (D.bl false))) hI)
  (dB (mN (c9 1 ei) (cX (mV 1) cY))))
def fX:FN:=gC 2 my
theorem p6 {f:cJ}(F:dG K "are_rooms" l9 f)(a:Own P w K mg base 2 "is_below" 2 eN)(b:Own P w K mg base 1 "is_rising" 1 ei):
  Own P w K mg base 3 "are_rooms" 2 fX:=xq ["web","thing"] X G F λc=>
 (qF (qV (fC (d7 (dn (dv (ii xv))) (ek (dn (dv (cn (jk O) (a1 (fk ["room"] (qd xv) ⟨gq,dY,(wn a (a2 xv (cn eb (a1 xv))))⟩)))))))) (qG (qU d4)) qQ) (qG (qU (wn b (a1 xv)))))
abbrev nq:cV:=iD 21
def kJ:FS:=(di (eh (iN (eu (mTr (d8 .tuple (mV 0)))) (eu (mB (ml (b2 (fA fun i j=>decide (i<=j))) (b2 (fA fun i j=>decide (i<=j))) (mC (D.int 1)) (mN (b1 dX) (cX (mV 0) cY)) (mC fh))))) (dB (mC (D.bl false))) hI)
  (dB (mN (b1 gn) (cX (d6 1 [] (gb (mV 0)) (gN 0) eH (dV (mN (c9 1 gy) (cX (mV 0) cY)))) cY))))
def fV:FN:=gC 1 kJ
theorem rH {f:cJ}(F:dG K "has_form" nq f)(c3:CGl K mg "MOST_ROOMS" fh)(a:Own P w K mg base 2 "is_room" 1 gy):
  Own P w K mg base 3 "has_form" 1 fV:=xq ["thing"] X G F λb=>
 (qF (qV (fC (d7 (dn (dv (ii xv))) (ek (dn (iB k8 k8 qK (cn eb (a1 xv)) (gg c3 O)))))) (qG (qU d4)) qQ) (qG (qU (cn (jk O) (a1 (fk ["room"] (qd xv) ⟨gq,dY,(wn a (a1 xv))⟩))))))
abbrev l8:cV:=iD 35
def mx:FS:=(di (eh (iN (eu (mTr (d8 .tuple (mV 0)))) (mB (m2 (b2 gEq) (mN (b1 dX) (cX (mV 0) cY)) (mC (D.int 0))))) (dB (mC (D.bl false))) hI)
  (di (eh (eu (mTr (mN (b1 gn) (cX (d6 1 [] (gb (mV 0)) (gN 0) eH (dV (Ck (m2 (b2 zJ) (mV 0) (mC D.non)) (mN (c9 2 eN) (cX (mV 0) (cX (mC m5) cY)))))) cY)))) (dB (mC (D.bl J))) hI)
  (dB (mN (c9 1 ei) (cX (d6 1 [] (gb (mV 0)) (gN 0) eH (dV (Iw (mB (m2 (b2 zJ) (mV 0) (mC D.non))) (m1 (b1 lO) (mC (D.int 1))) (mV 0)))) cY)))))
def gM:FN:=gC 1 mx
theorem p5 {f:cJ}(F:dG K "are_steps" l8 f)(c4:CGl K mg "STEPS" m5)(a:Own P w K mg base 2 "is_below" 2 eN)(b:Own P w K mg base 1 "is_rising" 1 ei):
  Own P w K mg base 3 "are_steps" 1 gM:=xq ["thing"] X G F λc=>
 (qF (qV (fC (d7 (dn (dv (ii xv))) (ek (ct (oq h9) (cn eb (a1 xv)) qK)))) (qG (qU d4)) qQ) (qF (qV (dn (dv (cn (jk O) (a1 (fk ["step"] (qd xv) ⟨gq,dY,(AY (ce DF xv ia) (eP (wn a (a2 xv (gg c4 O)))))⟩))))) (qG (qU d4)) qQ) (qG (qU (wn b (a1 (fk ["step"] (qd xv) ⟨gq,dY,(Ea (ct DF xv ia) (kx nI qK) xv)⟩)))))))
abbrev kW:cV:=iD 36
def ls:FS:=(di (eh (iN (eu (mTr (mN (c9 2 eN) (cX (mV 0) (cX (m2 (b2 dS) (mC hD) (mC (D.int 1))) cY))))) (mB (m2 (b2 gEq) (mV 0) (mC (D.int 0))))) (dB (mC (D.bl false))) hI)
  (dB (eX (mN (c9 2 eN) (cX (mV 1) (cX (m2 (b2 dS) (mC hE) (mC (D.int 1))) cY))) (mN (c9 2 eN) (cX (mV 2) (cX (m2 (b2 dS) (mC hH) (mC (D.int 1))) cY))))))
def gk:FN:=gC 3 ls
theorem oG {f:cJ}(F:dG K "are_bounds" kW f)(c5:CGl K mg "MOST_BEATS" hH)(c:CGl K mg "MOST_CHALK" hE)(b:CGl K mg "MOST_MOODS" hD)(a:Own P w K mg base 2 "is_below" 2 eN):
  Own P w K mg base 3 "are_bounds" 3 gk:=xq ["moods","chalk","beats"] X G F λd=>
 (qF (qV (fC (d7 (dn (dv (wn a (a2 xv (qI dN (gg b O) qK))))) (ek (ct (oq h9) xv qK)))) (qG (qU d4)) qQ) (qG (qU (d9 (wn a (a2 xv (qI dN (gg c O) qK))) (eP (wn a (a2 xv (qI dN (gg c5 O) qK))))))))
abbrev nt:cV:=iD 43
def oo:FS:=(di (dI (dz (cX (mN (c9 2 da) (cX (mV 0) (cX (mC (D.int 4)) cY))) (cX (m2 (b2 dS) (mC (D.int 1)) (mN (c9 2 da) (cX (mV 0) (cX (mV 1) cY)))) cY))) (gT 2 (gm (gN 2) (gm (gN 3) lN))))
  (di (eh (mB (m2 (b2 oA) (mV 2) (mC (D.int 2)))) (dB (mN (c9 2 eG) (cX (mV 3) (cX (m2 (b2 gEq) (mV 2) (mC (D.int 0))) cY)))) hI)
  (dB (mN (c9 2 fM) (cX (mV 0) (cX (mV 3) cY))))))
def hX:FN:=gC 4 oo
theorem rK {f:cJ}(F:dG K "_law_web" nt f)(c:Own P w K mg base 1 "_law_pick" 2 da)(a:Own P w K mg base 1 "_law_row_of_rooms" 2 eG)(b:Own P w K mg base 2 "_law_web_of" 2 fM):
  Own P w K mg base 3 "_law_web" 2 hX:=xq ["_law_left_here","_law_most","_law_way","_law_many"] X G F λd=>
 (qF (uM 2 3 O (jC O) O O (by decide) O O (a2 (wn c (a2 xv qK)) (qI dN qK (wn c (a2 xv xv))))) (qF (qV (ct (oq jg) xv qK) (qG (qU (wn a (a2 xv (ce (oq h9) xv qK))))) qQ) (qG (qU (wn b (a2 xv xv))))))
abbrev ja:cV:=iD 52
def jn:FS:=(di (eh (iN (eu (mTr (d8 .tuple (mV 0)))) (iN (mB (m2 (b2 gNe) (mN (b1 dX) (cX (mV 0) cY)) (mC (D.int 2)))) (eu (mTr (mN (c9 1 fN) (cX (m2 (b2 de) (mV 0) (mC (D.int 0))) cY)))))) (dB (mC (D.bl false))) hI)
  (di (dI (mV 0) (gT 2 (gm (gN 1) (gm (gN 2) lN))))
  (di (eh (iN (eu (mTr (d8 .tuple (mV 2)))) (iN (mB (m2 (b2 gNe) (mN (b1 dX) (cX (mV 2) cY)) (mC (D.int 2)))) (mB (m2 (b2 gEq) (m2 (b2 de) (mV 2) (mC (D.int 0))) (dz cY))))) (dB (mC (D.bl J))) hI)
  (dB (eX (mN (c9 2 fj) (cX (m2 (b2 de) (mV 2) (mC (D.int 0))) (cX (mN (b1 dX) (cX (mV 1) cY)) cY))) (mN (c9 2 fj) (cX (m2 (b2 de) (mV 2) (mC (D.int 1))) (cX (mN (b1 dX) (cX (mV 1) cY)) cY))))))))
def eS:FN:=gC 3 jn
theorem lF {f:cJ}(F:dG K "_law_is_field" ja f)(b:Own P w K mg base 2 "_law_is_web" 1 fN)(a:Own P w K mg base 2 "_law_rising" 2 fj):
  Own P w K mg base 3 "_law_is_field" 1 eS:=xq ["_law_thing","_law_web_here","_law_standing_here"] X G F λc=>
 (qF (qV (fC (d7 (dn (dv (ii xv))) (d7 (ct (oq tZ) (cn eb (a1 xv)) qK) (ek (dn (dv (wn b (a1 (jq xv qK))))))))) (qG (qU d4)) qQ) (qF (qR xv (tg2 gq gq)) (qF (qV (fC (d7 (dn (dv (ii xv))) (d7 (ct (oq tZ) (cn eb (a1 xv)) qK) (ek (ct (oq h9) (jq xv qK) (df qN)))))) (qG (qU d4)) qQ) (qG (qU (d9 (wn a (a2 (jq xv qK) (cn eb (a1 xv)))) (eP (wn a (a2 (jq xv qK) (cn eb (a1 xv)))))))))))
abbrev j5:cV:=iD 15
def kk:FS:=(di (eh (iN (eu (mTr (mN (c9 2 dJ) (cX (mV 1) (cX (mC (D.int 2)) cY))))) (iN (eu (mTr (mN (c9 2 fX) (cX (mV 0) (cX (m2 (b2 de) (mV 1) (mC (D.int 0))) cY))))) (eu (mTr (mN (c9 2 fX) (cX (mV 0) (cX (m2 (b2 de) (mV 1) (mC (D.int 1))) cY))))))) (dB (mC (D.bl false))) hI)
  (dB (m2 (b2 (fA λi j=>decide (j<i))) (mN (b1 dX) (cX (m2 (b2 de) (mV 1) (mC (D.int 0))) cY)) (mC (D.int 0)))))
def fL:FN:=gC 2 kk
theorem nA {f:cJ}(F:dG K "is_standing" j5 f)(a:Own P w K mg base 3 "are_rooms" 2 fX)(b:Own P w K mg base 1 "is_tuple_of" 2 dJ):
  Own P w K mg base 4 "is_standing" 2 fL:=xq ["web","thing"] X G F λc=>
 (qF (qV (fC (d7 (dn (dv (wn b (a2 xv qK)))) (d7 (dn (dv (wn a (a2 xv (jq xv qK))))) (ek (dn (dv (wn a (a2 xv (jq xv qK))))))))) (qG (qU d4)) qQ) (qG (qU (ce yN (cn eb (a1 (jq xv qK))) qK))))
abbrev rl:cV:=iD 20
def oi:FS:=(dB (eX (mN (c9 1 fV) (cX (mV 0) cY)) (eX (mN (c9 1 gi) (cX (mV 0) cY)) (mN (c9 1 eZ) (cX (mV 0) cY)))))
def gJ:FN:=gC 1 oi
theorem wv {f:cJ}(F:dG K "is_web" rl f)(a:Own P w K mg base 2 "hangs_together" 1 eZ)(b:Own P w K mg base 3 "has_form" 1 fV)(c:Own P w K mg base 2 "leads_back" 1 gi):
  Own P w K mg base 4 "is_web" 1 gJ:=xq ["thing"] X G F λd=>
 (qG (qU (d9 (wn b (a1 xv)) (d9 (wn c (a1 xv)) (eP (wn a (a1 xv)))))))
abbrev j9:cV:=iD 46
def je:FS:=(di (dI (mN (c9 2 hX) (cX (mV 0) (cX (mV 1) cY))) (gN 4))
  (ij (vq (b2 mM) (mV 2) (cX (dz (cX (mV 4) (cX (mN (c9 2 fi) (cX (mV 0) (cX (mV 4) cY))) cY))) cY))))
def kr:FS:=(di (dI (et cY) (gN 2))
  (di (ga (mZ (cX (m2 (b2 de) (et (cX (mC (D.int 1)) (cX (mC (D.int 2)) (cX (mC (D.int 1)) (cX (mC (D.int 3)) (cX (mC (D.int 2)) (cX (mC (D.int 1)) (cX (mC (D.int 3)) (cX (mC (D.int 6)) cY))))))))) (mN (c9 2 da) (cX (mV 0) (cX (mC (D.int 8)) cY)))) cY)) (gN 3) je)
  (di (dI (mN (c9 3 eW) (cX (mV 0) (cX (et (cX (mC (D.str "came")) (cX (mC (D.str "chalk")) (cX (mC (D.str "doors")) (cX (mC (D.str "others")) cY))))) (cX (mC (D.int 0)) cY)))) (gN 5))
  (di (dI (mN (c9 3 eW) (cX (mV 0) (cX (et (cX (mC (D.str "leave")) (cX (mC (D.str "mark")) (cX (mC (D.str "wipe")) cY)))) (cX (mC (D.int 1)) cY)))) (gN 6))
  (di (dI (mN (c9 3 eW) (cX (mV 0) (cX (et (cX (mC D.non) (cX (mC (D.int 0)) (cX (mC (D.int 1)) (cX (mC (D.int 2)) (cX (mC (D.int 3)) cY)))))) (cX (mC (D.int 1)) cY)))) (gN 7))
  (di (dI (dz (cX (m2 (b2 dS) (mC (D.int 1)) (mN (c9 2 da) (cX (mV 0) (cX (mC (D.int 3)) cY)))) (cX (mN (c9 2 da) (cX (mV 0) (cX (mC (D.int 9)) cY))) (cX (m2 (b2 de) (et (cX (mN (c9 2 da) (cX (mV 0) (cX (mC (D.int 13)) cY))) (cX (mN (c9 2 da) (cX (mV 0) (cX (mC (D.int 41)) cY))) cY))) (mN (c9 2 da) (cX (mV 0) (cX (mC (D.int 2)) cY)))) cY)))) (gN 8))
  (dB (m2 (b2 dS) (dz (cX (mN (b1 gTup) (cX (mV 2) cY)) (cX (mV 5) (cX (mV 6) (cX (mV 7) cY))))) (mV 8)))))))))
def fO:FN:=gC 9 kr
theorem nE {f:cJ}(F:dG K "_law_errand" j9 f)(a:Own P w K mg base 2 "_law_chosen" 3 eW)(b:Own P w K mg base 1 "_law_pick" 2 da)(d:Own P w K mg base 2 "_law_standing" 2 fi)(c:Own P w K mg base 3 "_law_web" 2 hX):
  Own P w K mg base 4 "_law_errand" 2 fO:=xq ["_law_left_here","_law_most","_law_fields","_law_turn","_law_web_here","_law_eyes","_law_hands","_law_steps","_law_rest"] X G F λe=>
 (qF (sq (dw qN)) (qF (fo (ir (a1 (jq (dw (qA qK (qA qK (qA qK (qA qK (qA qK (a3 qK qK qK))))))) (wn b (a2 xv qK))))) gq (qF (sq (wn c (a2 xv xv))) (qG (lq ap xv (a1 (df (a2 xv (wn d (a2 xv xv))))))))) (qF (sq (wn a (a3 xv (dw (qA dE (a3 dE dE dE))) qK))) (qF (sq (wn a (a3 xv (dw (a3 dE dE dE)) qK))) (qF (sq (wn a (a3 xv (dw (qA ia (qA qK (a3 qK qK qK)))) qK))) (qF (sq (df (a3 (qI dN qK (wn b (a2 xv qK))) (wn b (a2 xv qK)) (jq (dw (a2 (wn b (a2 xv qK)) (wn b (a2 xv qK)))) (wn b (a2 xv qK)))))) (qG (qU (qI dN (df (qA (cz gr (a1 xv)) (a3 xv xv xv))) xv)))))))))
abbrev iH:cV:=iD 53
def iS:FS:=(di (eh (iN (eu (mTr (d8 .tuple (mV 0)))) (mB (m2 (b2 gNe) (mN (b1 dX) (cX (mV 0) cY)) (mC (D.int 7))))) (dB (mC (D.bl false))) hI)
  (di (dI (mV 0) (gT 7 (gm (gN 1) (gm (gN 2) (gm (gN 3) (gm (gN 4) (gm (gN 5) (gm (gN 6) (gm (gN 7) lN)))))))))
  (di (eh (iN (eu (mTr (d8 .tuple (mV 1)))) (iN (eu (mB (ml (b2 (fA λi j=>decide (i<=j))) (b2 (fA λi j=>decide (i<=j))) (mC (D.int 1)) (mN (b1 dX) (cX (mV 1) cY)) (mC (D.int 6))))) (eu (mTr (mN (b1 gn) (cX (d6 1 [] (gb (mV 1)) (gN 0) eH (dV (mN (c9 1 eS) (cX (mV 0) cY)))) cY)))))) (dB (mC (D.bl J))) hI)
  (di (eh (eu (mTr (mN (c9 2 ej) (cX (mV 2) (cX (et (cX (mC (D.str "came")) (cX (mC (D.str "chalk")) (cX (mC (D.str "doors")) (cX (mC (D.str "others")) cY))))) cY))))) (dB (mC (D.bl J))) hI)
  (di (eh (iN (eu (mTr (mN (c9 2 ej) (cX (mV 3) (cX (et (cX (mC (D.str "leave")) (cX (mC (D.str "mark")) (cX (mC (D.str "wipe")) cY)))) cY))))) (iN (mB (m2 (b2 gEq) (mV 3) (dz cY))) (eu (mTr (d8 .tuple (mV 4)))))) (dB (mC (D.bl J))) hI)
  (di (eh (iN (mB (m2 (b2 gEq) (mV 4) (dz cY))) (mTr (mN (b1 zN) (cX (d6 1 [] (gb (mV 4)) (gN 0) eH (dV (d8 .bool (mV 0)))) cY)))) (dB (mC (D.bl J))) hI)
  (di (eh (mB (m2 (b2 gNe) (mN (b1 jr) (cX (mV 4) cY)) (d6 1 [4] (gb (et (cX (mC D.non) (cX (mC (D.int 0)) (cX (mC (D.int 1)) (cX (mC (D.int 2)) (cX (mC (D.int 3)) cY))))))) (gN 0) (mB (m2 (b2 lP) (mV 0) (mV 1))) (dV (mV 0))))) (dB (mC (D.bl J))) hI)
  (dB (eX (mN (c9 3 dL) (cX (mV 5) (cX (mC (D.int 1)) (cX (mC (D.int 3)) cY)))) (eX (mN (c9 3 dL) (cX (mV 6) (cX (mC (D.int 0)) (cX (mC (D.int 8)) cY)))) (mN (c9 3 dL) (cX (mV 7) (cX (mC (D.int 0)) (cX (mC (D.int 40)) cY))))))))))))))
def eL:FN:=gC 8 iS
theorem k4 {f:cJ}(F:dG K "_law_is_errand" iH f)(c:Own P w K mg base 1 "_law_between" 3 dL)(b:Own P w K mg base 3 "_law_is_field" 1 eS)(a:Own P w K mg base 1 "_law_words_of" 2 ej):
  Own P w K mg base 4 "_law_is_errand" 1 eL:=xq ["_law_thing","_law_fields","_law_eyes","_law_hands","_law_steps","_law_moods","_law_chalk","_law_beats"] X G F λd=>
 (qF (qV (fC (d7 (dn (dv (ii xv))) (ek (ct (oq tZ) (cn eb (a1 xv)) qK)))) (qG (qU d4)) qQ) (qF (qR xv (pG O (ee gq (ee gq (ee gq (ee gq (ee gq (ee gq (ee gq nf))))))))) (qF (qV (fC (d7 (dn (dv (ii xv))) (d7 (dn (iB k8 k8 qK (cn eb (a1 xv)) qK)) (ek (dn (dv (cn (jk O) (a1 (fk ["_law_one"] (qd xv) ⟨gq,dY,(wn b (a1 xv))⟩))))))))) (qG (qU d4)) qQ) (qF (qV (dn (dv (wn a (a2 xv (dw (qA dE (a3 dE dE dE))))))) (qG (qU d4)) qQ) (qF (qV (fC (d7 (dn (dv (wn a (a2 xv (dw (a3 dE dE dE)))))) (d7 (ct (oq h9) xv (df qN)) (ek (dn (dv (ii xv))))))) (qG (qU d4)) qQ) (qF (qV (fC (d7 (ct (oq h9) xv (df qN)) (ek (dv (cn (c_any O) (a1 (fk ["_law_step"] (qd xv) ⟨gq,dY,(ii xv)⟩))))))) (qG (qU d4)) qQ) (qF (qV (ct (oq tZ) (cz c_list (a1 xv)) (fk ["_law_step"] (qd (dw (qA ia (qA qK (a3 qK qK qK))))) ⟨gq,(hO (ct (oq vf) xv xv (by with_unfolding_all rfl))),xv⟩)) (qG (qU d4)) qQ) (qG (qU (d9 (wn c (a3 xv qK qK)) (d9 (wn c (a3 xv qK qK)) (eP (wn c (a3 xv qK qK))))))))))))))
abbrev no:cV:=iD 33
def oj:FS:=(dB (eX (mN (c9 2 dJ) (cX (mV 0) (cX (mC (D.int 2)) cY))) (eX (mN (c9 1 gJ) (cX (m2 (b2 de) (mV 0) (mC (D.int 0))) cY)) (mN (c9 2 fL) (cX (m2 (b2 de) (mV 0) (mC (D.int 0))) (cX (m2 (b2 de) (mV 0) (mC (D.int 1))) cY))))))
def hV:FN:=gC 1 oj
theorem rF {f:cJ}(F:dG K "is_field" no f)(a:Own P w K mg base 4 "is_standing" 2 fL)(c:Own P w K mg base 1 "is_tuple_of" 2 dJ)(b:Own P w K mg base 4 "is_web" 1 gJ):
  Own P w K mg base 5 "is_field" 1 hV:=xq ["thing"] X G F λd=>
 (qG (qU (d9 (wn c (a2 xv qK)) (d9 (wn b (a1 (jq xv qK))) (eP (wn a (a2 (jq xv qK) (jq xv qK))))))))
abbrev kU:cV:=iD 32
def lr:FS:=(di (eh (iN (eu (mTr (d8 .tuple (mV 0)))) (eu (mB (ml (b2 (fA fun i j=>decide (i<=j))) (b2 (fA fun i j=>decide (i<=j))) (mC (D.int 1)) (mN (b1 dX) (cX (mV 0) cY)) (mC gF))))) (dB (mC (D.bl false))) hI)
  (dB (mN (b1 gn) (cX (d6 1 [] (gb (mV 0)) (gN 0) eH (dV (mN (c9 1 hV) (cX (mV 0) cY)))) cY))))
def gj:FN:=gC 1 lr
theorem oF {f:cJ}(F:dG K "are_fields" kU f)(b:CGl K mg "MOST_FIELDS" gF)(a:Own P w K mg base 5 "is_field" 1 hV):
  Own P w K mg base 6 "are_fields" 1 gj:=xq ["thing"] X G F λc=>
 (qF (qV (fC (d7 (dn (dv (ii xv))) (ek (dn (iB k8 k8 qK (cn eb (a1 xv)) (gg b O)))))) (qG (qU d4)) qQ) (qG (qU (cn (jk O) (a1 (fk ["field"] (qd xv) ⟨gq,dY,(wn a (a1 xv))⟩))))))
abbrev l7:cV:=iD 31
def mw:FS:=(di (eh (eu (mTr (mN (c9 2 dJ) (cX (mV 0) (cX (mC (D.int 7)) cY))))) (dB (mC (D.bl false))) hI)
  (di (dI (mV 0) (gT 7 (gm (gN 1) (gm (gN 2) (gm (gN 3) (gm (gN 4) (gm (gN 5) (gm (gN 6) (gm (gN 7) lN)))))))))
  (di (eh (iN (eu (mTr (mN (c9 1 gj) (cX (mV 1) cY)))) (iN (eu (mTr (mN (c9 1 hW) (cX (mV 2) cY)))) (iN (eu (mTr (mN (c9 1 gO) (cX (mV 3) cY)))) (eu (mTr (mN (c9 1 gM) (cX (mV 4) cY))))))) (dB (mC (D.bl J))) hI)
  (dB (mN (c9 3 gk) (cX (mV 5) (cX (mV 6) (cX (mV 7) cY))))))))
def gL:FN:=gC 8 mw
theorem p4 {f:cJ}(F:dG K "is_errand" l7 f)(d:Own P w K mg base 3 "are_bounds" 3 gk)(b:Own P w K mg base 2 "are_eyes" 1 hW)(e:Own P w K mg base 6 "are_fields" 1 gj)(c:Own P w K mg base 2 "are_hands" 1 gO)(a:Own P w K mg base 3 "are_steps" 1 gM)(g:Own P w K mg base 1 "is_tuple_of" 2 dJ):
  Own P w K mg base 7 "is_errand" 1 gL:=xq ["thing","fields","eyes","hands","steps","moods","chalk","beats"] X G F λh=>
 (qF (qV (dn (dv (wn g (a2 xv qK)))) (qG (qU d4)) qQ) (qF (qR xv (pG O (ee gq (ee gq (ee gq (ee gq (ee gq (ee gq (ee gq nf))))))))) (qF (qV (fC (d7 (dn (dv (wn e (a1 xv)))) (d7 (dn (dv (wn b (a1 xv)))) (d7 (dn (dv (wn c (a1 xv)))) (ek (dn (dv (wn a (a1 xv))))))))) (qG (qU d4)) qQ) (qG (qU (wn d (a3 xv xv xv)))))))
abbrev kA:cV:=iD 54
def h8(self:FN):FS:=(di (eh (iN (mB (m2 (b2 gEq) (mV 1) (mC (D.int 0)))) (mB (m2 (b2 gEq) (mN (c9 2 da) (cX (mV 0) (cX (mC (D.int 3)) cY))) (mC (D.int 0))))) (dB (mN (c9 2 gz) (cX (mV 0) (cX (m2 (b2 gSub) (mN (c9 2 da) (cX (mV 0) (cX (mC (D.int 10)) cY))) (mC (D.int 1))) cY)))) hI)
  (di (dI (d6 1 [0,1] (mZ (cX (mN (c9 2 da) (cX (mV 0) (cX (mC (D.int 8)) cY))) cY)) (gN 0) eH (dV (mN (c9 2 self) (cX (mV 1) (cX (m2 (b2 gSub) (mV 2) (mC (D.int 1))) cY))))) (gN 2))
  (dB (m2 (b2 de) (et (cX (mN (b1 gTup) (cX (mV 2) cY)) (cX (mN (b1 gTup) (cX (mV 2) cY)) (cX (mV 2) cY)))) (mN (c9 2 da) (cX (mV 0) (cX (mC (D.int 3)) cY)))))))
def fW:Nat->FN
 |0=>λ_ _=>Y
 |n+1=>gC 3 (h8 (fW n))
def kC:FN:=fW 8
theorem rh {f:cJ}{fd:cU}(F:v8 K "_law_any" "_law_any" kA f fd)(hb:jP K fd ["_law_left_here","_law_deep"] [])(hm:mg "_law_any"=some (.ref f))(d:Own P w K mg base 2 "_law_odd" 2 gz)(a:Own P w K mg base 1 "_law_pick" 2 da){k:Nat}{self:FN}(hk:2<=k)(o_self:Own P w K mg base k "_law_any" 2 self):
  Own P w K mg base (k+1) "_law_any" 2 (gC 3 (h8 self)):=uL (n:=2) (N:=["_law_left_here","_law_deep","_law_some"]) (ps:=["_law_left_here","_law_deep"]) (b:=h8 self) F hb hm sk O λg A c s H E e=>
 (qF (qV (fC (d7 (ct (oq h9) xv qK) (ek (ct (oq h9) (wn a (a2 xv qK)) qK)))) (qG (qU (wn d (a2 xv (qI ke (wn a (a2 xv qK)) qK))))) qQ) (qF (iC 2 O (T:=["_law_turn"]) (keep:=[0,1]) ⟨O,by decide+kernel,(kc "_law_left_here" (kc "_law_deep" (ci _)))⟩ O (ir (a1 (wn a (a2 xv qK)))) (λ_ _ _=>⟨gq,dY,(qH o_self e (nR1 _) O (a2 xv (qI ke xv qK)))⟩) (jC O) O (by first|exact Or.inl rfl|exact Or.inr rfl)) (qG (qU (jq (dw (a3 (cz gr (a1 xv)) (cz gr (a1 xv)) xv)) (wn a (a2 xv qK)))))))
theorem rM {f:cJ}(F:dG K "_law_any" kA f)(a:Own P w K mg base 2 "_law_odd" 2 gz)(d:Own P w K mg base 1 "_law_pick" 2 da):Own P w K mg base 11 "_law_any" 2 kC:=by
 have c:=wM1 X G F.ns;obtain⟨fd,F⟩:=F.fn;have b:=F.binds (ps:=["_law_left_here","_law_deep"]) (λ_ _ _ _ _ _ h g=>Kb g λ_ _=>rfl);have e:∀j:Nat,Own P w K mg base (3+j) "_law_any" 2 (fW j):=λj=>by
  induction j with
  |zero=>exact yK F b c
  |succ j ih=>exact rh X G B F b c a d (show 2<=3+j by omega) ih
 exact e 8
abbrev rk:cV:=iD 56
def va:FS:=(di (dI (mN (c9 1 gL) (cX (mV 3) cY)) (gN 5))
  (eh (iN (eu (mTr (d8 .bool (mV 5)))) (mB (m2 (b2 gNe) (mV 5) (mN (c9 1 eL) (cX (mV 3) cY))))) (dB (mC (D.bl J))) hI))
def pY:FS:=(ga (mZ (cX (mC (D.int 2)) cY)) (gN 4) va)
def pX:FS:=(di (dI (mN (c9 2 fY) (cX (mV 0) (cX (mV 1) cY))) (gN 2))
  (ga (gb (m2 (b2 dS) (mN (c9 2 fP) (cX (mV 2) (cX (mN (c9 2 fO) (cX (mV 2) (cX (mC (D.int 4)) cY))) cY))) (d6 1 [2] (mZ (cX (mC (D.int 6)) cY)) (gN 0) eH (dV (mN (c9 2 kC) (cX (mV 1) (cX (mC (D.int 3)) cY))))))) (gN 3) pY))
def u9:FS:=(oX [M,M,J,J,J,J] [M,J,J,J,J,J] pX)
def AA:FS:=(di (ga (mZ (cX (mN (b2 sr) (cX (mC (D.int 1)) (cX (mN (b2 wN) (cX (mC (D.int 4)) (cX (mN (b1 dX) (cX (mV 0) cY)) cY))) cY))) cY)) (gN 1) u9)
  (dB (mC (D.bl M))))
def m_law:FN:=gC 6 AA
theorem FB {f:cJ}{fd:cU}(F:v8 K "law" "law" rk f fd)(c:Own P w K mg base 11 "_law_any" 2 kC)(i:Own P w K mg base 2 "_law_around" 2 fP)(h:Own P w K mg base 4 "_law_errand" 2 fO)(g:Own P w K mg base 4 "_law_is_errand" 1 eL)(d:Own P w K mg base 2 "_law_left" 2 fY)(e:Own P w K mg base 7 "is_errand" 1 gL):
  lY P w K mg base sT 12 f fd ["_law_script"] (spM K 1 m_law):=Eb (k:=11) (n:=1) (N:=["_law_script","_law_k","_law_left_here","_law_thing","_law_asking","_law_found"]) (ps:=["_law_script"]) (b:=AA) F sk O λj A a s H E l=>
 (qF (fo (ir (a1 (cn (As O) (a2 qK (cn (DX O) (a2 qK (cn eb (a1 xv)))))))) gq (v9 [M,M,J,J,J,J] [M,J,J,J,J,J] (qF (sq (wn d (a2 xv xv))) (qG (fo (qd (qI dN (wn i (a2 xv (wn h (a2 xv qK)))) (fk ["_law_turn"] (ir (a1 qK)) ⟨gq,dY,(wn c (a2 xv qK))⟩))) gq (qG (fo (ir (a1 qK)) gq (qF (sq (wn e (a1 xv))) (qG (qV (fC (d7 (dn (dv (ii xv))) (ek (ct (oq tZ) xv (wn g (a1 xv)))))) (qG (qU d4)) qQ)))))))))) (qG (qU d4)))
end
theorem all_mk {l:PySem.W.OpenLaw}{w:cN}{K:Fg1}{h:cT}{mg:Str->Option cH}{fa f1 f2 f3 f4 f5 f6 f7 f8 f9 f10 f11 ao f13 f14 f15 f16 T f18 E f20 I N f23 f24 f25 f26 f27 f28 f29 f30 f31 f32 f33 f34 f35 f36 f37 f38 f39 f40 f41:cJ}(X:K.In h)(G:h.Ns cO mg)(hfa:mg "law"=some (.ref fa))
  {g1 d p j n t:cJ}
  {t2 t3 t4 t5 t6 t7 t8 t9 t10 am t14 t16 t17 t19 t20 t22 t23 t24:Tok}
  {od1 f r c k x:Option cJ} {n1 n12 V n18 n21 n11:Nat} {F o g q i m:Array (Option cH)}
  (a1:dG K "is_whole" nl f1)
  (a2:dG K "is_tuple_of" j4 f2)
  (a3:dG K "is_rising" l0 f3)
  (a4:dG K "is_eye" rm f4)
  (a5:dG K "is_hand" oQ f5)
  (a6:dG K "ways" yc f6)
  (a7:dG K "is_paired" l5 f7)
  (a8:dG K "_law_cell_at" jz f8)
  (a9:dG K "_law_pick" md f9)
  (a10:dG K "_law_row_of_rooms" g6 f10)
  (a11:dG K "_law_between" jA f11)
  (a12:dG K "_law_words_of" i8 ao)
  (a13:dG K "is_below" np f13)
  (a14:dG K "are_eyes" nr f14)
  (a15:dG K "is_room" oP f15)
  (a16:dG K "leads_back" kT f16)
  (a17:dG K "hangs_together" iG T)
  (a18:dG K "are_hands" ma f18)
  (a19:dG K "_law_left" me E)
  (a20:dG K "_law_web_of" j6 f20)
  (a21:dG K "_law_standing" i9 I)
  (a22:dG K "_law_chosen" kb N)
  (a23:dG K "_law_odd" nu f23)
  (a24:dG K "_law_rising" j7 f24)
  (a25:dG K "_law_is_web" j8 f25)
  (a26:dG K "_law_around" kd f26)
  (H:dG K "are_rooms" l9 f27)
  (a28:dG K "has_form" nq f28)
  (W:dG K "are_steps" l8 f29)
  (a30:dG K "are_bounds" kW f30)
  (a31:dG K "_law_web" nt f31)
  (a32:dG K "_law_is_field" ja f32)
  (a33:dG K "is_standing" j5 f33)
  (wq:dG K "is_web" rl f34)
  (a35:dG K "_law_errand" j9 f35)
  (a36:dG K "_law_is_errand" iH f36)
  (aq:dG K "is_field" no f37)
  (a38:dG K "are_fields" kU f38)
  (a39:dG K "is_errand" l7 f39)
  (a40:dG K "_law_any" kA f40)
  (u:dG K "law" rk f41)
  (e_HANDS:wN1 K cO "HANDS"=Z (Z (Value.ref g1)))
  (h1:K.lookup g1=Z ⟨.type "tuple",od1,.seq ([(Value.str "leave" t2),(Value.str "mark" t3),(Value.str "wipe" t4)]:List cH).toArray n1,F⟩)
  (e_MOST_BEATS:wN1 K cO "MOST_BEATS"=Z (Z (Value.int (40) t5)))
  (e_MOST_CHALK:wN1 K cO "MOST_CHALK"=Z (Z (Value.int (8) t6)))
  (e_MOST_DOORS:wN1 K cO "MOST_DOORS"=Z (Z (Value.int (4) t7)))
  (e_MOST_FIELDS:wN1 K cO "MOST_FIELDS"=Z (Z (Value.int (6) t8)))
  (e_MOST_MOODS:wN1 K cO "MOST_MOODS"=Z (Z (Value.int (3) t9)))
  (e_MOST_ROOMS:wN1 K cO "MOST_ROOMS"=Z (Z (Value.int (8) t10)))
  (e_PARTS:wN1 K cO "PARTS"=Z (Z (Value.ref d)))
  (h11:K.lookup d=Z ⟨.type "tuple",x,.seq ([(Value.ref p),(Value.ref j),(Value.ref n),(Value.ref t)]:List cH).toArray n11,m⟩)
  (h12:K.lookup p=Z ⟨.type "tuple",f,.seq ([(Value.str "came" am),(Value.int (5) t14)]:List cH).toArray n12,o⟩)
  (h15:K.lookup j=Z ⟨.type "tuple",r,.seq ([(Value.str "chalk" t16),(Value.int (2) t17)]:List cH).toArray V,g⟩)
  (h18:K.lookup n=Z ⟨.type "tuple",c,.seq ([(Value.str "doors" t19),(Value.int (5) t20)]:List cH).toArray n18,q⟩)
  (h21:K.lookup t=Z ⟨.type "tuple",k,.seq ([(Value.str "others" t22),(Value.int (2) t23)]:List cH).toArray n21,i⟩)
  (e_STEPS:wN1 K cO "STEPS"=Z (Z (Value.int (4) t24)))
  (z:Ja K BL):∃fd:cU,(∀(s:cI) (v:cH),BindsTo s fd ⟨[v],[]⟩ [("_law_script",v)]) /\ ∀base:cT,K.In base->base.Ns cO mg->lY l.prog w K mg base sT 12 fa fd ["_law_script"] (spM K 1 m_law):=by
 have e:=hfa.symm.trans (wM1 X G u.ns);cases e;have B:Blt BL mg:=z.blt X G;have c1:CGl K mg "HANDS" m7:=i6 (wM1 X G e_HANDS) (lS h1 (by show 3<=cQ;decide) (eO kH (eO kH (eO kH jW))));have c5:CGl K mg "MOST_BEATS" hH:=i6 (wM1 X G e_MOST_BEATS) hZ;have c6:CGl K mg "MOST_CHALK" hE:=i6 (wM1 X G e_MOST_CHALK) hZ;have c2:CGl K mg "MOST_DOORS" fB:=i6 (wM1 X G e_MOST_DOORS) hZ;have c8:CGl K mg "MOST_FIELDS" gF:=i6 (wM1 X G e_MOST_FIELDS) hZ;have c7:CGl K mg "MOST_MOODS" hD:=i6 (wM1 X G e_MOST_MOODS) hZ;have c3:CGl K mg "MOST_ROOMS" fh:=i6 (wM1 X G e_MOST_ROOMS) hZ;have c0:CGl K mg "PARTS" m6:=i6 (wM1 X G e_PARTS) (lS h11 (by show 4<=cQ;decide) (eO (lS h12 (by show 2<=cQ;decide) (eO kH (eO hZ jW))) (eO (lS h15 (by show 2<=cQ;decide) (eO kH (eO hZ jW))) (eO (lS h18 (by show 2<=cQ;decide) (eO kH (eO hZ jW))) (eO (lS h21 (by show 2<=cQ;decide) (eO kH (eO hZ jW))) jW)))));have c4:CGl K mg "STEPS" m5:=i6 (wM1 X G e_STEPS) hZ;obtain⟨_,⟨⟨_,_,kV,dc,pm,an,cd,ct,_,rfl,lL,cL⟩,kL⟩⟩:=u.fn;refine⟨wF1 "law" "law" (iu rk) (fg rk) (dA rk) .none kV dc pm an cd ct,λs v=>.of_eq O,λbase _ _=>?_⟩;have o0:=rD (P:=l.prog) (w:=w) (base:=base) X G B a1;have y:=nz (P:=l.prog) (w:=w) (base:=base) X G B a2;have A:=pZ (P:=l.prog) (w:=w) (base:=base) X G B a3;have o1:=ww (P:=l.prog) (w:=w) (base:=base) X G B a4 c0;have o6:=tX (P:=l.prog) (w:=w) (base:=base) X G B a5 c1;have o5:=BV (P:=l.prog) (w:=w) (base:=base) X G B a6;have o4:=p0 (P:=l.prog) (w:=w) (base:=base) X G B a7;have o7:=mG (P:=l.prog) (w:=w) (base:=base) X G B a8;have a:=p8 (P:=l.prog) (w:=w) (base:=base) X G B a9;have o12:=jB (P:=l.prog) (w:=w) (base:=base) X G B a10;have o9:=mH (P:=l.prog) (w:=w) (base:=base) X G B a11;have o24:=lD (P:=l.prog) (w:=w) (base:=base) X G B a12;have b:=rG X G B a13 o0;have D:=rJ X G B a14 o1 A;have o11:=tW X G B a15 c2 y o0;have o19:=oE X G B a16 o4;have Q:=k3 X G B a17 o5;have R:=p7 X G B a18 o6 A;have o38:=p9 X G B a19 o7;have ar:=nB X G B a20 a;have o21:=lE X G B a21 a;have o20:=nF X G B a22 a;have o33:=rL X G B a23 a;have o15:=nC X G B a24 o9;have S:=nD X G B a25 o9;have o35:=nG X G B a26 a;have o16:=p6 X G B H b A;have L:=rH X G B a28 c3 o11;have o32:=p5 X G B W c4 b A;have o28:=oG X G B a30 c5 c6 c7 b;have C:=rK X G B a31 a o12 ar;have o23:=lF X G B a32 S o15;have o25:=nA X G B a33 o16 y;have o26:=wv X G B wq Q L o19;have o36:=nE X G B a35 o20 a o21 C;have o37:=k4 X G B a36 o9 o23 o24;have U:=rF X G B aq o25 y o26;have o30:=oF X G B a38 c8 U;have o39:=p4 X G B a39 o28 D o30 R o32 y;have o34:=rM X G B a40 o33 a;exact FB (P:=l.prog) (w:=w) (base:=base) X G B (zQ lL cL kL) o34 o35 o36 o37 o38 o39
def hnd(g m c:Int):Ob:=.lst [.int g,.int m,.int c]
def zb(m c:Int):Int:=(m*48271+12345+7919*c)%2147483647
def FZ(m:Int):Int:=m*m%1999999973/31
theorem IU{a b c:D}:pE [a,b,c] 0=Z a:=by rfl
theorem Km{a b c:D}:pE [a,b,c] 1=Z b:=by rfl
theorem Kl{a b c:D}:pE [a,b,c] 2=Z c:=by rfl
theorem Es{T:Sto}{g m c k:Int}(hg:0<g)(hk:0<k)(a:k<1073741824):
  da [.ref 0,.int k] (hnd g m c::T)=Z (.int (g%k),hnd (g/k) m c::T):=by
 simp[da,gC,iX,jL,di,eh,mB,m2,b2,fA,mV,mC,de,mK,xi,dj,hnd,hg,hk,a,dI,gN,jZ,wP,gS,b3,fR,jH,jI,dB,IU,sX]
theorem Er{T:Sto}{g m c k:Int}(hg:¬ 0<g)(hk:0<k)(a:k<1073741824)(b:0<=m)(hm:m<2147483647)(hc:0<=c)(d:c<2^60):
  da [.ref 0,.int k] (hnd g m c::T)=Z (.int (FZ (zb m (c+1))%k),hnd g (zb m (c+1)) (c+1)::T):=by
 have f:gh m 48271=M:=vn (by decide) (by decide);have h:gh 7919 (c+1)=M:=yY (by decide) (by decide);have q:=Int.emod_lt_of_pos (m*48271+12345+7919*(c+1)) (show(0:Int)<2147483647 by decide);have i:=Int.emod_nonneg (m*48271+12345+7919*(c+1)) (show(2147483647:Int)≠0 by decide);have e:gh ((m*48271+12345+7919*(c+1))%2147483647) ((m*48271+12345+7919*(c+1))%2147483647)=M:=yY (by omega) (by omega);simp[da,gC,iX,jL,di,eh,mB,m2,b2,fA,mV,mC,de,mK,xi,dj,hnd,hg,hk,a,dI,gN,jZ,wP,gS,b3,fR,jH,jI,dB,IU,Km,Kl,sX,hI,dS,gB,f,h,e,zb,FZ]
def Hnd(o:Ob)(n:Nat):Prop:=∃g m c:Int,o=hnd g m c/\0<=m/\m<2147483647/\0<=c/\c<=n
theorem Hnd.und{o:Ob}{n k:Nat}(h:Hnd o n):o.und k=M:=by
 obtain⟨g,m,c,rfl,_⟩:=h;rfl
theorem Hnd.more{o:Ob}{n k:Nat}(h:Hnd o n)(hk:n<=k):Hnd o k:=by
 obtain⟨g,m,c,e,a,h1,h2,b⟩:=h;exact⟨g,m,c,e,a,h1,h2,by omega⟩
def d5(S:Sto):Prop:=S.all (Ob.und S.length)=M
theorem Dj{p:Ob->Bool}{S:Sto}{i:Nat}{o:Ob}(h:S.all p=M)(ho:p o=M):(S.set i o).all p=M:=by
 rw[bA]at h ⊢;intro x a;rcases List.mem_or_eq_of_mem_set a with h1|h1
 ·exact h x h1
 ·rw[h1];exact ho
structure HZ (n:Nat)(B U:Sto):Prop where
 pos:0<B.length
 len:B.length<=U.length
 same:∀i,0<i->i<B.length->U[i]?=B[i]?
 hand:∃o,U[0]?=some o/\Hnd o n
 shut:d5 U
theorem HZ.more{n k:Nat}{B U:Sto}(s:HZ n B U)(h:n<=k):HZ k B U:=by
 obtain⟨o,e,a⟩:=s.hand;exact⟨s.pos,s.len,s.same,⟨o,e,a.more h⟩,s.shut⟩
theorem HZ.self{n:Nat}{B U:Sto}(s:HZ n B U):HZ n U U:=⟨nL1 s.pos s.len,nR1 _,λ_ _ _=>rfl,s.hand,s.shut⟩
theorem HZ.trans{n n':Nat}{B U V:Sto}(a:HZ n B U)(b:HZ n' U V):HZ n' B V:=
 ⟨a.pos,aB a.len b.len,λi h1 hi=>(b.same i h1 (nL1 hi a.len)).trans (a.same i h1 hi),b.hand,b.shut⟩
theorem HZ.at{n:Nat}{B U:Sto}(s:HZ n B U){i:Nat}{o:Ob}(e:B[i]?=Z o)(h1:0<i):U[i]?=Z o:=by
 rw[s.same i h1 (gE1.mp e).1];exact e
theorem gI{U:Sto}{G:Sto}(s:d5 U)(hg:∀o∈G,o.und (U++G).length=M):d5 (U++G):=by
 unfold d5 at *
 rw[List.all_append,bA1];rw[bA]at s;refine⟨bA.mpr λo a=>nH (by rw[lA1];omega) (s o a),bA.mpr hg⟩
theorem rj{U:Sto}{i:Nat}{o:Ob}(s:d5 U)(ho:o.und U.length=M):d5 (U.set i o):=by
 unfold d5 at *
 rw[aS];exact Dj s ho
theorem HZ.app{n:Nat}{B U G:Sto}(s:HZ n B U)(hg:∀o∈G,o.und (U++G).length=M):HZ n B (U++G):=by
 obtain⟨o,e,a⟩:=s.hand;refine⟨s.pos,by rw[lA1];have:=s.len;omega,λi h1 hi=>?_,⟨o,?_,a⟩,gI s.shut hg⟩
 ·rw[gL1 (by have:=s.len;omega)];exact s.same i h1 hi
 ·rw[gL1 (gE1.mp e).1];exact e
theorem HZ.set{n i:Nat}{B U:Sto}{o:Ob}(s:HZ n B U)(hi:B.length<=i)(ho:o.und U.length=M):HZ n B (U.set i o):=by
 obtain⟨o',e,b⟩:=s.hand;have h1:=s.pos;refine⟨s.pos,by rw[aS];exact s.len,λj a c=>?_,⟨o',?_,b⟩,rj s.shut ho⟩
 ·rw[gS1 (by omega)];exact s.same j a c
 ·rw[gS1 (by omega)];exact e
theorem eU{n:Nat}{B U:Sto}{k:Int}{Q:D×Sto->Prop}(s:HZ n B U)(hn:n<=2^50)(hk:0<k)(a:k<1073741824)(q:∀(d:Nat) U',HZ (n+1) B U'->HZ (n+1) U U'->U'.length=U.length->(d:Int)<k->Q (.int d,U')):W (c9 2 da [.ref 0,.int k] U) Q:=by
 obtain⟨o,e,p⟩:=s.hand;obtain⟨g,m,c,rfl,f,m1,j,h1⟩:=p;obtain⟨T,rfl⟩:∃T,U=hnd g m c::T:=by
  cases U with
  |nil=>simp at e
  |cons x T=>simp at e;subst e;exact⟨T,O⟩
 have call:∀d o',da [.ref 0,.int k] (hnd g m c::T)=Z (d,o'::T)->c9 2 da [.ref 0,.int k] (hnd g m c::T)=Z (d,o'::T):=λd o e=>w6 e O (by simp[D.unds,D.und]) (by simp);have up:∀o',Hnd o' (n+1)->HZ (n+1) (hnd g m c::T) (o'::T):=λo' h=>by
  refine⟨by simp,by simp,λi h1 _=>?_,⟨o',O,h⟩,?_⟩
  ·cases i with
   |zero=>omega
   |succ i=>rfl
  ·exact rj (i:=0) s.shut h.und
 by_cases l:0<g
 ·have b:=Int.emod_nonneg g (show k≠0 by omega);obtain⟨d,e⟩:=Int.eq_ofNat_of_zero_le b;refine⟨_,call _ _ (Es l hk a),?_⟩;rw[e];have u:=up (hnd (g/k) m c) ⟨_,_,_,O,f,m1,j,by omega⟩;exact q d _ (s.trans u) u (by simp) (by rw[<- e];exact Int.emod_lt_of_pos _ hk)
 ·have b:=Int.emod_nonneg (FZ (zb m (c+1))) (show k≠0 by omega);obtain⟨d,e⟩:=Int.eq_ofNat_of_zero_le b;refine⟨_,call _ _ (Er l hk a f m1 j (by omega)),?_⟩;rw[e];have u:=up (hnd g (zb m (c+1)) (c+1)) ⟨_,_,_,O,Int.emod_nonneg _ (by decide),Int.emod_lt_of_pos _ (by decide),by omega,by push_cast;omega⟩;exact q d _ (s.trans u) u (by simp) (by rw[<- e];exact Int.emod_lt_of_pos _ hk)
theorem sJ{n c c':Nat}{f:FN}{ds:List D}{B U:Sto}{Q:D×Sto->Prop}(hn:ds.length=n)(l:D.unds 0 ds=J)(s:HZ c B U)(q:W (f ds U) λp=>HZ c' U p.2/\p.1.und 0=M /\ ∀b,HZ c' B b->HZ c' U b->b.length=U.length->Q (p.1,b)):W (c9 n f ds U) Q:=by
 refine sI hn l (q.mono ?_);rintro⟨d,V⟩ ⟨v,g,q⟩;dsimp only at v g q;have t:=v.len;have r:=s.len;have k:=v.pos;obtain⟨o,e,h⟩:=v.hand;have tl:(V.take U.length).length=U.length:=by rw[aO];omega
 have get:∀i,i<U.length->(V.take U.length)[i]?=V[i]?:=λi hi=>by rw[aQ hi]
 have sh:(V.take U.length).all (Ob.und U.length)=M:=by
  rw[bA];intro x m;obtain⟨i,hi⟩:=bt m;have a:i<U.length:=by have:=(gE1.mp hi).1;omega
  rw[get i a]at hi;by_cases z:i=0
  ·subst z;rw[e]at hi;cases hi;exact h.und
  ·rw[v.same i (by omega) a]at hi;have:=s.shut;unfold d5 at this;rw[bA]at this;exact this x (gM1 hi)
 have j:gc U.length (d,V)=(d,V.take U.length):=by
  unfold gc;dsimp only;rw[ak (by rw[ju g,sh];rfl)]
 rw[j];have u:HZ c' U (V.take U.length):=by
  refine⟨v.pos,by omega,λi h1 hi=>by rw[get i hi];exact v.same i h1 hi,⟨o,by rw[get 0 k];exact e,h⟩,?_⟩;unfold d5;rw[tl];exact sh
 exact q _ (s.trans u) u tl
abbrev dU:=List (List (Nat×Nat))
def dP(p:Nat×Nat):D:=.tup [.int p.1,.int p.2]
def dR(r:List (Nat×Nat)):D:=.tup (r.map dP)
def dW(w:dU):D:=.tup (w.map dR)
theorem ix_tup{xs:List D}{i:Nat}{d:D}{S:Sto}(h:xs[i]?=Z d):de (.tup xs) (.int i) S=Z (d,S):=by
 show xi (.tup xs) (.int i) S=Z (d,S);unfold xi dj;simp[Dg h]
theorem xE(n:Nat)(p:Nat×Nat):(dP p).und n=M:=rfl
theorem unds_map{α:Type}{f:α->D}{n:Nat}(h:∀x,(f x).und n=M):∀xs:List α,D.unds n (xs.map f)=M
 |[]=>rfl
 |x::xs=>by rw[mP1,D.unds,h x,unds_map h xs];rfl
theorem tG(n:Nat)(r:List (Nat×Nat)):(dR r).und n=M:=by unfold dR;rw[D.und];exact unds_map (xE n) r
theorem ky(n:Nat)(w:dU):(dW w).und n=M:=by unfold dW;rw[D.und];exact unds_map (tG n) w
theorem zt{w:dU}{S:Sto}:dX (dW w) S=Z (.int w.length,S):=by simp[dW,dX,dj]
def At(R:dU)(r d:Nat)(x:Nat×Nat):Prop:=∃row,R[r]?=Z row/\row[d]?=Z x
structure PU (b m:Nat)(P:List (Nat×Nat))(us:List Nat)(V:Sto):Prop where
 pr:V[b]?=some (.lst (P.map pD))
 ud:V[b+2]?=some (.lst (nmD us))
 ul:us.length=m
 lt:∀p∈P,p.1<m/\p.2<m
theorem PU.over{n b m:Nat}{P:List (Nat×Nat)}{us:List Nat}{U V:Sto}(p:PU b m P us U)(s:HZ n U V)(hb:0<b):PU b m P us V:=⟨s.at p.pr hb,s.at p.ud (by omega),p.ul,p.lt⟩
theorem W_mulL{n k:Nat}{x:D}{S:Sto}{Q:D×Sto->Prop}(h:S[n]?=Z (.lst [x]))(hk:k<=100)(q:Q (.ref S.length,S++[.lst (aM k x)])):W (im (.ref n) (.int k) S) Q:=by
 refine W.of ?_ q;simp only[im,h];rw[ak ⟨by omega,by omega,by rw[Int.toNat_natCast,aY];exact aB (by omega) (show 100<=cQ by decide)⟩,Int.toNat_natCast];have:(aM k [x]).flatten=aM k x:=by
  clear hk q
  induction k with
  |zero=>rfl
  |succ k ih=>rw[aT,aU,ih];rfl
 rw[this]
theorem qa{us:List Nat}{i v:Nat}:(nmD us).set i (.int (v:Nat))=nmD (us.set i v):=by
 unfold nmD;rw[List.map_set]
theorem jh{us:List Nat}{i:Nat}(h:i<us.length):(nmD us)[i]?=Z (.int (us[i]:Nat)):=by
 unfold nmD;rw[gP1,gG1 h];rfl
theorem PU.app{b m:Nat}{P:List (Nat×Nat)}{us:List Nat}{V G:Sto}(p:PU b m P us V):PU b m P us (V++G):=
 ⟨by rw[gL1 (gE1.mp p.pr).1];exact p.pr,by rw[gL1 (gE1.mp p.ud).1];exact p.ud,p.ul,p.lt⟩
theorem PU.setU{b m i v:Nat}{P:List (Nat×Nat)}{us:List Nat}{V:Sto}(p:PU b m P us V):PU b m P (us.set i v) (V.set (b+2) (.lst (nmD (us.set i v)))):=
 ⟨by rw[gS1 (by omega)];exact p.pr,aG (gE1.mp p.ud).1,by rw[aS];exact p.ul,p.lt⟩
theorem PU.push{b m:Nat}{P:List (Nat×Nat)}{us:List Nat}{V:Sto}{x:Nat×Nat}(p:PU b m P us V)(hx:x.1<m/\x.2<m):PU b m (P++[x]) us (V.set b (.lst ((P++[x]).map pD))):=
 ⟨aG (gE1.mp p.pr).1,by rw[gS1 (by omega)];exact p.ud,p.ul,λy a=>by
  rcases aE.mp a with z|z
  ·exact p.lt y z
  ·simp at z;subst z;exact hx⟩
theorem rZ{n:Nat}{P:List (Nat×Nat)}{x:Nat×Nat}{S:Sto}(h:S[n]?=Z (.lst ((P++[x]).map pD))):de (.ref n) (.int (-1)) S=Z (pD x,S):=by
 have a:pE ((P++[x]).map pD) (-1)=Z (pD x):=by rw[b9];exact L2.AB _ _
 simp only[de,h,mK,xi,fT h,oS1,a,oP1]
theorem tK:∀{us:List Nat} {i:Nat} (h:i<us.length),(us.set i (us[i]+1)).sum=us.sum+1
 |u::us,0,h=>by simp;lia
 |u::us,i+1,h=>by
  have:=tK (us:=us) (i:=i) (by simpa using h);simp only[cv,List.sum_cons,List.getElem_cons_succ];lia
theorem uW:∀{us:List Nat} {i:Nat},i<=us.length->(∀j (h:j<us.length),j<i->4<=us[j])->4*i<=us.sum
 |us,0,_,_=>by lia
 |[],i+1,hl,_=>by simp at hl
 |u::us,i+1,hl,h=>by
  have h1:=uW (us:=us) (i:=i) (by simpa using hl) λj a hi=>h (j+1) (by simpa using a) (by lia);have h2:4<=u:=h 0 (by simp) (by lia);rw[List.sum_cons];lia
theorem CQ{n b m i:Nat}{U V:Sto}{P:List (Nat×Nat)}{us:List Nat}{ao:Option D}{Q:Fl×Ev×Sto->Prop}(s:HZ n U V)(hb:U.length=b)(hn:n<=2^40)(p:PU b m P us V)(hi0:0<i)(hi:i<m)(hm:m<=8)(hP:P.length+1=i)(hs:us.sum=2*P.length)(q:∀B X j t,j<i->HZ (n+1) U B->PU b m (P++[(i,j)]) t B->t.sum=2*(P.length+1)->Q (.nx,[some (.ref 0),some (.int m),some (.ref b),some (.ref (b+2)),some (.int (i:Nat)),X,none,none,none,none,none,none,none,none,none,none,none],B)):
  W (gX [Z (.ref 0),Z (.int m),Z (.ref b),Z (.ref (b+2)),Z (.int (i:Nat)),ao,Y,Y,Y,Y,Y,Y,Y,Y,Y,Y,Y] V) Q:=by
 have am:=s.pos;have R:=s.len;have hul:=p.ul;obtain⟨aq,C,w⟩:∃j,j<i/\us.getD j 0<4:=by
  apply Classical.byContradiction;intro y;have:=uW (us:=us) (i:=i) (by lia) λj d E=>by
   apply Classical.byContradiction;intro h4;exact y ⟨j,E,by rw[bG,gG1 d];show us[j]<4;lia⟩
  lia
 have c:aq∈(af i).filter λj=>decide (us.getD j 0<4):=by
  rw[az];exact⟨aA.mpr C,ah w⟩
 have g:∀j∈(af i).filter (λj=>decide (us.getD j 0<4)),j<i:=λj d=>aA.mp (az.mp d).1;have A:((af i).filter λj=>decide (us.getD j 0<4)).length<=8:=by
  have:=cw (λj=>decide (us.getD j 0<4)) (af i);rw[cx]at this;lia
 unfold gX;refine eg (λr S=>S=V++[.lst (nmD ((af i).filter λj=>decide (us.getD j 0<4)))]/\r=[Z (.ref 0),Z (.int m),Z (.ref b),Z (.ref (b+2)),Z (.int (i:Nat)),Z (.ref V.length),Y,Y,Y,Y,Y,Y,Y,Y,Y,Y,Y]) ?_ ?_
 ·walk_at"w";refine⟨fw (by lia),?_⟩;rw[k9,Int.toNat_natCast];refine i5 (λj=>decide (us.getD j 0<4)) (λj:Nat=>D.int j) (λr=>∃x,r=[x,Z (.ref (b+2))]) O (af i) _ ⟨_,O⟩ ?_ ?_
  ·rintro j d r ⟨x,rfl⟩;have d:=aA.mp d;walk_at"w";refine gt (i:=j) p.ud (jh (by lia)) ?_;walk_at"w";refine⟨?_,⟨_,O⟩,λ_=>trivial⟩;rw[bG,gG1 (by lia),bL,al,al];show _↔us[j]<4;lia
  ·rintro r' _;have z:((af i).filter λj=>decide (us.getD j 0<4)).map (λj:Nat=>D.int (j:Int))=nmD ((af i).filter λj=>decide (us.getD j 0<4)):=rfl;rw[z];walk_at"w";exact⟨dg (by rw[eQ];lia),trivial⟩
 generalize (af i).filter (λj=>decide (us.getD j 0<4))=L at c A g;rintro r S ⟨rfl,rfl⟩;have N:0<L.length:=cy c;have s1:HZ n U (V++[.lst (nmD L)]):=s.app λo K=>by simp at K;subst K;rw[Ob.und];exact dH (fI _)
 have F:PU b m P us (V++[.lst (nmD L)]):=p.app;have G:(V++[Ob.lst (nmD L)])[V.length]?=Z (.lst (nmD L)):=by rw[db];rfl
 generalize V++[Ob.lst (nmD L)]=V1 at *
 refine eg (λr S=>∃j,j<i/\HZ (n+1) U S/\PU b m (P++[(i,j)]) us S/\r=[Z (.ref 0),Z (.int m),Z (.ref b),Z (.ref (b+2)),Z (.int (i:Nat)),Z (.ref V.length),Y,Y,Y,Y,Y,Y,Y,Y,Y,Y,Y]) ?_ ?_
 ·walk_at"w";refine ow ?_;walk_at"w";refine⟨b,P.map pD,O,F.pr,?_⟩;refine eI G ?_;walk_at"w";rw[eQ];refine eU s1 (by lia) (by lia) (by lia) λk V2 a I l hk=>?_;refine gt (i:=k) (I.at G (by lia)) (jh (by lia)) ?_;walk_at"w";have p2:=F.over I (by lia);have d:=g _ (bN (show k<L.length by lia));refine(sP p2.pr).mpr ⟨dg (by rw[lM1];lia),?_⟩;have u:=p2.push (x:=(i,L[k]'(by lia))) ⟨by lia,by show L[k]'(by lia)<m;lia⟩;have e:P.map pD++[D.tup [D.int (i:Nat),D.int (L[k]'(by lia):Nat)]]=(P++[(i,L[k]'(by lia))]).map pD:=by simp[pD]
  rw[e];exact⟨_,d,a.set (by lia) (by rw[Ob.und];exact Mi.unds_map λ_ _=>rfl),u,trivial⟩
 rintro r S ⟨j,d,s2,p2,rfl⟩;have f:j<us.length:=by lia
 have h:i<us.length:=by lia
 walk_at"w";refine gt (i:=i) p2.ud (jh h) ?_
 ((try walk_at"w");repeat(simp only[lO,rZ (P:=P) (x:=(i,j)) p2.pr];try walk_at"w"))
 refine v5 (i:=1) (x:=.int (j:Nat)) O ?_;refine gt (i:=j) p2.ud (jh f) ?_;walk_at"w";refine qC (i:=i) p2.ud (by rw[eQ];exact h) ?_;rw[show((us[i]:Int)+1)=((us[i]+1:Nat):Int) by push_cast;rfl,qa];have u:=p2.setU (i:=i) (v:=us[i]+1);have T:HZ (n+1) U (S.set (b+2) (.lst (nmD (us.set i (us[i]+1))))):=s2.set (by lia) (by rw[Ob.und];exact dH (fI _))
 ((try walk_at"w");repeat(simp only[lO,rZ (P:=P) (x:=(i,j)) u.pr];try walk_at"w"))
 refine v5 (i:=1) (x:=.int (j:Nat)) O ?_;refine qC (i:=j) u.ud (by rw[eQ,aS];exact f) ?_;rw[show((us[j]:Int)+1)=((us[j]+1:Nat):Int) by push_cast;rfl,qa];have wq:=u.setU (i:=j) (v:=us[j]+1);have ar:=T.set (i:=b+2) (o:=.lst (nmD ((us.set i (us[i]+1)).set j (us[j]+1)))) (by lia) (by rw[Ob.und];exact dH (fI _));refine q _ _ j _ d ar wq ?_;have z:(us.set i (us[i]+1))[j]'(by rw[aS];exact f)=us[j]:=List.getElem_set_ne (by lia) _;have H:=tK (us:=us.set i (us[i]+1)) (i:=j) (by rw[aS];exact f);rw[z]at H;rw[H,tK h];lia
theorem xt{c:FT}{b:FS}{Q:Fl×Ev×Sto->Prop}(I:Nat->Ev->Sto->Prop)(N:Nat)(step:∀k r S,I k r S->W (c r S) fun p=>if p.1=true then k<N/\W (b r p.2) fun q=>q.1 = .nx/\I (k+1) q.2.1 q.2.2 else Q (.nx,r,p.2)):
  ∀(fuel k:Nat) (r:Ev) (S:Sto),N-k<fuel->I k r S->W (wd c b fuel r S) Q
 |0,k,r,S,hf,_=>by lia
 |fuel+1,k,r,S,hf,hi=>by
  rw[wd];dsimp only;rw[dh];obtain⟨⟨t,m⟩,e,h⟩:=step k r S hi;refine⟨_,e,?_⟩;dsimp only at h ⊢;cases t with
  |true=>
   rw[ak O]at h ⊢;obtain⟨l,⟨f,g,j⟩,i,d,a⟩:=h;dsimp only at d a;subst d;rw[i,oS1];exact xt I N step fuel (k+1) g j (by lia) a
  |false=>
   rw[aj (by decide)]at h ⊢;exact dm.mpr h
theorem FY{n b m:Nat}{U V:Sto}{P:List (Nat×Nat)}{us:List Nat}{x4 u z G ao:Option D}{Q:Fl×Ev×Sto->Prop}(s:HZ n U V)(hb:U.length=b)(hn:n<=2^40)(p:PU b m P us V)(E:0<m)(hm:m<=8)(T:P.length<=50)(q:∀w A t H L,HZ (n+2) U w->PU b m A t w->A.length<=P.length+1->Q (.nx,[some (.ref 0),some (.int m),some (.ref b),some (.ref (b+2)),x4,u,z,H,L,none,none,none,none,none,none,none,none],w)):
  W (gW [Z (.ref 0),Z (.int m),Z (.ref b),Z (.ref (b+2)),x4,u,z,G,ao,Y,Y,Y,Y,Y,Y,Y,Y] V) Q:=by
 have B:=s.pos;have I:=s.len;unfold gW;refine eg (λr S=>∃i j:Nat,i<m/\j<m/\HZ (n+2) U S/\PU b m P us S/\r=[Z (.ref 0),Z (.int m),Z (.ref b),Z (.ref (b+2)),x4,u,z,Z (.int (i:Nat)),Z (.int (j:Nat)),Y,Y,Y,Y,Y,Y,Y,Y]) ?_ ?_
 ·walk_at"w";refine eU s (by omega) (by omega) (by omega) λi ar a K l hi=>?_;walk_at"w";refine eU a (by omega) (by omega) (by omega) λj R c F X k=>?_;walk_at"w";exact⟨i,j,by omega,by omega,c,(p.over K (by omega)).over F (by omega),O⟩
 rintro r S ⟨i,j,hi,k,C,d,rfl⟩;have g:i<us.length:=by rw[d.ul];exact hi
 have h:j<us.length:=by rw[d.ul];exact k
 walk_at"w";refine gt (i:=i) d.ud (jh g) ?_;refine gt (i:=j) d.ud (jh h) ?_;have p2:=d.push (x:=(i,j)) ⟨hi,k⟩;have N:HZ (n+2) U (S.set b (.lst ((P++[(i,j)]).map pD))):=C.set (by omega) (by rw[Ob.und];exact Mi.unds_map λ_ _=>rfl);have y:=p2.setU (i:=i) (v:=us[i]+1);have am:=N.set (i:=b+2) (o:=.lst (nmD (us.set i (us[i]+1)))) (by omega) (by rw[Ob.und];exact dH (fI _));have f:j<(us.set i (us[i]+1)).length:=by rw[aS];exact h
 have e:P.map pD++[D.tup [D.int (i:Nat),D.int (j:Nat)]]=(P++[(i,j)]).map pD:=by simp[pD]
 ((try walk_at"w");repeat(simp only[sr];try walk_at"w"))
 split<;>split<;>split
 all_goals first
  |exact q _ _ _ _ _ C d (by omega)
  |skip
 all_goals
  refine ow ?_;walk_at"w";refine⟨b,P.map pD,O,d.pr,?_⟩;refine(sP d.pr).mpr ⟨dg (by rw[lM1];omega),?_⟩;rw[e];refine gt (i:=i) p2.ud (jh g) ?_;walk_at"w";refine qC (i:=i) p2.ud (by rw[eQ];exact g) ?_;rw[show((us[i]:Int)+1)=((us[i]+1:Nat):Int) by push_cast;rfl,qa];refine gt (i:=j) y.ud (jh f) ?_;walk_at"w";refine qC (i:=j) y.ud (by rw[eQ];exact f) ?_;rw[show(((us.set i (us[i]+1))[j]:Int)+1)=(((us.set i (us[i]+1))[j]+1:Nat):Int) by push_cast;rfl,qa];exact q _ _ _ _ _ (am.set (by omega) (by rw[Ob.und];exact dH (fI _))) y.setU (by simp)
structure EW (b m:Nat)(E:dU)(U:Sto):Prop where
 el:E.length=m
 row:∀(i:Nat) (row:List (Nat×Nat)),E[i]?=some row->U[b+i]?=some (mf row)
 ends:U[b+m]?=some (.lst (jX b m))
theorem EW.over{n b m:Nat}{E:dU}{U V:Sto}(e:EW b m E U)(s:HZ n U V)(hb:0<b):EW b m E V:=
 ⟨e.el,λi a c=>s.at (e.row i a c) (by omega),s.at e.ends (by omega)⟩
theorem EW.setRow{b m i:Nat}{E:dU}{U:Sto}{row:List (Nat×Nat)}(w:EW b m E U)(hi:i<m):EW b m (E.set i row) (U.set (b+i) (mf row)):=by
 have c:b+m<U.length:=(gE1.mp w.ends).1;refine⟨by rw[aS];exact w.el,λj a h=>?_,by rw[gS1 (by omega)];exact w.ends⟩;by_cases e:i=j
 ·subst e;rw[aG (by rw[w.el];exact hi)]at h;cases h;rw[aG (by omega)]
 ·rw[gS1 e]at h;rw[gS1 (by omega)];exact w.row j a h
theorem v7{b m i:Nat}{E:dU}{U:Sto}{Q:D×Sto->Prop}(w:EW b m E U)(hi:i<m)(q:Q (.ref (b+i),U)):W (de (.ref (b+m)) (.int i) U) Q:=
 gt (xs:=jX b m) (x:=.ref (b+i)) w.ends (mU hi) q
theorem W_ins{n k:Nat}{row:List (Nat×Nat)}{x:Nat×Nat}{S:Sto}{Q:D×Sto->Prop}(h:S[n]?=Z (mf row))(hk:k<=row.length)(a:row.length<1000)(q:Q (.non,S.set n (mf (row.take k++x::row.drop k)))):W (uo (.ref n) (.int (k:Nat)) (pD x) S) Q:=by
 refine W.of ?_ q;unfold mf at h ⊢;simp only[uo,h];have e:nU (row.map pD).length (k:Int)=k:=by
  unfold nU;rw[aj (by omega),Int.toNat_natCast,lM1];omega
 rw[ak ⟨by omega,by omega,by rw[lM1];exact bi a (by decide)⟩,e];rw[b9,mP1,List.map_take,List.map_drop]
theorem sw:∀{E:dU} {i k:Nat} {row:List (Nat×Nat)} {x:Nat×Nat},E[i]?=Z row->(E.set i (row.take k++x::row.drop k)).flatten.Perm (x::E.flatten)
 |[],i,_,_,_,h=>by simp at h
 |a::E,0,k,row,x,h=>by
  simp at h;subst h;rw[cu,aU,aU];have:(a.take k++x::a.drop k).Perm (x::a):=by
   have h1:=cc (l₁:=a.take k) (l₂:=a.drop k) (a:=x)
   rwa [cb]at h1
  exact(this.append_right E.flatten)
 |a::E,i+1,k,row,x,h=>by
  have:=sw (E:=E) (i:=i) (k:=k) (row:=row) (x:=x) (by simpa using h);rw[cv,aU,aU];exact(List.Perm.append_left a this).trans cc
structure MB (m:Nat)(E:dU)(i j:Nat):Prop where
 mem:∀x:Nat×Nat,x∈E.flatten↔x.2<=1/\(x.1<i\/(x.1=i/\x.2<j))
 le:∀row∈E,row.length<=2*i+j
theorem MB.ins{m i j a k:Nat}{E:dU}{row:List (Nat×Nat)}(b:MB m E i j)(ha:E[a]?=Z row)(e:j<=1):MB m (E.set a (row.take k++(i,j)::row.drop k)) i (j+1):=by
 refine⟨λx=>?_,λr c=>?_⟩
 ·rw[(sw ha).mem_iff,aD,b.mem x];obtain⟨d,x2⟩:=x;simp only[Prod.mk.injEq];omega
 ·rcases List.mem_or_eq_of_mem_set c with z|z
  ·have:=b.le r z;omega
  ·have:=b.le row (gM1 ha);rw[z,lA1,lC1,aO,List.length_drop];omega
theorem MB.next{m i:Nat}{E:dU}(b:MB m E i 2):MB m E (i+1) 0:=⟨λx=>by rw[b.mem x];omega,λr a=>by have:=b.le r a;omega⟩
theorem Fm{n b e m i:Nat}{U V:Sto}{P:List (Nat×Nat)}{E:dU}{x:Nat×Nat}{x4 u F y C B:Option D}{Q:Fl×Ev×Sto->Prop}(s:HZ n U V)(hb:U.length=b)(he:b+2<e)(hn:n<=2^40)(w:EW e m E V)(hp:V[b]? = some (.lst (P.map pD)))(l:MB m E i 0)(hx:x.1<m/\x.2<m)(hi:i<=50)(q:∀p H f,HZ (n+2) U p->EW e m H p->p[b]?=some (.lst (P.map pD))->MB m H (i+1) 0->Q (.nx,[some (.ref 0),some (.int m),some (.ref b),some (.ref (b+2)),x4,u,F,y,C,some (.ref (e+m)),some (.int (i:Nat)),some (pD x),f,none,none,none,none],p)):
  W (gU [Z (.ref 0),Z (.int m),Z (.ref b),Z (.ref (b+2)),x4,u,F,y,C,Z (.ref (e+m)),Z (.int (i:Nat)),Z (pD x),B,Y,Y,Y,Y] V) Q:=by
 have I:=s.pos;unfold gU;walk_at"w";refine⟨fw (n:=2) (by decide),?_⟩;refine fv (λj r V=>∃E f,j<=2/\HZ (n+j) U V/\EW e m E V/\V[b]?=Z (.lst (P.map pD))/\MB m E i j/\r=[Z (.ref 0),Z (.int m),Z (.ref b),Z (.ref (b+2)),x4,u,F,y,C,Z (.ref (e+m)),Z (.int (i:Nat)),Z (pD x),f,Y,Y,Y,Y]) (iL 0 (Int.toNat 2)) 0 _ _ ⟨E,_,by omega,s,w,hp,l,O⟩ (λ_ _ _ _=>rfl) ?_ ?_
 ·rintro j d A r V ⟨E,f,K,s,w,hp,l,rfl⟩;have g:=(gE1.mp A).1;rw [d0] at g;have t:d = .int (j:Nat):=by
   rw[k9,gP1,cf g]at A;exact(Option.some.inj A).symm
  subst t;rw[bI]at *
  have N:j<2:=g;have ao:=s.len;walk_at"w";unfold jc;obtain⟨a,h,v⟩:∃a:Nat,a<m/\[D.int (x.1:Nat),D.int (x.2:Nat)][j]?=some (.int (a:Nat)):=by
   rcases(show j=0\/j=1 by omega)with z|z
   ·subst z;exact⟨x.1,hx.1,O⟩
   ·subst z;exact⟨x.2,hx.2,O⟩
  obtain⟨row,c⟩:∃row,E[a]?=some row:=⟨_,gG1 (by rw[w.el];exact h)⟩;have L:=l.le row (gM1 c);have G:∀(S:Sto) (Q:D×Sto->Prop),Q (.int (a:Nat),S)->W (de (pD x) (.int (j:Nat)) S) Q:=λS Q q=>v5 (xs:=[D.int (x.1:Nat),D.int (x.2:Nat)]) v q;walk_at"w";refine ow ?_;walk_at"w";refine G _ _ ?_;refine v7 w h ?_;refine⟨e+a,row.map pD,O,w.row a row c,?_⟩;walk_at"w";refine G _ _ ?_;refine v7 w h ?_;walk_at"w";refine eI (xs:=row.map pD) (w.row a row c) ?_;walk_at"w";rw[lM1,show((row.length:Int)+1)=((row.length+1:Nat):Int) by push_cast;rfl];refine eU s (by omega) (by omega) (by omega) λk ar a1 o R T=>?_;have am:=w.over o (by omega);refine W_ins (x:=(i,j)) (am.row a row c) (by omega) (by omega) ?_;refine⟨E.set a (row.take k++(i,j)::row.drop k),_,by omega,a1.set (by omega) wo,am.setRow h,?_,l.ins c (by omega),O⟩;rw[gS1 (by omega)];exact o.at hp (by omega)
 ·rintro r V ⟨E,f,K,s,w,hp,l,rfl⟩;rw[d0]at *
  exact q V E _ (by simpa using s) w hp (by simpa using l.next)
theorem sO{m:FA}{r:Ev}{S:Sto}{Q:AO×Sto->Prop}{d:D}{S1:Sto}(h:m r S=Z ([d],S1))(q:sW S1 d λp=>Q (⟨z7 0 p.1,p.2⟩,S1)):W (vE m r S) Q:=by
 unfold vE;rw[h,oS1];dsimp only;rw[dh];exact W.mono (show W (dj S1 d) _ from q) λz w=>dm.mpr w
def Dp(d:D):Prop:=∃x,d=dP x
theorem Dp.und{d:D}{n:Nat}(h:Dp d):d.und n=M:=by obtain⟨x,rfl⟩:=h;rfl
def Ei:D->Nat×Nat
 | .tup [.int a,.int b]=>(a.toNat,b.toNat)
 |_=>(0,0)
theorem Dp.un{d:D}(h:Dp d):d=dP (Ei d):=by obtain⟨x,rfl⟩:=h;rfl
theorem HQ{C:D->Prop}{F:List (TK×D)}{k:TK}{v:D}(h:∀p∈F,C p.2)(hv:C v):∀p∈gQ F k v,C p.2:=by
 intro p a;unfold gQ at a;split at a
 ·obtain⟨q,b,rfl⟩:=bZ.mp a;split
  ·exact hv
  ·exact h q b
 ·rcases aE.mp a with z|z
  ·exact h p z
  ·simp at z;subst z;exact hv
theorem GQ{F:List (TK×D)}{n:Nat}(h:∀p∈F,p.2.und n=M):(dO F).und n=M:=by
 unfold dO;split
 ·rfl
 ·rw[Ob.und];exact Mi.unds_map λp a=>h p a
def xl(F:List (TK×D))(x:Nat×Nat):Prop:=∃v,dy F (xR x)=Z v
theorem xl.put{F:List (TK×D)}{x y:Nat×Nat}{v:D}(h:xl F x):xl (gQ F (xR y) v) x:=by
 unfold xl;rw[r6];split
 ·exact⟨_,O⟩
 ·exact h
theorem Gi{C:D->Prop}{F:List (TK×D)}{k:TK}{v:D}(h:∀p∈F,C p.2)(e:dy F k=Z v):C v:=by
 unfold dy at e;obtain⟨p,a,rfl⟩:=oM1.mp e;exact h p (List.mem_of_find?_eq_some a)
theorem EO{V:Sto}{pl k r:Nat}{F:List (TK×D)}{row:List (Nat×Nat)}{E I N ao w G am H B g j l K L:Option D}{Q:Fl×Ev×Sto->Prop}(hpl:pl<V.length)(hk:V[k]? = some (mf row))(o:k≠pl)(U:F.length+row.length<500)(P:∀p∈F,Dp p.2)(q:∀b e c,b.length<=F.length+row.length->(∀p∈b,Dp p.2)->(∀x,xl F x->xl b x)->(∀x∈row,xl b x) ->
   Q (.nx,[E,I,N,ao,Z (.int (r:Nat)),w,G,am,H,B,g,j,l,Z (.ref pl),Z (.ref k),e,c],V.set pl (dO b))):
  W (gR [E,I,N,ao,Z (.int (r:Nat)),w,G,am,H,B,g,j,l,Z (.ref pl),Z (.ref k),K,L] (V.set pl (dO F))) Q:=by
 unfold gR ga;rw[dh];refine sO (d:=.ref k) (S1:=V.set pl (dO F)) O ?_;refine eI (xs:=row.map pD) (by rw[gS1 o.symm];exact hk) ?_;refine fv (λi s S=>∃b e c,i<=row.length/\b.length<=F.length+i/\(∀p∈b,Dp p.2)/\S=V.set pl (dO b)/\s=[E,I,N,ao,Z (.int (r:Nat)),w,G,am,H,B,g,j,l,Z (.ref pl),Z (.ref k),e,c]/\(∀x,xl F x->xl b x)/\(∀d x,d<i->row[d]?=Z x->xl b x)) _ 0 _ _ ⟨F,_,_,by omega,by omega,P,O,O,λ_ h=>h,λd x h=>by omega⟩ ?_ ?_ ?_
 ·rintro i s S ⟨b,_,_,_,_,_,rfl,_⟩;exact hA (by rw[gS1 o.symm];exact hk)
 ·rintro i dd m s S ⟨b,u,A,hi,C,f,rfl,rfl,h1,h2⟩;dsimp only at m;rw[iq,gP1]at m;obtain⟨z,R,rfl⟩:=oM1.mp m;obtain⟨x,t,rfl⟩:=oM1.mp R;have T:=(gE1.mp t).1;rw[bI]at *
  walk_at"w";unfold jb;walk_at"w";refine G4 (F:=b) (by rw[aG hpl]) vA (by omega) ?_;refine⟨gQ b (xR x) (pD (r,i)),_,_,by omega,by have:=Bv (k:=xR x) (v:=pD (r,i)) (a:=b);omega,HQ f ⟨_,O⟩,by rw[List.set_set];rfl,O,λy n=>(h1 y n).put,λd y ar n=>?_⟩;by_cases z:d<i
  ·exact(h2 d y z n).put
  ·have:d=i:=by omega
   subst this;rw[t]at n;cases n;exact⟨_,by rw[r6,ak O]⟩
 ·rintro s S ⟨b,u,A,hi,C,f,rfl,rfl,h1,h2⟩;rw[ip,lM1,bI]at C h2;refine q b _ _ C f h1 λx t=>?_;obtain⟨d,m⟩:=bt t;exact h2 d x (gE1.mp m).1 m
theorem oS:∀(k n:Nat),jX n (k+1)=jX n k++[.ref (n+k)]
 |0,n=>rfl
 |k+1,n=>by
  rw[jX,oS k (n+1),jX,bm,show n+1+k=n+(k+1) by omega]
theorem yi{n k m:Nat}(h:n+k<=m):D.unds m (jX n k)=M:=by
 induction k generalizing n with
 |zero=>rfl
 |succ k ih=>rw[jX,D.unds,ih (by omega),D.und];simp;omega
theorem zV{U:Sto}{m:Nat}:EW U.length m (aM m []) (U++(aM m (.lst [])++[.lst (jX U.length m)])):=by
 refine⟨by simp,λi a h=>?_,?_⟩
 ·have hi:i<m:=by have:=(gE1.mp h).1;simpa using this
  rw[aP,ak hi]at h;cases h;rw[il,gL1 (by simpa using hi),aP,ak hi];rfl
 ·rw[il,gR1 (by simp)];simp
theorem zj{m:Nat}:MB m (aM m []) 0 0:=⟨λx=>by simp,λr a=>by rw[List.eq_of_mem_replicate a];simp⟩
theorem A5{n m:Nat}{B U:Sto}{Q:D×Sto->Prop}(s:HZ n B U)(hn:n<=2^39)(hm0:0<m)(hm8:m<=8)(q:∀w V,w.length=m->(∀row∈w,row.length<=40)->HZ (n+100) B V->HZ (n+100) U V->V.length=U.length->Q (dW w,V)):W (c9 2 fM [.ref 0,.int (m:Nat)] U) Q:=by
 have hpos:=s.pos;have hbl:=s.len;refine sJ (c':=n+100) O O s ?_;have s0:HZ n U U:=s.self;unfold fM;refine io ?_;unfold kl;generalize hb:U.length=b;refine eg (λr V=>HZ n U V/\PU b m [] (aM m 0) V/\r=[Z (.ref 0),Z (.int m),Z (.ref b),Z (.ref (b+2)),Y,Y,Y,Y,Y,Y,Y,Y,Y,Y,Y,Y,Y]) ?_ ?_
 ·walk_at"w";refine W_mulL (x:=.int 0) (by rw[hb];simp[<- hb]) (by omega) ?_;walk_at"w";have hl:(U++[Ob.lst [],Ob.lst [D.int 0],Ob.lst (aM m (D.int 0))]).length=b+3:=by simp[hb]
  have er:aM m (D.int 0)=nmD (aM m 0):=by unfold nmD;rw[List.map_replicate];rfl
  refine⟨s0.app λo ao=>?_,⟨?_,?_,by simp,λp hp=>by simp at hp⟩,?_⟩
  ·simp at ao;rcases ao with z|z|z<;>subst z
   ·rfl
   ·rfl
   ·rw[er,Ob.und];exact dH (fI _)
  ·rw[<- hb,db];rfl
  ·rw[<- hb,il,er];rfl
  ·simp[hb]
 rintro r V ⟨s1,p1,rfl⟩;refine eg (λr V=>∃P A x4 am,HZ (n+10) U V/\PU b m P A V/\P.length<=7/\r=[Z (.ref 0),Z (.int m),Z (.ref b),Z (.ref (b+2)),x4,am,Y,Y,Y,Y,Y,Y,Y,Y,Y,Y,Y]) ?_ ?_
 ·walk_at"w";refine⟨uA (by decide) (by decide),fw (by omega),?_⟩;rw[show((m:Int)-1).toNat=m-1 by omega];refine fv (λi r V=>∃P A x4 am,i<m/\HZ (n+i) U V/\PU b m P A V/\P.length=i/\A.sum=2*P.length/\r=[Z (.ref 0),Z (.int m),Z (.ref b),Z (.ref (b+2)),x4,am,Y,Y,Y,Y,Y,Y,Y,Y,Y,Y,Y]) _ 0 _ _ ⟨[],_,_,_,hm0,s1,p1,O,by simp,O⟩ (λ_ _ _ _=>rfl) ?_ ?_
  ·rintro i d hd r V ⟨P,A,x4,am,hi,ar,pV,hP,hs,rfl⟩;have wq:=(gE1.mp hd).1;rw[d0]at wq;rw[bI]at *
   have hd':d = .int ((i+1:Nat):Int):=by
    rw[(nK _ _ _ _ hd).2]
    congr 1
    omega
   subst hd';walk_at"w";refine CQ ar hb (by omega) pV (by omega) (by omega) hm8 (by omega) hs λV' y5 j us' hj a1 a2 a3=>?_;exact⟨O,_,us',_,_,by omega,a1,a2,by simp[hP],by rw[a3,lA1];rfl,O⟩
  ·rintro r V ⟨P,A,x4,am,hi,ar,pV,hP,hs,rfl⟩;rw[d0,bI]at *
   exact⟨O,P,A,_,_,ar.more (by omega),pV,by omega,O⟩
 rintro r V ⟨P,A,x4,am,s2,p2,hP,rfl⟩;refine eg (λr V=>∃P A T N R,HZ (n+20) U V/\PU b m P A V/\P.length<=10/\r=[Z (.ref 0),Z (.int m),Z (.ref b),Z (.ref (b+2)),x4,am,T,N,R,Y,Y,Y,Y,Y,Y,Y,Y]) ?_ ?_
 ·walk_at"w";refine eU s2 (by omega) (by omega) (by omega) λk V1 a1 a1' l1 hk=>?_;walk_at"w";refine⟨fw (by omega),?_⟩;rw[Int.toNat_natCast];refine fv (λi r V=>∃P A T N R,i<=k/\HZ (n+11+2*i) U V/\PU b m P A V/\P.length<=7+i/\r=[Z (.ref 0),Z (.int m),Z (.ref b),Z (.ref (b+2)),x4,am,T,N,R,Y,Y,Y,Y,Y,Y,Y,Y]) _ 0 _ _ ⟨P,A,_,_,_,by omega,a1,p2.over a1' (by omega),hP,O⟩ (λ_ _ _ _=>rfl) ?_ ?_
  ·rintro i d hd r V ⟨P,A,T,N,R,hi,ar,pV,hPl,rfl⟩;have wq:=(gE1.mp hd).1;rw[d0]at wq;rw[bI]at *
   walk_at"w";refine FY ar hb (by omega) pV hm0 (by omega) (by omega) λV' P' us' y7 y8 b1 b2 b3=>?_;exact⟨O,P',us',_,_,_,by omega,b1,b2,by omega,O⟩
  ·rintro r V ⟨P,A,T,N,R,hi,ar,pV,hPl,rfl⟩;rw[d0,bI]at *
   exact⟨O,P,A,_,_,_,ar.more (by omega),pV,by omega,O⟩
 rintro r V ⟨P,A,T,N,R,s3,p3,hP5,rfl⟩;have hVl:=s3.len;have hbV:b+2<V.length:=(gE1.mp p3.ud).1;refine eg (λr V'=>HZ (n+20) U V'/\EW V.length m (aM m []) V'/\V'[b]?=Z (.lst (P.map pD))/\r=[Z (.ref 0),Z (.int m),Z (.ref b),Z (.ref (b+2)),x4,am,T,N,R,Z (.ref (V.length+m)),Y,Y,Y,Y,Y,Y,Y]) ?_ ?_
 ·walk_at"w";refine⟨fw (by omega),?_⟩;rw[Int.toNat_natCast];refine ik (λi L r S=>L=jX V.length i/\S=V++aM i (.lst []) /\ ∃x,r=[x]) (iL 0 m) 0 [] _ _ ⟨O,by simp,_,O⟩ (λ_ _ _ _ _=>rfl) ?_ ?_
  ·rintro i d hd L r S ⟨rfl,rfl,x,rfl⟩;walk_at"w";rw[bI];refine⟨?_,?_,_,O⟩
   ·rw[oS,lR1]
   ·rw[List.replicate_succ']
  ·rintro xs r S ⟨e,rfl,_⟩;rw[a0,bI,d0]at e;subst e;rw[bI,d0];walk_at"w";rw[iJ];refine⟨dg (by omega),s3.app λo ao=>?_,zV,?_,?_⟩
   ·rcases aE.mp ao with z|z
    ·rw[List.eq_of_mem_replicate z];rfl
    ·simp at z;subst z;rw[Ob.und];exact yi (by simp)
   ·rw[gL1 (by omega)];exact p3.pr
   ·simp
 rintro r V1 ⟨s4,w4,hpr,rfl⟩;generalize he:V.length=e at *
 refine eg (λr V=>∃E h g t,HZ (n+40) U V/\EW e m E V/\MB m E P.length 0/\r=[Z (.ref 0),Z (.int m),Z (.ref b),Z (.ref (b+2)),x4,am,T,N,R,Z (.ref (e+m)),h,g,t,Y,Y,Y,Y]) ?_ ?_
 ·unfold ga;rw[dh];refine sO (d:=.ref b) (S1:=V1) O ?_;refine eI hpr ?_;refine fv (λi r V=>∃E h g t,i<=P.length/\HZ (n+20+2*i) U V/\EW e m E V/\V[b]?=Z (.lst (P.map pD))/\MB m E i 0/\r=[Z (.ref 0),Z (.int m),Z (.ref b),Z (.ref (b+2)),x4,am,T,N,R,Z (.ref (e+m)),h,g,t,Y,Y,Y,Y]) _ 0 _ _ ⟨_,_,_,_,by omega,s4,w4,hpr,zj,O⟩ ?_ ?_ ?_
  ·rintro i r V ⟨E,h,g,t,_,_,_,hp,_⟩;exact hA hp
  ·rintro i dd H r V ⟨E,h,g,t,hi,ar,wV,hpV,mbV,rfl⟩;dsimp only at H;rw[iq,gP1]at H;obtain⟨z,hz,rfl⟩:=oM1.mp H;obtain⟨x,aq,rfl⟩:=oM1.mp hz;have hilt:=(gE1.mp aq).1;rw[bI]at *
   walk_at"w";refine Fm ar hb (by omega) (by omega) wV hpV mbV (p3.lt x (gM1 aq)) (by omega) λV' E' y12 b1 b2 b3 b4=>?_;exact⟨O,E',_,_,_,by omega,b1,b2,b3,b4,O⟩
  ·rintro r V ⟨E,h,g,t,hi,ar,wV,hpV,mbV,rfl⟩;rw[ip,lM1,bI]at ar mbV;exact⟨O,E,_,_,_,ar.more (by omega),wV,mbV,O⟩
 rintro r C ⟨E,h,g,t,s5,X,mb,rfl⟩;have hVl2:=s5.len;have hel:e+m<C.length:=(gE1.mp X.ends).1;refine eg (λr V3=>V3=C++[.dct []]/\r=[Z (.ref 0),Z (.int m),Z (.ref b),Z (.ref (b+2)),x4,am,T,N,R,Z (.ref (e+m)),h,g,t,Z (.ref C.length),Y,Y,Y]) ?_ ?_
 ·((try walk_at"w");repeat(simp only[oZ];try walk_at"w"))
 rintro r V3 ⟨rfl,rfl⟩;generalize hV3:C++[Ob.dct []]=V3;have hpl:C.length<V3.length:=by rw[<- hV3];simp
 have s6:HZ (n+40) U V3:=by rw[<- hV3];exact s5.app λo ao=>by simp at ao;subst ao;rfl
 have low:∀(i:Nat) (o:Ob),C[i]?=Z o->V3[i]?=Z o:=λi o hi=>by rw[<- hV3,gL1 (gE1.mp hi).1];exact hi
 have hset0:V3=V3.set C.length (dO []):=by
  have:V3[C.length]?=Z (dO []):=by rw[<- hV3,List.getElem?_concat_length];rfl
  obtain⟨hl,aq⟩:=gE1.mp this;rw[<- aq,List.set_getElem_self]
 refine eg (λr V4=>∃F x4 x14 x15 x16,V4=V3.set C.length (dO F)/\(∀x∈E.flatten,xl F x)/\(∀p∈F,Dp p.2)/\r=[Z (.ref 0),Z (.int m),Z (.ref b),Z (.ref (b+2)),x4,am,T,N,R,Z (.ref (e+m)),h,g,t,Z (.ref C.length),x14,x15,x16]) ?_ ?_
 ·unfold ga;rw[dh];refine sO (d:=.ref (e+m)) (S1:=V3) O ?_;refine eI (low _ _ X.ends) ?_;refine fv (λi r V4=>∃F x4 x14 x15 x16,i<=m/\F.length<=20*i/\V4=V3.set C.length (dO F)/\(∀(j:Nat) (row:List (Nat×Nat)),j<i->E[j]?=Z row -> ∀x∈row,xl F x)/\(∀p∈F,Dp p.2)/\r=[Z (.ref 0),Z (.int m),Z (.ref b),Z (.ref (b+2)),x4,am,T,N,R,Z (.ref (e+m)),h,g,t,Z (.ref C.length),x14,x15,x16]) _ 0 _ _ ⟨[],_,_,_,_,by omega,by simp,hset0,λj row hj=>by omega,λp hp=>by simp at hp,O⟩ ?_ ?_ ?_
  ·rintro i r V4 ⟨F,_,_,_,_,_,_,rfl,_⟩;exact hA (by rw[gS1 (by omega)];exact low _ _ X.ends)
  ·rintro i dd H r V4 ⟨F,y4,y14,y15,y16,hi,hF,rfl,h1,hu,rfl⟩;dsimp only at H;rw[iq]at H;obtain⟨z,hz,rfl⟩:=oM1.mp H;have I:=(gE1.mp hz).1;rw[iJ]at I;rw[mU I]at hz;cases hz;rw[bI]at *
   obtain⟨row,f⟩:∃row,E[i]?=some row:=⟨_,gG1 (by rw[X.el];exact I)⟩;have hrl:=mb.le row (gM1 f);walk_at"w";refine EO (r:=i) hpl (low _ _ (X.row i row f)) (by omega) (by omega) hu λF' o15 o16 hl hu' hk hn'=>?_;refine⟨O,F',_,_,_,_,by omega,by omega,O,λj u hj hr' x aq=>?_,hu',O⟩;by_cases z:j<i
   ·exact hk x (h1 j u z hr' x aq)
   ·have:j=i:=by omega
    subst this;rw[f]at hr';cases hr';exact hn' x aq
  ·rintro r V4 ⟨F,y4,y14,y15,y16,hi,hF,rfl,h1,hu,rfl⟩;rw[ip,iJ,bI]at h1;refine⟨O,F,_,_,_,_,O,λx aq=>?_,hu,O⟩;obtain⟨row,hr1,hr2⟩:=List.mem_flatten.mp aq;obtain⟨j,hj⟩:=bt hr1;exact h1 j row (by rw[<- X.el];exact(gE1.mp hj).1) hj x hr2
 rintro r V4 ⟨F,y4,y14,y15,y16,rfl,hF,hu,rfl⟩;generalize hV4:V3.set C.length (dO F)=V4;have s7:HZ (n+40) U V4:=by rw[<- hV4];exact s6.set (by omega) (GQ λp hp=>(hu p hp).und)
 have K:∀(i:Nat) (o:Ob),C[i]?=Z o->V4[i]?=Z o:=λi o hi=>by
  rw[<- hV4,gS1 (by have:=(gE1.mp hi).1;omega)];exact low i o hi
 have hplc:V4[C.length]?=Z (dO F):=by rw[<- hV4,aG hpl]
 have hopp:∀x∈E.flatten,(x.1,1-x.2)∈E.flatten:=λx aq=>by
  have:=(mb.mem x).mp aq;exact(mb.mem _).mpr ⟨by simp,by rcases this.2 with z|z;exact .inl z;omega⟩
 walk_at"w";refine eI (S:=V4) (K _ _ X.ends) ?_;refine ik (λi L r S=>∃G x,S=V4++G/\(∀o∈G,o.und 0=M)/\r=[x,Z (.ref C.length)] /\ ∃w:dU,w.length=i/\L=w.map dR /\ ∀row∈w,row.length<=40) (jX e m) 0 [] _ _ ⟨[],Y,by simp,λo ao=>by simp at ao,O,[],O,O,λr hr=>by cases hr⟩ ?_ ?_ ?_
 ·rintro i L r S ⟨G,x,rfl,_⟩;exact hA (by rw[gL1 (gE1.mp (K _ _ X.ends)).1];exact K _ _ X.ends)
 ·rintro i d hd L r S ⟨G,x,rfl,hG,rfl,w,hwl,hwe,hwr⟩;have I:=(gE1.mp hd).1;rw[iJ]at I;rw[mU I]at hd;cases hd;obtain⟨row,f⟩:∃row,E[i]?=some row:=⟨_,gG1 (by rw[X.el];exact I)⟩;have hrl:=mb.le row (gM1 f);have hk2:=K _ _ (X.row i row f);have hk3:(V4++G)[e+i]?=Z (.lst (row.map pD)):=by rw[gL1 (gE1.mp hk2).1];exact hk2
  walk_at"w";refine eI hk3 ?_;refine nN (λx=>(dy F (xR (x.1,1-x.2))).getD .non) (λr=>∃x y,r=[x,y,Z (.ref C.length)]) (hA hk3) row _ ⟨_,_,O⟩ ?_ ?_
  ·rintro y hy r ⟨a,c,rfl⟩;have hyf:y∈E.flatten:=List.mem_flatten.mpr ⟨row,gM1 f,hy⟩;have hy2:=((mb.mem y).mp hyf).1;obtain⟨v,hv⟩:=hF _ (hopp y hyf);rw[pD];walk_at"w";rw[show((1:Int)-(y.2:Int))=((1-y.2:Nat):Int) by omega];refine G5 (F:=F) (k:=xR (y.1,1-y.2)) (by rw[gL1 (gE1.mp hplc).1];exact hplc) (vA (e:=(y.1,1-y.2))) hv ?_;exact⟨by rw[hv];rfl,O,_,_,O⟩
  ·rintro r' _;have erow:(row.map fun x=>(dy F (xR (x.1,1-x.2))).getD .non)=(row.map fun x=>Ei ((dy F (xR (x.1,1-x.2))).getD .non)).map dP:=by
    rw[bu];refine cj λy hy=>?_;obtain⟨v,hv⟩:=hF _ (hopp y (List.mem_flatten.mpr ⟨row,gM1 f,hy⟩));show _=dP (Ei ((dy F (xR (y.1,1-y.2))).getD .non));rw[hv];exact(Gi hu hv).un
   rw[erow];generalize hrow':(row.map λx=>Ei ((dy F (xR (x.1,1-x.2))).getD .non))=u;have hrl':u.length=row.length:=by rw[<- hrow',lM1]
   walk_at"w";refine⟨dg (by rw[lM1];omega),?_⟩;refine eI (xs:=u.map dP) (by rw[<- aW,<- lA1,db];rfl) ?_;refine⟨G++[Ob.lst (u.map dP)],_,O,λo ao=>?_,O,w++[u],by simp[hwl],by rw[hwe,b9];rfl,λr hr=>?_⟩
   ·rcases aE.mp ao with z|z
    ·exact hG o z
    ·simp at z;subst z;rw[Ob.und];exact unds_map (xE 0) _
   ·rcases aE.mp hr with z|z
    ·exact hwr r z
    ·simp at z;subst z;omega
 ·rintro xs r S ⟨G,x,rfl,hG,rfl,w,hwl,hwe,hwr⟩;rw[bI,iJ]at hwl;rw[a0]at hwe;subst hwe;walk_at"w";refine⟨dg (by rw[lM1];omega),?_⟩;refine eI (xs:=w.map dR) (by rw[<- aW,<- lA1,db];rfl) ?_;refine⟨(s7.app λo ao=>?_).more (by omega),ky 0 w,λU' a c l=>q w U' hwl hwr a c (by rw[l,hb])⟩;rcases aE.mp ao with z|z
  ·exact nH (bj _) (hG o z)
  ·simp at z;subst z;rw[Ob.und];exact unds_map (tG _) w
def Ky:D->List (Nat×Nat)
 | .tup xs=>xs.map Ei
 |_=>[]
def Jh:D->dU
 | .tup xs=>xs.map Ky
 |_=>[]
def Ie:D->Bool
 | .tup [.int a,.int b]=>decide (0<=a)&&decide (0<=b)
 |_=>J
def Ig(p:D->Bool):D->Bool
 | .tup xs=>xs.all p
 |_=>J
theorem FF{d:D}(h:Ie d=M):d=dP (Ei d):=by
 unfold Ie at h;split at h
 ·rename_i a b;rw[bA1,al,al]at h;simp only[Ei,dP];rw[Int.toNat_of_nonneg h.1,Int.toNat_of_nonneg h.2]
 ·cases h
theorem tY{α:Type}{p:D->Bool}{f:D->α}{g:α->D}(hp:∀x,p x=M->x=g (f x)):∀{xs:List D},xs.all p=M->xs=(xs.map f).map g
 |[],_=>rfl
 |x::xs,h=>by
  rw[bK,bA1]at h;rw[mP1,mP1,<- hp x h.1,<- tY hp h.2]
theorem FD{d:D}(h:Ig Ie d=M):d=dR (Ky d):=by
 cases d with
 |tup xs=>exact congrArg D.tup (tY (λ_=>FF) h)
 |_=>cases h
theorem FC{d:D}(h:Ig (Ig Ie) d=M):d=dW (Jh d):=by
 cases d with
 |tup xs=>exact congrArg D.tup (tY (λ_=>FD) h)
 |_=>cases h
def GR(o:Option (D×Sto))(m:Nat):Bool:=match o with
 |some (d,_)=>Ig (Ig Ie) d&&decide ((Jh d).length=m)&&(Jh d).all λr=>decide (r.length<=40)
 |_=>J
theorem C6{o:Option (D×Sto)}{m:Nat}(h:GR o m=M):∃w z,o=Z (dW w,z)/\w.length=m /\ ∀a∈w,a.length<=40:=by
 unfold GR at h;split at h
 ·rename_i d z;rw[bA1,bA1,al,bA]at h;obtain⟨⟨h1,h2⟩,c⟩:=h;exact⟨Jh d,z,by rw[<- FC h1],h2,λa b=>of_decide_eq_true (c a b)⟩
 ·cases h
theorem HG{m:Nat}{b:Bool}{S:Sto}{Q:D×Sto->Prop}(d:0<m)(hm:m<=8)(q:∀w,w.length=m->(∀c∈w,c.length<=40)->Q (dW w,S)):W (c9 2 eG [.int (m:Nat),.bl b] S) Q:=by
 have a:GR (eG [.int (m:Nat),.bl b] []) m=M:=by
  rcases(show m=1\/m=2\/m=3\/m=4\/m=5\/m=6\/m=7\/m=8 by omega)with z|z|z|z|z|z|z|z<;>subst z<;>cases b<;>kernel_rfl!
 obtain⟨w,z,e,h1,h2⟩:=C6 a;exact W.of (pu (n:=2) (S:=S) e O O (ky 0 w)) (q w h1 h2)
theorem Hl{n k:Nat}{B U:Sto}{Q:D×Sto->Prop}(s:HZ n B U)(hn:n<=2^38)(j:0<k)(h:k<=8)(q:∀w V,0<w.length->w.length<=8->(∀f∈w,f.length<=40)->HZ (n+110) B V->HZ (n+110) U V->V.length=U.length->Q (dW w,V)):W (c9 2 hX [.ref 0,.int (k:Nat)] U) Q:=by
 refine sJ (c':=n+110) O O s ?_;have i:=s.self;unfold hX;refine io ?_;unfold oo;refine eg (λr S=>∃w m:Nat,0<m/\m<=8/\HZ (n+2) U S/\r=[Z (.ref 0),Z (.int (k:Nat)),Z (.int (w:Nat)),Z (.int (m:Nat))]) ?_ ?_
 ·walk_at"w";refine eU i (by omega) (by decide) (by decide) λw u a1 _ _ p=>?_;walk_at"w";refine eU a1 (by omega) (by omega) (by omega) λk t a2 _ _ o=>?_;walk_at"w";exact⟨w,k+1,by omega,by omega,a2,by simp[Int.add_comm]⟩
 rintro r S ⟨w,m,c,d,g,rfl⟩;walk_at "own wl";split
 ·refine HG c d λw h1 h2=>?_;exact⟨g.more (by omega),ky 0 w,λe a b l=>q w e (by omega) (by omega) h2 a b l⟩
 ·refine A5 g (by omega) c d λw V h1 h2 a1 a2 l=>?_;exact⟨a1.more (by omega),ky 0 w,λe a b l=>q w e (by omega) (by omega) h2 a b l⟩
theorem LB{S:Sto}{n a b:Nat}:hB S (n+1) (.int (a:Nat)) (.int (b:Nat))=Z (decide (a=b)):=by
 show Z (((a:Int)) == ((b:Int)))=_
 congr 1
 rw[bL,beq_iff_eq,al];omega
theorem inL_nm{S:Sto}{n x:Nat}:∀R:List Nat,sm (hB S (n+1)) (.int (x:Nat)) (nmD R)=Z (R.contains x)
 |[]=>rfl
 |y::R=>by
  have ih:=inL_nm (S:=S) (n:=n) (x:=x) R;rw[nmD]at ih ⊢;rw[mP1,sm,LB,ih,List.contains_cons];have:(x == y)=decide (y=x):=by rw[bL,beq_iff_eq,al];exact eq_comm
  rw[this];rfl
theorem rR{S:Sto}{n x:Nat}{R:List Nat}(h:S[n]?=Z (.lst (nmD R))):gl (.int (x:Nat)) (.ref n) S=Z (.bl (!R.contains x),S):=by
 simp only[gl,h,i4,nV,fT h,oS1,dQ,show(60:Nat)=59+1 from rfl,inL_nm,oP1]
theorem sj:∀R:List Nat,pi (nmD R)=Z (R.map Int.ofNat)
 |[]=>rfl
 |x::R=>by
  have ih:=sj R;rw[nmD]at ih ⊢;rw[mP1,pi,ih];rfl
theorem nW:∀(m:Nat) (R:List Nat),R.length<m -> ∃j,j<m/\j∉R
 |0,R,h=>by omega
 |m+1,R,h=>by
  by_cases a:m∈R
  ·have e:=List.length_erase_of_mem a;have c:=cy a;obtain⟨j,d,b⟩:=nW m (R.erase m) (by omega);exact⟨j,by omega,λz=>b ((List.mem_erase_of_ne (by omega)).mpr z)⟩
  ·exact⟨m,by omega,a⟩
theorem Bf{n m:Nat}{xs:List D}{B U:Sto}{Q:D×Sto->Prop}(s:HZ n B U)(hn:n<=2^38)(hx:D.unds 0 xs=M)(hl:xs.length=m)(hm0:0<m)(hm8:m<=8)(q:∀(R C:List Nat) V,R.length<=8->C.length<=8->HZ (n+40) B V->HZ (n+40) U V->V.length=U.length->Q (.tup [.tup (nmD R),.tup (nmD C)],V)):W (c9 2 fi [.ref 0,.tup xs] U) Q:=by
 have hpos:=s.pos;have hbl:=s.len;refine sJ (c':=n+40) O (by simp[D.unds,D.und]) s ?_;have s0:=s.self;unfold fi;refine io ?_;unfold jm;generalize hb:U.length=b;refine eg (λr S=>HZ n U S/\S[b]?=Z (.lst (nmD []))/\r=[Z (.ref 0),Z (.tup xs),Z (.int (m:Nat)),Z (.ref b),Y,Y,Y,Y]) ?_ ?_
 ·walk_at"w";rw[hl];refine⟨s0.app λo g=>by simp at g;subst g;rfl,by rw[<- hb,db];rfl,by rw[hb]⟩
 rintro r S ⟨s1,r1,rfl⟩;refine eg (λr S=>∃few:Nat,0<few/\few<100/\HZ (n+2) U S/\S[b]?=Z (.lst (nmD []))/\r=[Z (.ref 0),Z (.tup xs),Z (.int (m:Nat)),Z (.ref b),Z (.int (few:Nat)),Y,Y,Y]) ?_ ?_
 ·walk_at"w";have s2:HZ n U (S++[.lst (nmD [3,3,3,m])]):=s1.app λo g=>by simp at g;subst g;rw[Ob.und];exact dH (fI _)
  have e4:Ob.lst [D.int 3,D.int 3,D.int 3,D.int (m:Nat)] = .lst (nmD [3,3,3,m]):=rfl;rw[e4];refine eU s2 (by omega) (by decide) (by decide) λk U1 a1 c l1 hk=>?_;have I:k<([3,3,3,m]:List Nat).length:=by simp;omega
  have w:U1[S.length]?=Z (.lst (nmD [3,3,3,m])):=c.at (by rw[db];rfl) (by have:=s1.len;omega);refine gt (i:=k) w (jh I) ?_;have hv:0<[3,3,3,m][k]/\[3,3,3,m][k]<=8:=by
   have:=bN I;simp only[aD,cC,or_false]at this;omega
  refine eU a1 (by omega) (by omega) (by omega) λf U2 a2 y l2 hf=>?_;walk_at"w";exact⟨f+1,by omega,by omega,a2,y.at (c.at (by rw[gL1 (gE1.mp r1).1];exact r1) (by omega)) (by omega),by simp[Int.add_comm]⟩
 rintro r S ⟨few,hf0,hf1,s2,r2,rfl⟩;refine eg (λr S=>∃(R:List Nat) (A F:Option D),R.length<=8/\HZ (n+11) U S/\S[b]?=Z (.lst (nmD R))/\r=[Z (.ref 0),Z (.tup xs),Z (.int (m:Nat)),Z (.ref b),Z (.int (few:Nat)),A,F,Y]) ?_ ?_
 ·((try walk_at"w");repeat(simp only[wN];try walk_at"w"))
  obtain⟨t,ht,N⟩:∃t:Nat,t<=m/\(if(m:Int)<(few:Int)then(m:Int)else(few:Int))=(t:Int):=by
   by_cases z:(m:Int)<(few:Int)
   ·exact⟨m,by omega,by rw[ak z]⟩
   ·exact⟨few,by omega,by rw[aj z]⟩
  rw[N,Int.toNat_natCast];refine⟨fw (by omega),?_⟩;refine fv (λi r S=>∃(R:List Nat) (A F:Option D),i<=t/\R.length=i/\HZ (n+2+i) U S/\S[b]?=Z (.lst (nmD R))/\r=[Z (.ref 0),Z (.tup xs),Z (.int (m:Nat)),Z (.ref b),Z (.int (few:Nat)),A,F,Y]) _ 0 _ _ ⟨[],_,_,by omega,O,s2,r2,O⟩ (λ_ _ _ _=>rfl) ?_ ?_
  ·rintro i d H r S ⟨R,A,F,hi,T,E,p,rfl⟩;have e:=(gE1.mp H).1;rw[d0]at e;rw[bI]at *
   walk_at"w";unfold ig;have wq:=E.len;obtain⟨j0,aq,K⟩:=nW m R (by omega);have v:j0∈(af m).filter λj=> !R.contains j:=by
    rw[az];exact⟨aA.mpr aq,by simpa using K⟩
   refine eg (λr V=>V=S++[.lst (nmD ((af m).filter λj=> !R.contains j))]/\r=[Z (.ref 0),Z (.tup xs),Z (.int (m:Nat)),Z (.ref b),Z (.int (few:Nat)),Z d,Z (.ref S.length),Y]) ?_ ?_
   ·walk_at"w";refine⟨fw (by omega),?_⟩;rw[k9,Int.toNat_natCast];refine i5 (λj=> !R.contains j) (λj:Nat=>D.int j) (λr=>∃x,r=[x,Z (.ref b)]) O (af m) _ ⟨_,O⟩ ?_ ?_
    ·rintro j hj r ⟨x,rfl⟩
     ((try walk_at"w");repeat(simp only[rR p];try walk_at"w"))
     exact⟨⟨_,O⟩,λ_=>trivial⟩
    ·rintro r' _;have e1:((af m).filter λj=> !R.contains j).map (λj:Nat=>D.int (j:Int))=nmD ((af m).filter λj=> !R.contains j):=rfl;rw[e1];walk_at"w";refine⟨dg ?_,trivial⟩;rw[eQ];have:=cw (λj=> !R.contains j) (af m);rw[cx]at this;omega
   have P:((af m).filter λj=> !R.contains j).length<=m:=by
    have:=cw (λj=> !R.contains j) (af m)
    rwa [cx]at this
   generalize (af m).filter (λj=> !R.contains j)=L at v P;rintro r V ⟨rfl,rfl⟩;have sV:HZ (n+2+i) U (S++[.lst (nmD L)]):=E.app λo g=>by simp at g;subst g;rw[Ob.und];exact dH (fI _)
   have hL0:0<L.length:=cy v;have rV:(S++[Ob.lst (nmD L)])[b]?=Z (.lst (nmD R)):=by rw[gL1 (gE1.mp p).1];exact p
   have w:(S++[Ob.lst (nmD L)])[S.length]?=Z (.lst (nmD L)):=by rw[db];rfl
   generalize S++[Ob.lst (nmD L)]=V at *
   walk_at"w";refine ow ?_;walk_at"w";refine⟨b,nmD R,O,rV,?_⟩;refine eI w ?_;walk_at"w";rw[eQ];refine eU sV (by omega) (by omega) (by omega) λk V1 a1 c l1 hk=>?_;refine gt (i:=k) (c.at w (by omega)) (jh (by omega)) ?_;walk_at"w";refine(sP (c.at rV (by omega))).mpr ⟨dg (by rw[eQ];omega),?_⟩;have X:nmD R++[D.int (L[k]'(by omega):Nat)]=nmD (R++[L[k]'(by omega)]):=by simp[nmD]
   rw[X];refine⟨R++[L[k]'(by omega)],_,_,by omega,by simp[T],a1.set (by omega) (by rw[Ob.und];exact dH (fI _)),aG (by have:=(gE1.mp (c.at rV (by omega))).1;exact this),O⟩
  ·rintro r S ⟨R,A,F,hi,T,E,p,rfl⟩;rw[d0,bI]at *
   exact⟨O,R,_,_,by omega,E.more (by omega),p,O⟩
 rintro r S ⟨R,A,F,T,s3,r3,rfl⟩;have wq:=s3.len;refine eg (λr V=>V=S/\r=[Z (.ref 0),Z (.tup xs),Z (.int (m:Nat)),Z (.ref b),Z (.int (few:Nat)),A,F,Z (.tup [])]) ?_ ?_
 ·walk_at"w"
 rintro r V ⟨rfl,rfl⟩;refine eg (λr V=>∃C:List Nat,C.length<=8/\HZ (n+30) U V/\V[b]?=Z (.lst (nmD R))/\r=[Z (.ref 0),Z (.tup xs),Z (.int (m:Nat)),Z (.ref b),Z (.int (few:Nat)),A,F,Z (.tup (nmD C))]) ?_ ?_
 ·walk_at"w";refine eU s3 (by omega) (by decide) (by decide) λk V1 a1 c l1 hk=>?_;have am:=c.at r3 (by omega);walk_at"w";split
  ·refine⟨fw (by omega),?_⟩;rw[Int.toNat_natCast];refine ik (λi G r S=>∃x,HZ (n+12+i) U S/\S[b]?=Z (.lst (nmD R))/\r=[x,Z (.ref 0)]/\i<=m /\ ∃C:List Nat,C.length<=i/\G=nmD C) (iL 0 m) 0 [] _ _ ⟨Y,a1,am,O,by omega,[],by simp,O⟩ (λ_ _ _ _ _=>rfl) ?_ ?_
   ·rintro i d H G r S ⟨x,E,p,rfl,hi,C,ar,h⟩;have e:=(gE1.mp H).1;rw [d0] at e;have ao:d = .int (i:Nat):=by
     rw[k9,gP1,cf e]at H;exact(Option.some.inj H).symm
    subst ao;rw[bI]at *
    walk_at"w";refine eU E (by omega) (by decide) (by decide) λk2 V2 a2 y l2 hk2=>?_;walk_at"w";split
    ·exact⟨_,a2,y.at p (by omega),O,by omega,C++[i],by simp;omega,by rw[h];simp[nmD]⟩
    ·exact⟨_,a2,y.at p (by omega),O,by omega,C,by omega,h⟩
   ·rintro ys r S ⟨x,E,p,rfl,hi,C,ar,h⟩;rw[bI,d0]at *
    rw[a0]at h;subst h;walk_at"w";refine⟨dg (by rw[eQ];omega),?_⟩;refine eI (xs:=nmD C) (by rw[db];rfl) ?_;refine⟨C,by omega,(E.app λo g=>by simp at g;subst g;rw[Ob.und];exact dH (fI _)).more (by omega),?_,O⟩;rw[gL1 (gE1.mp p).1];exact p
  ·exact⟨[],by simp,a1.more (by omega),am,O⟩
 rintro r V ⟨C,hC,s4,am,rfl⟩;have u:lh (.ref b) V=Z (.ref V.length,V++[.lst ((fF (R.map Int.ofNat)).map D.int)]):=by
  simp only[lh,am,sj,oS1];rw[ak (by rw[lM1];omega)]
 have X:(fF (R.map Int.ofNat)).map D.int=nmD ((fF (R.map Int.ofNat)).map Int.toNat):=by
  unfold nmD;rw[bu];refine cj λi hi=>?_;obtain⟨x,_,rfl⟩:=bZ.mp ((en _).mem_iff.mp hi);rfl
 rw[X]at u;have el:((fF (R.map Int.ofNat)).map Int.toNat).length=R.length:=by rw[lM1,(en _).length_eq,lM1]
 generalize (fF (R.map Int.ofNat)).map Int.toNat=R' at *
 ((try walk_at"w");repeat(simp only[u];try walk_at"w"))
 refine eI (xs:=nmD R') (by rw[db];rfl) ?_;walk_at"w";refine⟨(s4.app λo g=>by simp at g;subst g;rw[Ob.und];exact dH (fI _)).more (by omega),?_,λU' a b l=>q R' C U' (by omega) hC a b (by rw[l,hb])⟩;rw[D.und,D.unds,D.unds,D.und,D.und,fI,fI];rfl
theorem ib{xs:List D}:(∀x∈xs,x.und 0=M)->D.unds 0 xs=M:=by
 induction xs with
 |nil=>intro _;rfl
 |cons x xs ih=>intro h;rw[D.unds,h x mS1,ih λy a=>h y (mC1 _ a)];rfl
theorem n6{n k l:Nat}{ws:List D}{B U:Sto}{Q:D×Sto->Prop}(s:HZ n B U)(hn:n<=2^38)(hk:0<k)(hw:U[k]? = Z (.lst ws))(v:∀ x∈ws,x.und 0=M)(R:ws.length<=10)(ar:0<ws.length)(q:∀ys V,(∀y∈ys,y∈ws)->ys.length<=10->HZ (n+12) B V->HZ (n+12) U V->V.length=U.length->Q (.tup ys,V)):W (c9 3 eW [.ref 0,.ref k,.int (l:Nat)] U) Q:=by
 refine sJ (c':=n+12) O O s ?_;have ao:=s.self;unfold eW;refine io ?_;unfold ku;refine eg (λr S=>∃(ys:List D) (j:Nat),(∀y∈ys,y∈ws)/\ys.length<=10/\HZ (n+10) U S/\S[k]?=Z (.lst ws)/\S[j]?=Z (.lst ys)/\r=[Z (.ref 0),Z (.ref k),Z (.int (l:Nat)),Z (.ref j)]) ?_ ?_
 ·walk_at"w";refine eI hw ?_;refine ik (λi f r S=>∃x,HZ (n+i) U S/\S[k]?=Z (.lst ws)/\r=[x,Z (.ref 0)]/\i<=ws.length/\f.length<=i/\(∀y∈f,y∈ws)) ws 0 [] _ _ ⟨Y,ao,hw,O,by omega,by simp,λy c=>by simp at c⟩ ?_ ?_ ?_
  ·rintro i f r S ⟨x,_,p,_⟩;exact hA p
  ·rintro i d F f r S ⟨x,A,p,rfl,hi,w,e⟩;have C:=(gE1.mp F).1;rw[bI]at *
   walk_at"w";refine eU A (by omega) (by decide) (by decide) λP T a2 t X I=>?_;walk_at"w";split
   ·refine⟨_,a2,t.at p hk,O,by omega,by simp;omega,λy c=>?_⟩;rcases aE.mp c with z|z
    ·exact e y z
    ·simp at z;subst z;exact gM1 F
   ·exact⟨_,a2,t.at p hk,O,by omega,by omega,e⟩
  ·rintro ys r S ⟨x,A,p,rfl,hi,w,e⟩;rw[a0,bI]at *
   walk_at"w";refine⟨dg (by omega),ys,S.length,e,by omega,(A.app λo u=>by simp at u;subst u;rw[Ob.und];exact dH (ib λy c=>v y (e y c))).more (by omega),?_,by rw[db];rfl,O⟩;rw[gL1 (gE1.mp p).1];exact p
 rintro r S ⟨ys,j,g,m,G,H,E,rfl⟩;refine eg (λr S=>∃(ys:List D) (j:Nat),(∀y∈ys,y∈ws)/\ys.length<=10/\HZ (n+12) U S/\S[j]?=Z (.lst ys)/\r=[Z (.ref 0),Z (.ref k),Z (.int (l:Nat)),Z (.ref j)]) ?_ ?_
 ·walk_at"w";refine eI E ?_;walk_at"w";split
  ·refine eI H ?_;walk_at"w";refine eU G (by omega) (by omega) (by omega) λi V a K l hi=>?_;have h:i<ws.length:=by omega
   refine gt (i:=i) (K.at H hk) (gG1 h) ?_;walk_at"w";refine⟨[ws[i]],V.length,λy c=>by simp at c;subst c;exact bN h,by simp,(a.app λo u=>by simp at u;subst u;rw[Ob.und];exact dH (ib λy c=>by simp at c;subst c;exact v _ (bN h))).more (by omega),by rw[db];rfl,O⟩
  ·exact⟨ys,j,g,m,G.more (by omega),E,O⟩
 rintro r S ⟨ys,j,g,m,N,am,rfl⟩;walk_at"w";refine eI am ?_;exact⟨N,by rw[D.und];exact ib λy c=>v y (g y c),λL a b l=>q ys L g m a b l⟩
abbrev AQ:=dU×List Nat×List Nat
def fD(x:AQ):D:=.tup [dW x.1,.tup [.tup (nmD x.2.1),.tup (nmD x.2.2)]]
def Jw(x:AQ):Prop:=0<x.1.length/\x.1.length<=8/\(∀row∈x.1,row.length<=40)/\x.2.1.length<=8/\x.2.2.length<=8
theorem uq(n:Nat)(x:AQ):(fD x).und n=M:=by
 unfold fD;simp only[D.und,D.unds,ky,dH (fI _),Bool.and_self]
def eD(fs:List AQ)(ey hs ss:List D)(mo ch be:Nat):D:=.tup [.tup (fs.map fD),.tup ey,.tup hs,.tup ss,.int (mo:Nat),.int (ch:Nat),.int (be:Nat)]
def wEy:List D:=[.str "came",.str "chalk",.str "doors",.str "others"]
def wHa:List D:=[.str "leave",.str "mark",.str "wipe"]
def wSt:List D:=[.non,.int 0,.int 1,.int 2,.int 3]
structure Kw (fs:List AQ)(ey hs ss:List D)(mo ch be:Nat):Prop where
 f0:0<fs.length
 f6:fs.length<=6
 f:∀x∈fs,Jw x
 e:∀y∈ey,y∈wEy
 el:ey.length<=10
 h:∀y∈hs,y∈wHa
 hl:hs.length<=10
 s:∀y∈ss,y∈wSt
 sl:ss.length<=10
 m0:0<mo
 m3:mo<=3
theorem zX{n km:Nat}{B U:Sto}{Q:D×Sto->Prop}(s:HZ n B U)(hn:n<=2^37)(hk0:0<km)(hm8:km<=8)(q:∀(fs:List AQ) (ey hs A:List D) (p ch be:Nat) V,Kw fs ey hs A p ch be->HZ (n+2000) B V->HZ (n+2000) U V->V.length=U.length->Q (eD fs ey hs A p ch be,V)):W (c9 2 fO [.ref 0,.int (km:Nat)] U) Q:=by
 have hpos:=s.pos;have hbl:=s.len;refine sJ (c':=n+2000) O O s ?_;have s0:=s.self;unfold fO;refine io ?_;unfold kr;generalize hb:U.length=b;refine eg (λr S=>HZ n U S/\S[b]?=Z (.lst [])/\r=[Z (.ref 0),Z (.int (km:Nat)),Z (.ref b),Y,Y,Y,Y,Y,Y]) ?_ ?_
 ·walk_at"w";exact⟨s0.app λo G=>by simp at G;subst G;rfl,by rw[<- hb,db];rfl,by rw[hb]⟩
 rintro r S ⟨s1,b1,rfl⟩;refine eg (λr S=>∃(fs:List AQ) (x3 x4:Option D),0<fs.length/\fs.length<=6/\(∀x∈fs,Jw x)/\HZ (n+1001) U S/\S[b]?=Z (.lst (fs.map fD))/\r=[Z (.ref 0),Z (.int (km:Nat)),Z (.ref b),x3,x4,Y,Y,Y,Y]) ?_ ?_
 ·walk_at"w";have X:HZ n U (S++[.lst (nmD [1,2,1,3,2,1,3,6])]):=s1.app λo G=>by simp at G;subst G;rw[Ob.und];exact dH (fI _)
  have e4:Ob.lst [D.int 1,D.int 2,D.int 1,D.int 3,D.int 2,D.int 1,D.int 3,D.int 6] = .lst (nmD [1,2,1,3,2,1,3,6]):=rfl;rw[e4];refine eU X (by omega) (by decide) (by decide) λk U1 a1 E l1 hk=>?_;have am:k<([1,2,1,3,2,1,3,6]:List Nat).length:=by simp;omega
  have H:=s1.len;have hat:U1[S.length]?=Z (.lst (nmD [1,2,1,3,2,1,3,6])):=E.at (by rw[db];rfl) (by omega);have hb1:U1[b]?=Z (.lst []):=E.at (by rw[gL1 (gE1.mp b1).1];exact b1) (by omega);refine gt (i:=k) hat (jh am) ?_;have hv:0<[1,2,1,3,2,1,3,6][k]/\[1,2,1,3,2,1,3,6][k]<=6:=by
   have:=bN am;simp only[aD,cC,or_false]at this;omega
  generalize [1,2,1,3,2,1,3,6][k]=t at hv;walk_at"w";refine⟨fw (by omega),?_⟩;rw[Int.toNat_natCast];refine fv (λi r S=>∃(fs:List AQ) (x3 x4:Option D),i<=t/\fs.length=i/\(∀x∈fs,Jw x)/\HZ (n+1+150*i) U S/\S[b]?=Z (.lst (fs.map fD))/\r=[Z (.ref 0),Z (.int (km:Nat)),Z (.ref b),x3,x4,Y,Y,Y,Y]) _ 0 _ _ ⟨[],_,_,by omega,O,λx K=>(by cases K),a1,hb1,O⟩ (λ_ _ _ _=>rfl) ?_ ?_
  ·rintro i d hd r S ⟨fs,x3,x4,hi,F,f,sS,bS,rfl⟩;have N:=(gE1.mp hd).1;rw[d0]at N;rw[bI]at *
   walk_at"w";unfold je;refine eg (λr V=>∃w:dU,0<w.length/\w.length<=8/\(∀row∈w,row.length<=40)/\HZ (n+1+150*i+110) U V/\V[b]?=Z (.lst (fs.map fD))/\r=[Z (.ref 0),Z (.int (km:Nat)),Z (.ref b),Z d,Z (dW w),Y,Y,Y,Y]) ?_ ?_
   ·walk_at"w";refine Hl sS (by omega) hk0 hm8 λw V h1 h2 T a g l=>?_;exact⟨w,h1,h2,T,a,g.at bS (by omega),O⟩
   rintro r V ⟨w,h1,h2,T,sV,aq,rfl⟩;walk_at"w";refine ow ?_;walk_at"w";refine⟨b,fs.map fD,O,aq,?_⟩;refine Bf (m:=w.length) (xs:=w.map dR) sV (by omega) (unds_map (tG 0) w) (by simp) h1 h2 λR C V1 hR hC a g l=>?_;walk_at"w";refine(sP (g.at aq (by omega))).mpr ⟨dg (by rw[lM1];omega),?_⟩;have ef:fs.map fD++[D.tup [dW w,.tup [.tup (nmD R),.tup (nmD C)]]]=(fs++[((w,R,C):AQ)]).map fD:=by rw[b9];rfl
   rw[ef];refine⟨fs++[(w,R,C)],_,_,by omega,by simp[F],λx K=>?_,(a.set (by omega) (by rw[Ob.und];exact unds_map (uq _) _)).more (by omega),aG (gE1.mp (g.at aq (by omega))).1,O⟩;rcases aE.mp K with z|z
   ·exact f x z
   ·simp at z;subst z;exact⟨h1,h2,T,hR,hC⟩
  ·rintro r S ⟨fs,x3,x4,hi,F,f,sS,bS,rfl⟩;rw[d0,bI]at *
   exact⟨O,fs,_,_,by omega,by omega,f,sS.more (by omega),bS,O⟩
 rintro r S ⟨fs,x3,x4,hf0,F,f,X,b2,rfl⟩;have e:∀{n':Nat} {S:Sto} (ws:List D),HZ n' U S->(∀x∈ws,x.und 0=M)->HZ n' U (S++[.lst ws]):=λws h j=>h.app λo G=>by simp at G;subst G;rw[Ob.und];exact dH (ib j)
 refine eg (λr S=>∃ey,(∀y∈ey,y∈wEy)/\ey.length<=10/\HZ (n+1020) U S/\S[b]?=Z (.lst (fs.map fD))/\r=[Z (.ref 0),Z (.int (km:Nat)),Z (.ref b),x3,x4,Z (.tup ey),Y,Y,Y]) ?_ ?_
 ·walk_at"w";have j:∀x∈[D.str "came",D.str "chalk",D.str "doors",D.str "others"],x.und 0=M:=by simp[D.und]
  have H:=X.len;refine n6 (l:=0) (e _ X j) (by omega) (by omega) (by rw[db];rfl) j (by simp) (by simp) λys V h1 h2 a g l=>?_;walk_at"w";exact⟨ys,h1,h2,a.more (by omega),g.at (by rw[gL1 (gE1.mp b2).1];exact b2) (by omega),O⟩
 rintro r S ⟨ey,ao,hel,s3,b3,rfl⟩;refine eg (λr S=>∃hs,(∀y∈hs,y∈[D.str "leave",.str "mark",.str "wipe"])/\hs.length<=10/\HZ (n+1040) U S/\S[b]?=Z (.lst (fs.map fD))/\r=[Z (.ref 0),Z (.int (km:Nat)),Z (.ref b),x3,x4,Z (.tup ey),Z (.tup hs),Y,Y]) ?_ ?_
 ·walk_at"w";have j:∀x∈[D.str "leave",D.str "mark",D.str "wipe"],x.und 0=M:=by simp[D.und]
  have H:=s3.len;refine n6 (l:=1) (e _ s3 j) (by omega) (by omega) (by rw[db];rfl) j (by simp) (by simp) λys V h1 h2 a g l=>?_;walk_at"w";exact⟨ys,h1,h2,a.more (by omega),g.at (by rw[gL1 (gE1.mp b3).1];exact b3) (by omega),O⟩
 rintro r S ⟨hs,I,hhl,s4,b4,rfl⟩;refine eg (λr S=>∃A,(∀y∈A,y∈[D.non,.int 0,.int 1,.int 2,.int 3])/\A.length<=10/\HZ (n+1060) U S/\S[b]?=Z (.lst (fs.map fD))/\r=[Z (.ref 0),Z (.int (km:Nat)),Z (.ref b),x3,x4,Z (.tup ey),Z (.tup hs),Z (.tup A),Y]) ?_ ?_
 ·walk_at"w";have j:∀x∈[D.non,D.int 0,D.int 1,D.int 2,D.int 3],x.und 0=M:=by simp[D.und]
  have H:=s4.len;refine n6 (l:=1) (e _ s4 j) (by omega) (by omega) (by rw[db];rfl) j (by simp) (by simp) λys V h1 h2 a g l=>?_;walk_at"w";exact⟨ys,h1,h2,a.more (by omega),g.at (by rw[gL1 (gE1.mp b4).1];exact b4) (by omega),O⟩
 rintro r S ⟨A,ar,hsl,s5,b5,rfl⟩;refine eg (λr S=>∃p ch be:Nat,0<p/\p<=3/\HZ (n+1070) U S/\S[b]?=Z (.lst (fs.map fD))/\r=[Z (.ref 0),Z (.int (km:Nat)),Z (.ref b),x3,x4,Z (.tup ey),Z (.tup hs),Z (.tup A),Z (.tup [.int (p:Nat),.int (ch:Nat),.int (be:Nat)])]) ?_ ?_
 ·walk_at"w";refine eU s5 (by omega) (by decide) (by decide) λp V1 a1 E l1 h1=>?_;walk_at"w";refine eU a1 (by omega) (by decide) (by decide) λch V2 a2 a2' l2 h2=>?_;refine eU a2 (by omega) (by decide) (by decide) λu V3 a3 a3' l3 T=>?_;refine eU a3 (by omega) (by decide) (by decide) λv V4 a4 a4' l4 h4=>?_;walk_at"w";have e2:Ob.lst [D.int (u:Nat),D.int (v:Nat)] = .lst (nmD [u,v]):=rfl;rw[e2];have hVl:=a4.len;have a5:=e (nmD [u,v]) a4 λx K=>by obtain⟨i,_,rfl⟩:=bZ.mp K;rfl
  refine eU a5 (by omega) (by decide) (by decide) λw V5 a6 P l6 h6=>?_;have hw2:w<([u,v]:List Nat).length:=by simp;omega
  refine gt (i:=w) (P.at (by rw[db];rfl) (by omega)) (jh hw2) ?_;walk_at"w";refine⟨p+1,ch,[u,v][w],by omega,by omega,a6.more (by omega),?_,by simp[Int.add_comm]⟩;refine P.at ?_ (by omega);have:=a4'.at (a3'.at (a2'.at (E.at b5 (by omega)) (by omega)) (by omega)) (by omega);rw[gL1 (gE1.mp this).1];exact this
 rintro r S ⟨p,ch,be,m0,m3,s6,b6,rfl⟩;walk_at"w";refine eI b6 ?_;walk_at"w";have hh:D.unds 0 hs=M:=ib λy L=>by
  have:=I y L;simp only[aD,cC,or_false]at this;rcases this with z|z|z<;>rw[z]<;>rfl
 have wq:D.unds 0 A=M:=ib λy L=>by
  have:=ar y L;simp only[aD,cC,or_false]at this;rcases this with z|z|z|z|z<;>rw[z]<;>rfl
 have heu:D.unds 0 ey=M:=ib λy L=>by
  have:=ao y L;simp only[wEy,aD,cC,or_false]at this;rcases this with z|z|z|z<;>rw[z]<;>rfl
 refine⟨s6.more (by omega),?_,λU' a c l=>q fs ey hs A p ch be U' ⟨hf0,F,f,ao,hel,I,hhl,ar,hsl,m0,m3⟩ a c (by rw[l,hb])⟩;simp only[D.und,D.unds,unds_map (uq 0),heu,hh,wq,bH,Bool.and_self]
theorem r0{c:List (Nat×List D)}{g:FG}{b:FS}{Q:Fl×Ev×Sto->Prop}(I:Nat->Ev->Sto->Prop):∀ (items:List D) (k:Nat) (r:Ev) (S:Sto),I k r S ->
  (∀i r S,I i r S->qS S c=M) ->
  (∀i d,items[i]?=Z d -> ∀r S,I (k+i) r S->W (g d r S) λp=>W (b p.1 p.2) λq=>(q.1 = .nx/\I (k+i+1) q.2.1 q.2.2)\/(∃v,q.1 = .rt v/\Q (.rt v,q.2))\/(q.1 = .bk/\Q (.nx,q.2))) ->
  (∀r S,I (k+items.length) r S->Q (.nx,r,S))->W (iO c g b items r S) Q:=by
 intro items
 induction items with
 |nil=>intro k r S hi a _ j;rw[iO];dsimp only;rw[ak (a _ _ _ hi),dm];exact j r S (by simpa using hi)
 |cons d ds ih=>
  intro k r S hi a m j;rw[iO];dsimp only;rw[ak (a _ _ _ hi),dh];obtain⟨p,t,⟨f,o,s⟩,u,h⟩:=m 0 d O r S (by simpa using hi);refine⟨p,t,?_⟩;dsimp only;rw[dh];refine⟨_,u,?_⟩;dsimp only at h ⊢;rcases h with⟨rfl,e⟩|⟨v,rfl,l⟩|⟨rfl,l⟩
  ·exact ih (k+1) o s e a (fun i d n r S e=>by
    have:=m (i+1) d n r S (by rw[show k+(i+1)=k+1+i by lia];exact e);rw[show k+(i+1)+1=k+1+i+1 by lia]at this;exact this) λr S e=>j r S (by rw[lC1,show k+(ds.length+1)=k+1+ds.length by lia];exact e)
  ·exact dm.mpr l
  ·exact dm.mpr l
theorem yb{a b:FS}{r:Ev}{S:Sto}{Q:Fl×Ev×Sto->Prop}(h:W (a r S) λp=>(p.1 = .nx/\W (b p.2.1 p.2.2) Q) \/ ∃v,p.1 = .rt v/\Q (.rt v,p.2)):W (di a b r S) Q:=by
 obtain⟨⟨f,c,d⟩,e,h⟩:=h;unfold di;rw[e];dsimp only at h;rcases h with⟨rfl,h⟩|⟨v,rfl,h⟩
 ·exact h
 ·exact dm.mpr h
theorem DM{α:Type}{c:List (Nat×List D)}{g:FG}{t:FT}{b:FV}{S:Sto}{f:α->D}{Q:List D×Ev×Sto->Prop}(F:α->List D)(P:Ev->Prop)(d:qS S c=true):∀ (xs:List α) (r:Ev),P r ->
  (∀a∈xs,∀r,P r->W (g (f a) r S) λp=>W (t p.1 p.2) λk=>k.1=M/\W (b p.1 k.2) λx=>x.1=F a/\x.2.2=S/\P x.2.1) ->
  (∀e,P e->Q (xs.flatMap F,e,S))->W (fz c g t b (xs.map f) r S) Q
 |[],r,hr,_,h=>by rw[ba,fz];dsimp only;rw[ak d,dm];exact h r hr
 |a::xs,r,hr,hs,h=>by
  rw[mP1,fz];dsimp only;rw[ak d,dh];obtain⟨p,l,⟨k,q,n,⟨x,j,s,u,m⟩⟩⟩:=hs a mS1 r hr;refine⟨p,l,?_⟩;dsimp only;rw[dh];refine⟨k,q,?_⟩;dsimp only;rw[ak n,dh];refine⟨x,j,?_⟩;dsimp only;rw[u,jo];refine DM F P d xs x.2.1 m (λa o=>hs a (mC1 _ o)) λe i=>?_;have:=h e i;rw[List.flatMap_cons,<- s]at this;exact this
theorem Dm{m:FI}{g:FG}{t:FT}{b:FV}{r:Ev}{S:Sto}{Q:List D×Ev×Sto->Prop}:W (sy m g t b r S) Q↔W (m r S) λp=>W (fz p.1.chk g t b p.1.items r p.2) Q:=by
 unfold sy;rw[dh]
theorem v4{f g:FN}{a b c:FE}{r:Ev}{S:Sto}{Q:D×Sto->Prop}:W (ml f g a b c r S) Q↔W (a r S) λp=>W (b r p.2) λq=>W (f [p.1,q.1] q.2) λt=>W (match t.1 with | .bl k=>if k=true then(c r t.2).bind λz=>g [q.1,z.1] z.2 else some (.bl false,t.2)|_=>none) Q:=by
 unfold ml;simp only[dh]
 try exact Iff.rfl
theorem xY{α:Type}{f:α->Nat}{k:Nat}:∀{l:List α},(∀x∈l,f x<=k)->(l.map f).sum<=k*l.length
 |[],_=>by simp
 |x::l,h=>by
  have h1:=h x mS1;have h2:=xY (l:=l) λy a=>h y (mC1 _ a);rw[mP1,List.sum_cons,lC1,Nat.mul_add];lia
open Classical in
def tf(P:Prop):Bool:=decide P
theorem iW{P:Prop}:tf P=M↔P:=by unfold tf;exact @decide_eq_true_iff P (Classical.propDecidable P)
theorem nj{P:Prop}(h:P):tf P=M:=iW.mpr h
theorem nk{P:Prop}{b:Bool}(h:b=M↔P):b=tf P:=by rw[bL,iW];exact h
theorem g9{P:Prop}(h:¬ P):tf P=J:=(nk ⟨λz=>(by cases z),λz=>(h z).elim⟩).symm
theorem pN{P Q:Prop}(h:P↔Q):tf P=tf Q:=nk (iW.trans h)
abbrev RZ:=List (List (Int×Int))
def zP(p:Int×Int):D:=.tup [.int p.1,.int p.2]
def zR(r:List (Int×Int)):D:=.tup (r.map zP)
def zW(w:RZ):D:=.tup (w.map zR)
theorem Eg(n:Nat)(p:Int×Int):(zP p).und n=M:=rfl
theorem xC(n:Nat)(r:List (Int×Int)):(zR r).und n=M:=by unfold zR;rw[D.und];exact Law.unds_map (Eg n) r
theorem pL(n:Nat)(w:RZ):(zW w).und n=M:=by unfold zW;rw[D.und];exact Law.unds_map (xC n) w
def up(p:Nat×Nat):Int×Int:=(p.1,p.2)
def pK(w:dU):RZ:=w.map λr=>r.map up
theorem tF{a b:Nat×Nat}(h:up a=up b):a=b:=by
 obtain⟨a1,a2⟩:=a;obtain⟨b1,b2⟩:=b;injection h with h1 h2;exact Prod.ext (by dsimp only;lia) (by dsimp only;lia)
theorem Am(w:dU):zW (pK w)=dW w:=by
 unfold zW pK dW;rw[bu];refine congrArg D.tup (cj λr _=>?_);show zR (r.map up)=dR r;unfold zR dR;rw[bu];exact congrArg D.tup (cj λp _=>rfl)
def AtZ(w:RZ)(r d:Nat)(p:Int×Int):Prop:=∃row,w[r]?=Z row/\row[d]?=Z p
theorem AtZ.det{w:RZ}{r d:Nat}{p q:Int×Int}(h:AtZ w r d p)(h':AtZ w r d q):p=q:=by
 obtain⟨e,h1,h2⟩:=h;obtain⟨b,c,a⟩:=h';rw[h1]at c;cases c;rw[h2]at a;cases a;rfl
theorem vY{w:dU}{r d:Nat}{p:Int×Int}:AtZ (pK w) r d p ↔ ∃q,At w r d q/\p=up q:=by
 unfold AtZ At pK;rw[gP1];constructor
 ·rintro⟨b,h1,h2⟩;obtain⟨a,e,rfl⟩:=oM1.mp h1;rw[gP1]at h2;obtain⟨q,c,rfl⟩:=oM1.mp h2;exact⟨q,⟨a,e,c⟩,O⟩
 ·rintro⟨q,⟨b,h1,h2⟩,rfl⟩;exact⟨b.map up,by rw[h1];rfl,by rw[gP1,h2];rfl⟩
def mE(w:RZ):Prop:=1<=w.length/\w.length<=8 /\ ∀row∈w,row.length<=4
def G8(w:RZ)(r d:Nat)(p:Int×Int):Prop:=p≠((r:Int),(d:Int))/\0<=p.1/\0<=p.2/\AtZ w p.1.toNat p.2.toNat ((r:Int),(d:Int))
def pF(w:RZ):Prop:=∀r d p,AtZ w r d p->G8 w r d p
structure WP (w:dU):Prop where
 pos:0<w.length
 few:w.length<=8
 le:∀(r:Nat) (row:List (Nat×Nat)),w[r]?=some row->row.length<=4
 back:∀r d p,At w r d p->At w p.1 p.2 (r,d)
 ne:∀r d p,At w r d p->p≠(r,d)
def Con(w:dU):Prop:=∀P:Nat->Prop,P 0->(∀r d p,At w r d p->P r->P p.1) -> ∀v,v<w.length->P v
theorem At.lt{w:dU}{r d:Nat}{p:Nat×Nat}(h:At w r d p):r<w.length:=by
 obtain⟨a,h1,_⟩:=h;exact(gE1.mp h1).1
theorem Hk{w:RZ}(hf:mE w)(hp:pF w):∃w',w=pK w'/\WP w':=by
 let w':dU:=w.map λr=>r.map λp=>(p.1.toNat,p.2.toNat)
 have e:w=pK w':=by
  refine bT λr=>?_;unfold pK;rw[gP1,gP1];cases hr:w[r]? with
  |none=>rfl
  |some a=>
   show Z a=Z ((a.map λp=>(p.1.toNat,p.2.toNat)).map up);refine congrArg Z (bT λd=>?_);rw[gP1,gP1];cases hd:a[d]? with
   |none=>rfl
   |some p=>
    obtain⟨_,h1,h2,_⟩:=hp r d p ⟨a,hr,hd⟩;show Z p=Z (up (p.1.toNat,p.2.toNat));refine congrArg Z (Prod.ext ?_ ?_)
    ·show p.1=((p.1.toNat:Nat):Int);lia
    ·show p.2=((p.2.toNat:Nat):Int);lia
 refine⟨w',e,?_⟩;generalize w'=v at e;subst e;have m:(pK v).length=v.length:=by unfold pK;rw[lM1]
 have b:∀r d p,At v r d p->p≠(r,d)/\At v p.1 p.2 (r,d):=λr d p h=>by
  obtain⟨h1,_,_,h2⟩:=hp r d (up p) (vY.mpr ⟨p,h,O⟩);refine⟨λz=>h1 (by rw[z];rfl),?_⟩;obtain⟨q,c,l⟩:=vY.mp h2;have:q=(r,d):=tF (by rw[<- l];rfl);rw[this]at c;have g:(up p).1.toNat=p.1:=Int.toNat_natCast _;have k:(up p).2.toNat=p.2:=Int.toNat_natCast _;rw[g,k]at c;exact c
 obtain⟨i,f,j⟩:=hf;rw[m]at i f;refine⟨by lia,f,λr a h=>?_,λr d p h=>(b r d p h).2,λr d p h=>(b r d p h).1⟩;have:=j (a.map up) (by unfold pK;exact bZ.mpr ⟨a,gM1 h,O⟩)
 rwa [lM1]at this
theorem WP.form{w:dU}(h:WP w):mE (pK w)/\pF (pK w):=by
 refine⟨⟨?_,?_,λe b=>?_⟩,λr d p c=>?_⟩
 ·unfold pK;rw[lM1];exact h.pos
 ·unfold pK;rw[lM1];exact h.few
 ·obtain⟨a,h1,rfl⟩:=bZ.mp b;obtain⟨i,hi⟩:=bt h1;rw[lM1];exact h.le i a hi
 ·obtain⟨q,h1,rfl⟩:=vY.mp c;refine⟨λz=>h.ne r d q h1 (tF z),by unfold up;lia,by unfold up;lia,?_⟩;rw[show(up q).1.toNat=q.1 from Int.toNat_natCast _,show(up q).2.toNat=q.2 from Int.toNat_natCast _];exact vY.mpr ⟨_,h.back r d q h1,O⟩
theorem qm{w:RZ}{r:Nat}{row:List (Int×Int)}{S:Sto}(h:w[r]?=Z row):de (zW w) (.int r) S=Z (zR row,S):=ix_tup (by rw[gP1,h];rfl)
theorem sf{row:List (Int×Int)}{i:Nat}{p:Int×Int}{S:Sto}(h:row[i]?=Z p):de (zR row) (.int i) S=Z (zP p,S):=ix_tup (by rw[gP1,h];rfl)
theorem zr{row:List (Int×Int)}{S:Sto}:dX (zR row) S=Z (.int row.length,S):=by simp[zR,dX,dj]
theorem uc{w:RZ}{S:Sto}:dX (zW w) S=Z (.int w.length,S):=by simp[zW,dX,dj]
theorem GJ{S:Sto}{n:Nat}{a b:Int×Int}:hB S (n+2) (zP a) (zP b)=Z (tf (a=b)):=by
 obtain⟨a1,a2⟩:=a;obtain⟨b1,b2⟩:=b;rw[hB];have d:∀x y:Int,hB S (n+1) (.int x) (.int y)=Z (x == y):=λx y=>rfl;have c:(a1 == b1&&a2 == b2)=tf ((a1,a2)=(b1,b2)):=nk (by rw[bA1,beq_iff_eq,beq_iff_eq,Prod.mk.injEq]);rw[<- c];simp[zP,dj,wR,d]
theorem zL{a b:Int×Int}{S:Sto}:gEq (zP a) (zP b) S=Z (.bl (tf (a=b)),S):=by
 show(hB S dQ (zP a) (zP b)).map _=_;rw[show dQ=58+2 from rfl,GJ];rfl
theorem v1:∀{l:List D},(∀x∈l,∃b,x=D.bl b)->Mi.uB l=Z (tf (∀x∈l,x=D.bl M))
 |[],_=>by rw[nj (λx a=>by cases a)];rfl
 |x::l,h=>by
  obtain⟨b,rfl⟩:=h x mS1;rw[Mi.uB,v1 λy c=>h y (mC1 _ c)];refine congrArg Z (nk ?_);rw[bA1,iW,List.forall_mem_cons];refine and_congr ?_ Iff.rfl;cases b<;>simp
theorem AJ{n:Nat}{xs:List D}{S:Sto}{Q:D×Sto->Prop}(h:S[n]?=Z (.lst xs))(hx:∀x∈xs,∃b,x=D.bl b)(q:Q (.bl (tf (∀x∈xs,x=D.bl M)),S)):W (gn (.ref n) S) Q:=by
 refine W.of ?_ q;unfold gn;rw[fT h,oS1];dsimp only;rw[v1 hx];rfl
theorem d3{T:Ty}{m:FE}{r:Ev}{S:Sto}{Q:D×Sto->Prop}:W (d8 T m r S) Q↔W (m r S) λp=>W (i3 p.2 T p.1) λb=>Q (.bl b,p.2):=by
 unfold d8;rw[dh];simp only[jo]
theorem nS{S:Sto}{T:Ty}{xs:List D}:i3 S T (.tup xs)=Z (decide (T = .tuple)):=rfl
theorem qz{a:Bool}:D.bl a=D.bl M↔a=M:=⟨λh=>(by injection h),λh=>(by rw[h])⟩
theorem wG{row:List (Int×Int)}{S:Sto}{Q:D×Sto->Prop}(q:Q (.bl (tf (row.length<=4)),S)):W (c9 1 gy [zR row] S) Q:=by
 refine jK O (by rw[D.unds,xC];rfl) ?_;unfold gy;refine io ?_;unfold lU;rw[show zR row = .tup (row.map zP)from rfl];by_cases c:row.length<=4
 ·rw[nj c]at q;refine eg (λr V=>V=[]/\r=[Z (.tup (row.map zP))]) ?_ ?_
  ·((try walk_at"w");repeat(simp only[d3,nS];try walk_at"w"))
   simp only[decide_true,bV,fB];walk_at"w";rw[lM1,aj (by rw[al];lia)];walk_at"w"
  rintro r V ⟨rfl,rfl⟩;walk_at"w";refine ft.mpr ?_;refine nN (f:=zP) (λ_=>D.bl M) (λa=>∃x,a=[x]) O row _ ⟨_,O⟩ ?_ ?_
  ·rintro e _ a ⟨x,rfl⟩;have h1:c9 2 dJ [zP e,.int 2] []=Z (.bl M,[]):=rfl;have h2:∀i:Int,c9 1 fe [.int i] []=Z (.bl M,[]):=λi=>rfl;have g:de (zP e) (.int 0) []=Z (.int e.1,[]):=rfl;have d:de (zP e) (.int 1) []=Z (.int e.2,[]):=rfl
   ((try walk_at"w");repeat(simp only[h1,h2,g,d];try walk_at"w"))
   exact⟨_,O⟩
  ·rintro a _;refine⟨dg (by rw[lM1];lia),?_⟩;walk_at"w";refine AJ O (λx b=>by obtain⟨_,_,rfl⟩:=bZ.mp b;exact⟨_,O⟩) ?_;rw[nj λx b=>by obtain⟨_,_,rfl⟩:=bZ.mp b;rfl];exact⟨O,q⟩
 ·rw[g9 c]at q
  ((try walk_at"w");repeat(simp only[d3,nS];try walk_at"w"))
  simp only[decide_true,bV,fB];walk_at"w";rw[lM1,ak (by rw[al];lia)];exact⟨O,q⟩
theorem CO{w:RZ}{S:Sto}{Q:D×Sto->Prop}(q:Q (.bl (tf (mE w)),S)):W (c9 1 fV [zW w] S) Q:=by
 refine jK O (by rw[D.unds,pL];rfl) ?_;unfold fV;refine io ?_;unfold kJ;rw[show zW w = .tup (w.map zR)from rfl];by_cases d:1<=w.length
 rotate_left
 ·rw[g9 λh=>d h.1]at q
  ((try walk_at"w");repeat(simp only[d3,nS,v4];try walk_at"w"))
  simp only[decide_true,bV,fh];walk_at"w";rw[lM1,ai (show¬ (1:Int)<=(w.length:Int) by lia)];walk_at"w";exact⟨O,q⟩
 by_cases e:w.length<=8
 rotate_left
 ·rw[g9 λh=>e h.2.1]at q
  ((try walk_at"w");repeat(simp only[d3,nS,v4];try walk_at"w"))
  simp only[decide_true,bV,fh];walk_at"w";rw[lM1,ah (show(1:Int)<=(w.length:Int) by lia)];walk_at"w";rw[ai (show¬ (w.length:Int)<=8 by lia)];walk_at"w";exact⟨O,q⟩
 refine eg (λr V=>V=[]/\r=[Z (.tup (w.map zR))]) ?_ ?_
 ·((try walk_at"w");repeat(simp only[d3,nS,v4];try walk_at"w"))
  simp only[decide_true,bV,fh];walk_at"w";rw[lM1,ah (show(1:Int)<=(w.length:Int) by lia)];walk_at"w";rw[ah (show(w.length:Int)<=8 by lia)];walk_at"w"
 rintro r V ⟨rfl,rfl⟩;walk_at"w";refine ft.mpr ?_;refine nN (f:=zR) (λa=>D.bl (tf (a.length<=4))) (λc=>∃x,c=[x]) O w _ ⟨_,O⟩ ?_ ?_
 ·rintro a b c ⟨x,rfl⟩;walk_at"w";refine wG ?_;exact⟨O,O,_,O⟩
 ·rintro c _;refine ⟨dg (by rw [lM1];lia),?_⟩;walk_at"w";refine AJ rfl (fun x g=>by obtain ⟨_,_,rfl⟩:=bZ.mp g;exact ⟨_,rfl⟩) ?_;refine ⟨rfl,?_⟩;have:tf (∀ x∈w.map fun a=>D.bl (tf (a.length<=4)),x=D.bl true)=tf (mE w):=pN (by
   rw[List.forall_mem_map];constructor
   ·exact λh=>⟨d,e,λa b=>iW.mp (qz.mp (h a b))⟩
   ·exact λh a b=>qz.mpr (iW.mpr (h.2.2 a b)))
  rw[this];exact q
theorem BP{w:RZ}{r d:Nat}{p:Int×Int}{S:Sto}{Q:D×Sto->Prop}(h:AtZ w r d p)(q:Q (.bl (tf (G8 w r d p)),S)):W (c9 3 gK [zW w,.int r,.int d] S) Q:=by
 refine jK O (by rw[D.unds,pL,D.unds,D.unds,D.und,D.und];rfl) ?_;unfold gK;refine io ?_;unfold ms;obtain⟨B,a1,a2⟩:=h;refine eg (λt V=>V=[]/\t=[Z (zW w),Z (.int r),Z (.int d),Z (.int p.1),Z (.int p.2)]) ?_ ?_
 ·((try walk_at"w");repeat(simp only[qm a1,sf a2];try walk_at"w"))
  unfold zP;walk_at"w"
 rintro t V ⟨rfl,rfl⟩;have y:gEq (.tup [.int p.1,.int p.2]) (.tup [.int r,.int d]) []=Z (.bl (tf (p=((r:Int),(d:Int)))),[]):=zL (a:=p) (b:=((r:Int),(d:Int)))
 ((try walk_at"w");repeat(simp only[y];try walk_at"w"))
 by_cases f:p=((r:Int),(d:Int))
 ·rw[g9 (λh=>h.1 f)]at q;rw[nj f];walk_at"w";exact⟨O,q⟩
 rw[g9 f]
 ((try walk_at"w");repeat(simp only[ml,uc];try walk_at"w"))
 by_cases e:0<=p.1
 rotate_left
 ·rw[g9 (λh=>e h.2.1)]at q;rw[ai e];walk_at"w";exact⟨O,q⟩
 rw[ah e]
 ((try walk_at"w");repeat(simp only[uc];try walk_at"w"))
 by_cases c3:p.1<(w.length:Int)
 rotate_left
 ·rw [g9 (fun h=>by
   obtain⟨_,_,_,row2,b1,_⟩:=h;have:=(gE1.mp b1).1;lia)]at q
  rw[ai c3];walk_at"w";exact⟨O,q⟩
 rw[ah c3];obtain⟨k,x⟩:=Int.eq_ofNat_of_zero_le e;have i:k<w.length:=by lia
 obtain⟨row2,c⟩:∃row2,w[k]?=some row2:=⟨_,gG1 i⟩;have j:p.1.toNat=k:=by lia
 rw[x]
 ((try walk_at"w");repeat(simp only[ml];try walk_at"w"))
 by_cases c4:0<=p.2
 rotate_left
 ·rw[g9 (λh=>c4 h.2.2.1)]at q;rw[ai c4];walk_at"w";exact⟨O,q⟩
 rw[ah c4];have u:de (zW w) (.int (k:Int)) []=Z (zR row2,[]):=qm c
 ((try walk_at"w");repeat(simp only[u,zr];try walk_at"w"))
 by_cases c5:p.2<(row2.length:Int)
 rotate_left
 ·rw [g9 (fun h=>by
   obtain⟨_,_,_,o,b1,b2⟩:=h;rw[j,c]at b1;cases b1;have:=(gE1.mp b2).1;lia)]at q
  rw[ai c5];walk_at"w";exact⟨O,q⟩
 rw[ah c5];obtain⟨l,A⟩:=Int.eq_ofNat_of_zero_le c4;have m:l<row2.length:=by lia
 obtain⟨g,n⟩:∃g,row2[l]?=some g:=⟨_,gG1 m⟩;have s:p.2.toNat=l:=by lia
 rw[A];have z:gEq (zP g) (.tup [.int r,.int d]) []=Z (.bl (tf (g=((r:Int),(d:Int)))),[]):=zL (a:=g) (b:=((r:Int),(d:Int)));have v:de (zR row2) (.int (l:Int)) []=Z (zP g,[]):=sf n
 ((try walk_at"w");repeat(simp only[u,v,z];try walk_at"w"))
 refine⟨O,?_⟩;have:tf (g=((r:Int),(d:Int)))=tf (G8 w r d p):=pN (by
  constructor
  ·rintro rfl;exact⟨f,e,c4,by rw[j,s];exact⟨row2,c,n⟩⟩
  ·rintro⟨_,_,_,h⟩;rw[j,s]at h;exact(AtZ.det ⟨row2,c,n⟩ h))
 rw[this];exact q
def rn(w:RZ)(r:Nat):List (Int×Int):=w[r]?.getD []
theorem Cq{w:RZ}{S:Sto}{Q:D×Sto->Prop}(hf:mE w)(q:Q (.bl (tf (pF w)),S)):W (c9 1 gi [zW w] S) Q:=by
 obtain⟨v,z,o⟩:=hf;refine jK O (by rw[D.unds,pL];rfl) ?_;unfold gi;refine io ?_;unfold lp
 ((try walk_at"w");repeat(simp only[uc];try walk_at"w"))
 rw[k9,Int.toNat_natCast];refine⟨fw (by lia),?_⟩;refine DM (f:=λj:Nat=>D.int j) (λr=>(af (rn w r).length).map λd=>D.bl (tf (∀p,AtZ w r d p->G8 w r d p))) (λr=>∃s g,r=[s,g,Z (zW w)]) O (af w.length) _ ⟨_,_,O⟩ ?_ ?_
 ·rintro m l r ⟨s,g,rfl⟩;have l:=aA.mp l;obtain⟨row,a⟩:∃row,w[m]?=some row:=⟨_,gG1 l⟩;have y:=o row (gM1 a);have c:rn w m=row:=by unfold rn;rw[a];rfl
  ((try walk_at"w");repeat(simp only[Dm,qm a,zr];try walk_at"w"))
  rw[k9,Int.toNat_natCast,c];refine⟨fw (by lia),?_⟩;refine nN (f:=λj:Nat=>D.int j) (λd=>D.bl (tf (∀p,AtZ w m d p->G8 w m d p))) (λr=>∃g,r=[Z (.int (m:Nat)),g,Z (zW w)]) O (af row.length) _ ⟨_,O⟩ ?_ ?_
  ·rintro d n r ⟨g,rfl⟩;have n:=aA.mp n;have e:AtZ w m d row[d]:=⟨row,a,gG1 n⟩;walk_at"w";refine BP e ?_;refine⟨congrArg D.bl (pN ⟨λh p i=>by rw[<- e.det i];exact h,λh=>h _ e⟩),O,_,O⟩
  ·rintro t ⟨g,rfl⟩;exact⟨O,O,_,_,O⟩
 ·rintro t _;have u:((List.range w.length).flatMap fun r=>(List.range (rn w r).length).map fun d=>D.bl (tf (∀ p,AtZ w r d p->G8 w r d p))).length<=1000:=by
   rw[List.length_flatMap];refine aB (xY (k:=4) λx b=>?_) (show 4*_<=1000 by rw[cx];lia);rw[lM1,cx];have l:=aA.mp b;have a:w[x]?=Z w[x]:=gG1 l;unfold rn;rw[a];exact o _ (gM1 a)
  refine⟨dg (aB u (by decide)),?_⟩;walk_at"w";refine AJ O (λx b=>by
   obtain⟨r,_,b⟩:=List.mem_flatMap.mp b;obtain⟨_,_,rfl⟩:=bZ.mp b;exact⟨_,O⟩) ?_
  refine⟨O,?_⟩;have:tf (∀x∈(af w.length).flatMap λr=>(af (rn w r).length).map λd=>D.bl (tf (∀p,AtZ w r d p->G8 w r d p)),x=D.bl M)=tf (pF w):=pN (by
   constructor
   ·intro h r d p i;obtain⟨row,h1,h2⟩:=i;have c:rn w r=row:=by unfold rn;rw[h1];rfl
    have:=h _ (List.mem_flatMap.mpr ⟨r,aA.mpr (gE1.mp h1).1,bZ.mpr ⟨d,aA.mpr (by rw[c];exact(gE1.mp h2).1),O⟩⟩);exact iW.mp (qz.mp this) p ⟨row,h1,h2⟩
   ·intro h x b;obtain⟨r,_,b⟩:=List.mem_flatMap.mp b;obtain⟨d,_,rfl⟩:=bZ.mp b;exact qz.mpr (iW.mpr λp i=>h r d p i))
  rw[this];exact q
theorem B0{xs:List Nat}{x:Nat}:nmD xs++[D.int (x:Int)]=nmD (xs++[x]):=by simp[nmD]
theorem EL{w:dU}{r:Nat}(hr:r<w.length):∃row,w[r]?=Z row:=⟨_,gG1 hr⟩
theorem IY{w:dU}{r:Nat}{row:List (Nat×Nat)}{S:Sto}{Q:D×Sto->Prop}(h:w[r]?=Z row)(q:Q (.tup (row.map dP),S)):W (de (dW w) (.int r) S) Q:=
 v5 (i:=r) (x:=.tup (row.map dP)) (by rw[gP1,h];rfl) q
def dF(L:List (Nat×List Nat)):List (Key×D):=L.map λp=>(Sum.inl (p.1:Int),D.tup (nmD p.2))
def sU(L:List (Nat×List Nat)):Sto:=[.dct (dF L),.lst (nmD (L.map (·.1)))]
theorem mY:∀{L:List (Nat×List Nat)} {p:Nat×List Nat},(L.map (·.1)).Nodup->p∈L->dy (dF L) (Sum.inl (p.1:Int))=Z (.tup (nmD p.2))
 |[],_,_,h=>by cases h
 |x::L,p,nd,h=>by
  rw[mP1,aL]at nd;unfold dF dy;rw[mP1,bb];rcases aD.mp h with z|z
  ·subst z;simp
  ·have a:x.1≠p.1:=λe=>nd.1 (by rw[e];exact bZ.mpr ⟨p,z,O⟩);have:decide ((Sum.inl (x.1:Int):Key)=Sum.inl (p.1:Int))=J:=ai λe=>a (by injection e with e;lia);dsimp only;rw[this];exact mY (L:=L) nd.2 z
theorem v0{L:List (Nat×List Nat)}{v:Nat}(h:v∉L.map (·.1)):((dF L).any λp=>decide (p.1=Sum.inl (v:Int)))=J:=by
 rw[cq];intro z;obtain⟨x,a,e⟩:=bM.mp z;obtain⟨p,b,rfl⟩:=bZ.mp a;have e:=of_decide_eq_true e;dsimp only at e;injection e with e;exact h (bZ.mpr ⟨p,b,by lia⟩)
theorem r9{L:List (Nat×List Nat)}{v:Nat}(h:v∉L.map (·.1)):dy (dF L) (Sum.inl (v:Int))=Y:=by
 unfold dy;rw[Option.map_eq_none_iff,List.find?_eq_none];intro x a z;have:=v0 h;rw[cq]at this;exact this (bM.mpr ⟨x,a,z⟩)
theorem Bu{L:List (Nat×List Nat)}{v:Nat}{ws:List Nat}(h:v∉L.map (·.1)):gQ (dF L) (Sum.inl (v:Int)) (.tup (nmD ws))=dF (L++[(v,ws)]):=by
 unfold gQ;rw[v0 h,aj (by decide)];unfold dF;rw[b9];rfl
theorem yP{S:Sto}{n v:Nat}{F:List (Key×D)}(h:S[n]?=Z (.dct F)):gl (.int (v:Nat)) (.ref n) S=Z (.bl (!(dy F (Sum.inl (v:Int))).isSome),S):=by
 simp only[gl,i4,h,nQ,oP1]
theorem IB{S:Sto}{n v:Nat}{F:List (Key×D)}{d:D}(h:S[n]?=Z (.dct F))(a:dy F (Sum.inl (v:Int))=Z d):de (.ref n) (.int (v:Nat)) S=Z (d,S):=by
 simp only[de,mK,h,nQ,oS1,a,oP1]
theorem EB{S:Sto}{n v:Nat}{F:List (Key×D)}{d:D}(h:S[n]?=Z (.dct F))(a:F≠[])(b:F.length<1000):fR (.ref n) (.int (v:Nat)) d S=Z (.non,S.set n (.dct (gQ F (Sum.inl (v:Int)) d))):=by
 cases F with
 |nil=>exact absurd O a
 |cons x F=>
  have h2:fR (.ref n) (.int (v:Nat)) d S=jH (.ref n) (.int (v:Nat)) d S:=by simp only[fR,h]
  rw[h2];simp only[jH,h,nQ,oS1];rw[ak (bi b (by decide))]
structure BI (m:Nat)(w:dU)(L:List (Nat×List Nat))(a j:Nat):Prop where
 nd:(L.map (·.1)).Nodup
 inn:∀p∈L,p.1<m
 hd:0∈L.map (·.1)
 len:∀(i:Nat) (p:Nat×List Nat),L[i]?=some p->p.2.length<=i
 rch:∀P:Nat->Prop,P 0->(∀r d p,At w r d p->P r->P p.1) -> ∀p∈L,P p.1
 cl:∀(i d:Nat) (p:Nat×List Nat) (e:Nat×Nat),L[i]?=some p->At w p.1 d e->(i<a\/(i=a/\d<j))->e.1∈L.map (·.1)
theorem few:∀{N:Nat} {l:List Nat},l.Nodup->(∀x∈l,x<N)->l.length<=N
 |0,l,_,h=>by
  cases l with
  |nil=>simp
  |cons a l=>have:=h a mS1;lia
 |N+1,l,n,h=>by
  by_cases d:N∈l
  ·have h1:=few (N:=N) (l:=l.erase N) (n.erase N) fun x c=>by
    have b:=(List.Nodup.mem_erase_iff n).mp c;have:=h x b.2;have:=b.1;lia
   have:=List.length_erase_of_mem d;lia
  ·have:=few (N:=N) (l:=l) n fun x c=>by
    have h1:=h x c;have:x≠N:=λz=>d (z ▸ c);lia
   lia
theorem BI.few{m a j:Nat}{w:dU}{L:List (Nat×List Nat)}(b:BI m w L a j):L.length<=m:=by
 have:=Law.few b.nd (N:=m) λx c=>by
  obtain⟨p,d,rfl⟩:=bZ.mp c;exact b.inn p d
 rwa [lM1]at this
theorem BI.old{m a j:Nat}{w:dU}{L:List (Nat×List Nat)}{k:Nat×List Nat}{e:Nat×Nat}(b:BI m w L a j)(l:L[a]?=Z k)(f:At w k.1 j e)(c:e.1∈L.map (·.1)):BI m w L a (j+1):=by
 refine⟨b.nd,b.inn,b.hd,b.len,b.rch,λi d p o h1 h2 t=>?_⟩;by_cases r:i=a/\d=j
 ·obtain⟨rfl,rfl⟩:=r;rw[l]at h1;cases h1;obtain⟨s,n,q⟩:=f
  obtain⟨r2,h,g⟩:=h2;rw[n]at h;cases h;rw[q]at g;cases g;exact c
 ·exact b.cl i d p o h1 h2 (by lia)
theorem BI.new{m a j:Nat}{w:dU}{L:List (Nat×List Nat)}{f:Nat×List Nat}{e:Nat×Nat}(b:BI m w L a j)(l:L[a]?=Z f)(g:At w f.1 j e)(hm:e.1<m)(n:e.1∉L.map (·.1)):BI m w (L++[(e.1,f.2++[j])]) a (j+1):=by
 have A:=(gE1.mp l).1;have sub:∀x,x∈L.map (·.1)->x∈(L++[(e.1,f.2++[j])]).map (·.1):=λx o=>by rw[b9];exact aF _ o
 refine⟨?_,λp c=>?_,sub 0 b.hd,λi p h=>?_,λP k hc p c=>?_,λi d p t h1 h2 E=>?_⟩
 ·rw[b9,bx];refine⟨b.nd,by simp,λx o y C z=>?_⟩;have:y=e.1:=by simpa using C
  exact n (by rw[<- this,<- z];exact o)
 ·rcases aE.mp c with c|c
  ·exact b.inn p c
  ·rw[cD]at c;subst c;exact hm
 ·by_cases q:i<L.length
  ·rw[gL1 q]at h;exact b.len i p h
  ·have:=(gE1.mp h).1;rw[lA1,aY]at this;have v:i=L.length:=by lia
   subst v;rw[List.getElem?_concat_length]at h;cases h;have:=b.len a f l;rw[lA1,aY];lia
 ·rcases aE.mp c with c|c
  ·exact b.rch P k hc p c
  ·rw[cD]at c;subst c;exact hc _ _ _ g (b.rch P k hc f (gM1 l))
 ·rw[gL1 (by lia)]at h1;by_cases D:i=a/\d=j
  ·obtain⟨rfl,rfl⟩:=D;rw[l]at h1;cases h1;obtain⟨F,B,u⟩:=g
   obtain⟨r2,r,s⟩:=h2;rw[B]at r;cases r;rw[u]at s;cases s;rw[b9];exact mA1 _ (by simp)
  ·exact sub _ (b.cl i d p t h1 h2 (by lia))
theorem BI.all{a:Nat}{w:dU}{L:List (Nat×List Nat)}(b:BI w.length w L a 0)(ha:L.length<=a):(∀v,v<w.length->v∈L.map (·.1))↔Con w:=by
 constructor
 ·intro h P j hc v f;obtain⟨p,c,rfl⟩:=bZ.mp (h v f);exact b.rch P j hc p c
 ·intro g;refine g (λv=>v∈L.map (·.1)) b.hd λr d e h1 h2=>?_;obtain⟨p,c,k⟩:=bZ.mp h2;obtain⟨i,hi⟩:=bt c;exact b.cl i d p e hi (by rw[k];exact h1) (.inl (by have:=(gE1.mp hi).1;lia))
def oL:Option (List Nat)->D
 |none=>.non
 |some x=>.tup (nmD x)
theorem FH{n:Nat}:∀x,(oL x).und n=M
 |none=>rfl
 |some x=>by rw[oL,D.und];exact dH (fI _)
def Ef(ws:List (Option (List Nat))):D:=.tup (ws.map oL)
theorem Ee{w:dU}{S:Sto}{Q:D×Sto->Prop}(hw:WP w)(q:∀ws:List (Option (List Nat)),(Y∉ws↔Con w)->Q (Ef ws,S)):W (c9 2 nO [dW w,.int 0] S) Q:=by
 refine jK O (by rw[D.unds,ky,D.unds,D.und];rfl) ?_;have U:=hw.pos;have hm:=hw.few;unfold nO;refine io ?_;unfold Az;refine eg (λg V=>V=[.dct (dF [(0,[])])]/\g=[Z (dW w),Z (.int 0),Z (.ref 0),Y,Y,Y,Y,Y,Y]) ?_ ?_
 ·have e:mj [((mV 1),(dz cY))] [Z (dW w),Z (.int 0),Y,Y,Y,Y,Y,Y,Y] []=Z (.ref 0,[.dct (dF [(0,[])])]):=rfl
  ((try walk_at"w");repeat(simp only[e];try walk_at"w"))
 rintro g V ⟨rfl,rfl⟩;refine eg (λg V=>V=sU [(0,[])]/\g=[Z (dW w),Z (.int 0),Z (.ref 0),Z (.ref 1),Y,Y,Y,Y,Y]) ?_ ?_
 ·walk_at"w";exact⟨O,trivial⟩
 rintro g V ⟨rfl,rfl⟩;refine eg (λg V=>V=sU [(0,[])]/\g=[Z (dW w),Z (.int 0),Z (.ref 0),Z (.ref 1),Z (.int ((0:Nat):Int)),Y,Y,Y,Y]) ?_ ?_
 ·walk_at"w";rfl
 rintro g V ⟨rfl,rfl⟩;refine eg (λg V=>∃L a x4 ao K I am,BI w.length w L a 0/\L.length<=a/\V=sU L/\g=[Z (dW w),Z (.int 0),Z (.ref 0),Z (.ref 1),x4,ao,K,I,am]) ?_ ?_
 ·refine xt (λk g V=>∃L ao K I am,BI w.length w L k 0/\V=sU L/\g=[Z (dW w),Z (.int 0),Z (.ref 0),Z (.ref 1),Z (.int (k:Nat)),ao,K,I,am]) 8 ?_ 100000 0 _ _ (by lia) ⟨[(0,[])],_,_,_,_,⟨by simp,λp C=>by simp at C;subst C;exact U,by simp,λi p h=>by cases i with|zero=>cases h;simp|succ i=>simp at h,λP ar _ p C=>by simp at C;subst C;exact ar,λi d p e _ _ h=>by lia⟩,O,O⟩;rintro k g V ⟨L,ao,K,I,am,b,rfl,rfl⟩;have hLf:=b.few;unfold rz;walk_at"w";refine eI (xs:=nmD (L.map (·.1))) O ?_;walk_at"w";rw[eQ,lM1];by_cases hlt:k<L.length
  ·rw[ak (by rw[al];lia)];refine⟨by lia,?_⟩;obtain⟨r,ar⟩:∃p,L[k]?=some p:=⟨_,gG1 hlt⟩;have wq:=b.inn r (gM1 ar);obtain⟨s,o⟩:=EL wq;have hr4:=hw.le _ s o;unfold rv;refine eg (λg V=>V=sU L/\g=[Z (dW w),Z (.int 0),Z (.ref 0),Z (.ref 1),Z (.int (k:Nat)),Z (.int (r.1:Nat)),K,I,am]) ?_ ?_
   ·walk_at"w";refine gt (i:=k) (xs:=nmD (L.map (·.1))) (x:=.int (r.1:Nat)) O (by rw[nmD,gP1,gP1,ar];rfl) ?_;walk_at"w"
   rintro g V ⟨rfl,rfl⟩;refine eg (λg V=>∃l B G H,BI w.length w l k s.length/\l[k]?=Z r/\V=sU l/\g=[Z (dW w),Z (.int 0),Z (.ref 0),Z (.ref 1),Z (.int (k:Nat)),Z (.int (r.1:Nat)),B,G,H]) ?_ ?_
   ·unfold ga;rw[dh];refine I3 (xs:=s.map dP) ?_ ?_
    ·obtain⟨p,e,rfl⟩:=IY (S:=sU L) (Q:=λp=>p=(.tup (s.map dP),sU L)) o O;simp only[cX,cY,m2,b2,mV,gC1,cs,oS1,e]
    refine fv (λj g V=>∃l B G H,j<=s.length/\BI w.length w l k j/\l[k]?=Z r/\V=sU l/\g=[Z (dW w),Z (.int 0),Z (.ref 0),Z (.ref 1),Z (.int (k:Nat)),Z (.int (r.1:Nat)),B,G,H]) _ 0 _ _ ⟨L,_,_,_,by lia,b,ar,O,O⟩ (λ_ _ _ _=>rfl) ?_ ?_
    ·rintro j dd N g V ⟨l,B,G,H,hj,m,c,rfl,rfl⟩;rw[iq,gP1]at N;obtain⟨z,hz,rfl⟩:=oM1.mp N;obtain⟨goal,y,rfl⟩:=oM1.mp hz;have hjlt:=(gE1.mp y).1;rw[bI]at *
     have E:At w r.1 j goal:=⟨s,o,y⟩;have hLf':=m.few;have R:=mY m.nd (gM1 c);have hne:l≠[]:=λz=>by rw[z]at c;simp at c
     unfold dP;walk_at"w";unfold rB
     ((try walk_at"w");repeat(simp only[yP (S:=sU l) (n:=0) (F:=dF l) O];try walk_at"w"))
     by_cases t:goal.1∈l.map (·.1)
     ·obtain⟨p',aq,e'⟩:=bZ.mp t;have u:=mY m.nd aq;rw[e']at u;rw[u,aj (by simp)];exact⟨l,_,_,_,by lia,m.old c E t,c,O,O⟩
     ·rw[r9 t,ak (by simp)]
      ((try walk_at"w");repeat(simp only[IB (S:=sU l) (n:=0) (F:=dF l) O R];try walk_at"w"))
      have hpl:r.2.length<=8:=by
       have h1:=m.len k r c;have h2:=(gE1.mp c).1;lia
      refine⟨dg (by rw[eQ];lia),?_⟩;rw[B0]
      ((try walk_at"w");repeat(simp only[EB (S:=sU l) (n:=0) (v:=goal.1) (F:=dF l) (d:=.tup (nmD (r.2++[j]))) O (by unfold dF;simpa using hne) (by unfold dF;rw[lM1];lia)];try walk_at"w"))
      rw[Bu t];refine ow ?_;walk_at"w";refine⟨1,nmD (l.map (·.1)),O,O,?_⟩;refine(sP (n:=1) (xs:=nmD (l.map (·.1))) O).mpr ⟨dg (by rw[eQ,lM1];lia),?_⟩;refine⟨l++[(goal.1,r.2++[j])],_,_,_,by lia,m.new c E (hw.back _ _ _ E).lt t,by rw[gL1 (gE1.mp c).1];exact c,?_,O⟩;unfold sU;simp[nmD]
    ·rintro g V ⟨l,B,G,H,hj,m,c,rfl,rfl⟩;rw[ip,lM1,bI]at m;exact⟨O,l,_,_,_,m,c,O,O⟩
   rintro g V ⟨l,B,G,H,m,c,rfl,rfl⟩;refine W.of (x:=(.nx,[Z (dW w),Z (.int 0),Z (.ref 0),Z (.ref 1),Z (.int ((k+1:Nat):Int)),Z (.int (r.1:Nat)),B,G,H],sU l)) O ?_;refine⟨O,l,_,_,_,_,⟨m.nd,m.inn,m.hd,m.len,m.rch,λi d p e h1 h2 h3=>m.cl i d p e h1 h2 ?_⟩,O,O⟩;rcases(show i<k\/i=k by lia)with h|rfl
   ·exact .inl h
   ·rw[c]at h1;cases h1;obtain⟨row',g1,g2⟩:=h2;rw[o]at g1;cases g1;exact .inr ⟨O,(gE1.mp g2).1⟩
  ·rw[aj (by rw[al];lia)];exact⟨L,k,_,_,_,_,_,b,by lia,O,O⟩
 rintro g V ⟨L,a,x4,ao,K,I,am,b,ha,rfl,rfl⟩;have T:∀v:Nat,∃x:Option (List Nat),(dy (dF L) (Sum.inl (v:Int))).getD .non=oL x/\(x=Y↔v∉L.map (·.1)):=λv=>by
  by_cases A:v∈L.map (·.1)
  ·obtain⟨p,C,e⟩:=bZ.mp A;have h1:=mY b.nd C;rw[e]at h1;exact⟨Z p.2,by rw[h1];rfl,⟨λz=>(by cases z),λz=>(z A).elim⟩⟩
  ·exact⟨Y,by rw[r9 A];rfl,⟨λ_=>A,λ_=>rfl⟩⟩
 obtain⟨f,X⟩:=Classical.axiomOfChoice T
 ((try walk_at"w");repeat(simp only[zt];try walk_at"w"))
 refine⟨fw (by lia),?_⟩;rw[k9,Int.toNat_natCast];refine nN (f:=λj:Nat=>D.int j) (λv=>oL (f v)) (λg=>∃x,g=[x,Z (.ref 0)]) O (af w.length) _ ⟨_,O⟩ ?_ ?_
 ·rintro v A g ⟨x,rfl⟩;walk_at"w";refine W.of (x:=(oL (f v),sU L)) ?_ ⟨O,O,_,O⟩;show(Z ((dy (dF L) (Sum.inl (v:Int))).getD .non,sU L))=_;rw[(X v).1]
 ·rintro g ⟨x,rfl⟩;refine⟨dg (by rw[lM1,cx];lia),?_⟩;walk_at"w";refine eI O ?_;refine⟨?_,?_⟩
  ·rw[D.und];exact Mi.unds_map λ_ _=>FH _
  ·have:=q ((List.range w.length).map f) (by
    rw[<- b.all ha];constructor
    ·intro h v A;refine Classical.byContradiction λz=>h (bZ.mpr ⟨v,aA.mpr A,(X v).2.mpr z⟩)
    ·intro h z;obtain⟨v,A,e⟩:=bZ.mp z;exact(X v).2.mp e (h v (aA.mp A)))
   unfold Ef at this;rw[bu]at this;exact this
theorem yO{S:Sto}:∀xs:List (Option (List Nat)),sm (hB S dQ) .non (xs.map oL)=Z (tf (Y∈xs))
 |[]=>by rw[g9 (by simp)];rfl
 |x::xs=>by
  rw[mP1,sm,yO xs];cases x with
  |none=>
   have:tf (Y∈Y::xs)=M:=nj mS1;rw[this];rfl
  |some x=>
   have:tf (Y∈Z x::xs)=tf (Y∈xs):=pN (by simp);rw[this];rfl
theorem CJ{w:dU}{S:Sto}{Q:D×Sto->Prop}(hw:WP w)(q:Q (.bl (tf (Con w)),S)):W (c9 1 eZ [dW w] S) Q:=by
 refine jK O (by rw[D.unds,ky];rfl) ?_;unfold eZ;refine io ?_;unfold iR;walk_at"w";refine Ee hw λws h=>?_;have a:gl .non (Ef ws) []=Z (.bl (!tf (Y∈ws)),[]):=by
  show(sm (hB [] dQ) .non (ws.map oL)).map _=_;rw[yO];rfl
 ((try walk_at"w");repeat(simp only[a];try walk_at"w"))
 refine⟨O,?_⟩;have:(!tf (Y∈ws))=tf (Con w):=nk (by rw[<- h,Bool.not_eq_true',<- Bool.not_eq_true,iW]);rw[this];exact q
def sR(w:RZ):Prop:=∃w',w=pK w'/\WP w'/\Con w'
theorem uR{a b:dU}(h:pK a=pK b):a=b:=by
 unfold pK at h;exact(List.map_inj_right λx y e=>(List.map_inj_right λ_ _=>tF).mp e).mp h
theorem Cz{w:RZ}{S:Sto}{Q:D×Sto->Prop}(q:Q (.bl (tf (sR w)),S)):W (c9 1 gJ [zW w] S) Q:=by
 refine jK O (by rw[D.unds,pL];rfl) ?_;unfold gJ;refine io ?_;unfold oi;walk_at"w";refine CO ?_;by_cases b:mE w
 rotate_left
 ·rw[g9 (λ⟨a,e,h,_⟩=>b (by rw[e];exact h.form.1))]at q;rw[g9 b];walk_at"w";exact⟨O,q⟩
 rw[nj b];walk_at"w";refine Cq b ?_;by_cases c:pF w
 rotate_left
 ·rw[g9 (λ⟨a,e,h,_⟩=>c (by rw[e];exact h.form.2))]at q;rw[g9 c];walk_at"w";exact⟨O,q⟩
 rw[nj c];walk_at"w";obtain⟨a,rfl,d⟩:=Hk b c;rw[Am];refine CJ d ?_;refine⟨O,?_⟩;have:tf (Con a)=tf (sR (pK a)):=pN ⟨λh=>⟨a,O,d,h⟩,λ⟨v,e,_,h⟩=>by rw[uR e];exact h⟩;rw[this];exact q
mutual
def vd(S:Sto):D->Bool
 | .non=>M
 | .bl _=>M
 | .int _=>M
 | .str _=>M
 | .tup xs=>fm S xs
 | .rol xs=>fm S xs
 | .ref n=>match S[n]? with
  |some (.lst _)=>M
  |some (.dct _)=>M
  |some (.dcT _)=>M
  |_=>J
 | .fn _=>J
def fm(S:Sto):List D->Bool
 |[]=>M
 |d::ds=>vd S d&&fm S ds
end
mutual
theorem Hm{S T:Sto}:∀{d:D},vd S d=M->d.und 0=M->vd T d=M
 | .non,_,_=>by rw[vd]
 | .bl _,_,_=>by rw[vd]
 | .int _,_,_=>by rw[vd]
 | .str _,_,_=>by rw[vd]
 | .tup xs,v,h=>by rw[D.und]at h;rw[vd]at v ⊢;exact ng v h
 | .rol xs,v,h=>by rw[D.und]at h;rw[vd]at v ⊢;exact ng v h
 | .ref k,_,h=>by simp[D.und]at h
 | .fn x,v,_=>by simp[vd]at v
theorem ng{S T:Sto}:∀{ds:List D},fm S ds=M->D.unds 0 ds=M->fm T ds=M
 |[],_,_=>by rw[fm]
 |d::ds,v,h=>by
  rw[D.unds,bA1]at h;rw[fm,bA1]at v;rw[fm,Hm v.1 h.1,ng v.2 h.2];rfl
end
theorem dq{S:Sto}{d:D}:∀{ds:List D},fm S ds=M->d∈ds->vd S d=M
 |[],_,h=>by cases h
 |x::ds,h,m=>by
  rw[fm,bA1]at h;rcases aD.mp m with z|z
  ·rw[z];exact h.1
  ·exact dq h.2 z
theorem fG{n:Nat}{f:FN}{ds:List D}{S:Sto}{Q:D×Sto->Prop}(hn:ds.length=n)(b:d5 S)(hv:fm S ds=M)(h:∀T,d5 T->fm T ds=M->W (f ds T) λp=>(∃G,p.2=T++G)/\p.1.und 0=M/\Q (p.1,S)):W (c9 n f ds S) Q:=by
 cases hu:D.unds 0 ds with
 |true=>exact jK hn hu ((h [] rfl (ng hv hu)).mono λp q=>⟨q.2.1,q.2.2⟩)
 |false=>
  refine sI hn hu ((h S b hv).mono ?_);rintro⟨d,V⟩ ⟨⟨G,e⟩,a,q⟩;dsimp only at e a q;subst e;rw[zH a b];exact q
def kE:D->Bool
 | .tup _=>M
 |_=>J
def tw:D->Bool
 | .int _=>M
 |_=>J
def AU:D->Bool
 | .bl _=>M
 |_=>J
theorem fc{S:Sto}{d:D}(h:vd S d=M):i3 S .tuple d=Z (kE d):=by
 cases d with
 |ref n=>
  rw[vd]at h;rw[i3];split at h<;>first|(rename_i e;rw[e];rfl)|rfl|cases h
 |fn x=>simp[vd]at h
 |_=>rfl
theorem xG{S:Sto}{d:D}(h:vd S d=M):i3 S .int d=Z (tw d||AU d):=by
 cases d with
 |ref n=>
  rw[vd]at h;rw[i3];split at h<;>first|(rename_i e;rw[e];rfl)|rfl|cases h
 |fn x=>simp[vd]at h
 |_=>rfl
theorem pM{S:Sto}{d:D}(h:vd S d=M):i3 S .bool d=Z (AU d):=by
 cases d with
 |ref n=>
  rw[vd]at h;rw[i3];split at h<;>first|(rename_i e;rw[e];rfl)|rfl|cases h
 |fn x=>simp[vd]at h
 |_=>rfl
theorem q9{S:Sto}{d:D}(h:vd S d=M):fm S [d]=M:=by rw[fm,fm,h];rfl
theorem vd1'{S:Sto}{d:D}{ds:List D}(h:fm S (d::ds)=M):vd S d=M:=dq h mS1
theorem pI{d:D}{S:Sto}{Q:D×Sto->Prop}(c:d5 S)(hv:vd S d=M)(q:Q (.bl (tw d),S)):W (c9 1 fe [d] S) Q:=by
 refine fG O c (q9 hv) λT _ a=>?_;have h1:=xG (vd1' a);have h2:=pM (vd1' a);unfold fe;refine io ?_;unfold oh
 ((try walk_at"w");repeat(simp only[d8,h1,h2];try walk_at"w"))
 cases d with
 |int i=>exact⟨⟨[],(aK T).symm⟩,O,q⟩
 |bl b=>exact⟨⟨[],(aK T).symm⟩,O,q⟩
 |_=>exact⟨⟨[],(aK T).symm⟩,O,q⟩
def j3:D->Bool
 | .tup xs=>decide (xs.length=2)
 |_=>J
theorem xI{d:D}{S:Sto}{Q:D×Sto->Prop}(b:d5 S)(hv:vd S d=M)(q:Q (.bl (j3 d),S)):W (c9 2 dJ [d,.int 2] S) Q:=by
 refine fG O b (by rw[fm,hv,fm,fm,vd];rfl) λT _ a=>?_;have h1:=fc (vd1' a);unfold dJ;refine io ?_;unfold iz
 ((try walk_at"w");repeat(simp only[d8,h1];try walk_at"w"))
 cases d with
 |tup xs=>
  ((try walk_at"w");repeat(simp only[kE];try walk_at"w"))
  refine⟨⟨[],(aK T).symm⟩,O,?_⟩;have e:(((xs.length:Nat):Int) == 2)=j3 (.tup xs):=by rw[j3,bL,beq_iff_eq,al];lia
  rw[e];exact q
 |_=>exact⟨⟨[],(aK T).symm⟩,O,q⟩
def ge(m:Nat):D->Bool
 | .int i=>decide (0<=i)&&decide (i<m)
 |_=>J
theorem De{m:Nat}{d:D}(h:tw d=J):ge m d=J:=by
 cases d with
 |int i=>cases h
 |_=>rfl
theorem GX{d:D}(h:tw d=M):∃i,d = .int i:=by
 cases d with
 |int i=>exact⟨i,O⟩
 |_=>cases h
theorem C7{r:Ev}{S:Sto}{m i:Nat}{j:Int}{c:FE}{Q:D×Sto->Prop}(hi:r[i]?=Z (Z (.int j)))(hc:c r S=Z (.int m,S))(q:Q (.bl (decide (0<=j)&&decide (j<m)),S)):W (ml (b2 (fA λi j=>decide (i<=j))) (b2 oA) (mC (D.int (0))) (mV i) c r S) Q:=by
 have e:mV i r S=Z (.int j,S):=by unfold mV;rw[hi]
 rw[v4];unfold mC;rw[dm];dsimp only;rw[e,dm];dsimp only;unfold b2 fA;dsimp only;rw[dm];dsimp only;cases h:decide (0<=j)with
 |false=>
  rw[aj (by decide),dm];rw[h]at q;exact q
 |true=>
  rw[ak O,hc,dh,dm];rw[h]at q;exact W.of O q
theorem ln{m:Nat}{d:D}{S:Sto}{Q:D×Sto->Prop}(e:d5 S)(hv:vd S d=M)(q:Q (.bl (ge m d),S)):W (c9 2 eN [d,.int m] S) Q:=by
 refine fG O e (by rw[fm,hv,fm,fm,vd];rfl) λT c a=>?_;have b:=vd1' a;unfold eN;refine io ?_;unfold ol;walk_at"w";refine pI c b ?_;walk_at"w";cases hw:tw d with
 |false=>
  rw[aj (by decide)];rw[De hw]at q
  first|exact⟨⟨[],(aK T).symm⟩,rfl,q⟩|(rw[dm];exact⟨⟨[],(aK T).symm⟩,O,q⟩)
 |true=>
  rw[ak O];obtain⟨i,rfl⟩:=GX hw;refine C7 (m:=m) O O ?_
  try walk_at"w"
  exact⟨⟨[],(aK T).symm⟩,O,q⟩
def pj(rs:List Nat):Bool:=(af (rs.length-1)).all λi=>decide (rs.getD i 0<rs.getD (i+1) 0)
def EG(rs:List Nat):List Nat:=(fF (ddI (rs.map λ(r:Nat)=>(r:Int)))).map Int.toNat
theorem EF(rs:List Nat):(fF (ddI (rs.map λ(r:Nat)=>(r:Int)))).map D.int=nmD (EG rs):=by
 unfold nmD EG;rw[bu];refine cj λi hi=>?_;obtain⟨x,_,rfl⟩:=bZ.mp (nL.mp ((en _).mem_iff.mp hi));rfl
theorem zC{rs:List Nat}(h:pj rs=M):rs.Pairwise (· < ·):=by
 unfold pj at h;rw[bA]at h;have a:∀i,i+1<rs.length->rs.getD i 0<rs.getD (i+1) 0:=λi hi=>by
  have:=h i (aA.mpr (by lia));exact of_decide_eq_true this
 rw[b0];intro i j hi d e;have b:∀k,i+k+1<rs.length->rs.getD i 0<rs.getD (i+k+1) 0:=by
  intro k
  induction k with
  |zero=>intro c;exact a i c
  |succ k ih=>intro c;exact bi (ih (by lia)) (a (i+k+1) (by lia))
 have:=b (j-i-1) (by lia);rw[show i+(j-i-1)+1=j by lia]at this;rw[bG,bG,gG1 hi,gG1 d]at this;exact this
theorem CH(rs:List Nat):(rs == EG rs)=pj rs:=by
 rw[bL,beq_iff_eq];constructor
 ·intro e;have d:=iE (ddI (rs.map fun (r:Nat)=>(r:Int)));have j:(fF (ddI (rs.map fun (r:Nat)=>(r:Int)))).Nodup:=(en _).nodup_iff.mpr (lk _ [] br);have lt:rs.Pairwise (· < ·):=by
   rw[e];unfold EG;refine cr.mpr ?_;have c:=List.pairwise_and_iff.mpr ⟨d,j⟩;refine List.Pairwise.imp_of_mem ?_ c;intro a b g f h;obtain⟨x,_,rfl⟩:=bZ.mp (nL.mp ((en _).mem_iff.mp g));obtain⟨y,_,rfl⟩:=bZ.mp (nL.mp ((en _).mem_iff.mp f));have h1:=h.1;have h2:=h.2;show x<y;have:x≠y:=λz=>h2 (by rw[z]);lia
  unfold pj;rw[bA];intro i hi;have hi:=aA.mp hi;rw[al,bG,bG,gG1 (by lia),gG1 (by lia)];exact b0.mp lt i (i+1) (by lia) (by lia) (by lia)
 ·intro h;have d:=zC h;have e:fF (ddI (rs.map fun (r:Nat)=>(r:Int)))=rs.map fun (r:Nat)=>(r:Int):=by
   refine kZ ((en _).trans ((List.perm_ext_iff_of_nodup (lk _ [] br) ?_).mpr λk=>?_)) (iE _) ?_
   ·exact cr.mpr (d.imp λh z=>by lia)
   ·exact nL
   ·exact cr.mpr (d.imp λh=>by lia)
  unfold EG;rw[e,bu];have:(Int.toNat∘λ(r:Nat)=>(r:Int))=id:=by funext x;simp
  rw[this,List.map_id]
mutual
def bd(k:Nat):D->Bool
 | .tup xs=>decide (xs.length<=k)&&GY k xs
 | .non=>M
 | .bl _=>M
 | .int _=>M
 | .str _=>M
 | .rol _=>J
 | .ref _=>M
 | .fn _=>J
def GY(k:Nat):List D->Bool
 |[]=>M
 |d::ds=>bd k d&&GY k ds
end
theorem og{k:Nat}:∀xs:List D,GY k xs=xs.all (bd k)
 |[]=>by rw[GY];rfl
 |x::xs=>by rw[GY,og xs];rfl
theorem tD{S:Sto}:∀xs:List D,fm S xs=xs.all (vd S)
 |[]=>by rw[fm];rfl
 |x::xs=>by rw[fm,tD xs];rfl
theorem ic{n:Nat}:∀xs:List D,D.unds n xs=xs.all (D.und n)
 |[]=>rfl
 |x::xs=>by rw[D.unds,ic xs];rfl
structure Ok (k:Nat)(S:Sto)(d:D):Prop where
 v:vd S d=true
 u:d.und S.length=true
 b:bd k d=true
theorem Ok.tup{k:Nat}{S:Sto}{xs:List D}(b:xs.length<=k)(h:∀x∈xs,Ok k S x):Ok k S (.tup xs):=by
 refine⟨?_,?_,?_⟩
 ·rw[vd,tD,bA];exact λx a=>(h x a).v
 ·rw[D.und,ic,bA];exact λx a=>(h x a).u
 ·rw[bd,og,bA1,al,bA];exact⟨b,λx a=>(h x a).b⟩
theorem Ok.of{k:Nat}{S:Sto}{xs:List D}(h:Ok k S (.tup xs)):xs.length<=k /\ ∀x∈xs,Ok k S x:=by
 obtain⟨h1,h2,b⟩:=h;rw[vd,tD,bA]at h1;rw[D.und,ic,bA]at h2;rw[bd,og,bA1,al,bA]at b;exact⟨b.1,λx a=>⟨h1 x a,h2 x a,b.2 x a⟩⟩
mutual
theorem Ds{k:Nat}{S:Sto}:∀{d:D},bd k d=M->d.und 0=M->vd S d=M
 | .non,_,_=>by rw[vd]
 | .bl _,_,_=>by rw[vd]
 | .int _,_,_=>by rw[vd]
 | .str _,_,_=>by rw[vd]
 | .tup xs,v,h=>by
  rw[D.und]at h;rw[bd,bA1]at v;rw[vd];exact xz v.2 h
 | .rol xs,v,h=>by simp[bd]at v
 | .ref k,_,h=>by simp[D.und]at h
 | .fn x,v,_=>by simp[bd]at v
theorem xz{k:Nat}{S:Sto}:∀{ds:List D},GY k ds=M->D.unds 0 ds=M->fm S ds=M
 |[],_,_=>by rw[fm]
 |d::ds,v,h=>by
  rw[D.unds,bA1]at h;rw[GY,bA1]at v;rw[fm,Ds v.1 h.1,xz v.2 h.2];rfl
end
theorem Ok.shut{k:Nat}{S:Sto}{d:D}(h:d.und 0=M)(hb:bd k d=M):Ok k S d:=⟨Ds hb h,ju h,hb⟩
theorem Ok.lst{k n:Nat}{S:Sto}{xs:List D}(h:S[n]?=Z (.lst xs)):Ok k S (.ref n):=⟨by rw[vd,h],by rw[D.und,al];exact(gE1.mp h).1,by rw[bd]⟩
theorem Ok.dct{k n:Nat}{S:Sto}{xs:List (Key×D)}(h:S[n]?=Z (.dct xs)):Ok k S (.ref n):=⟨by rw[vd,h],by rw[D.und,al];exact(gE1.mp h).1,by rw[bd]⟩
theorem Ok.nm{k:Nat}{S:Sto}{rs:List Nat}(h:rs.length<=k):Ok k S (.tup (nmD rs)):=Ok.tup (by rw[eQ];exact h) λx a=>by
 obtain⟨i,_,rfl⟩:=bZ.mp a;exact .shut O (by rw[bd])
mutual
theorem uQ{S a:Sto}(h:∀n,vd S (.ref n)=M->vd a (.ref n)=M):∀{d:D},vd S d=M->vd a d=M
 | .non,_=>by rw[vd]
 | .bl _,_=>by rw[vd]
 | .int _,_=>by rw[vd]
 | .str _,_=>by rw[vd]
 | .tup xs,q=>by rw[vd]at q ⊢;exact kN h q
 | .rol xs,q=>by rw[vd]at q ⊢;exact kN h q
 | .ref n,q=>h n q
 | .fn x,q=>by simp[vd]at q
theorem kN{S a:Sto}(h:∀n,vd S (.ref n)=M->vd a (.ref n)=M):∀{ds:List D},fm S ds=M->fm a ds=M
 |[],_=>by rw[fm]
 |d::ds,q=>by
  rw[fm,bA1]at q;rw[fm,uQ h q.1,kN h q.2];rfl
end
mutual
theorem xA{A B:Sto}:∀{d:D},vd (A++B) d=M->d.und A.length=M->vd A d=M
 | .non,_,_=>by rw[vd]
 | .bl _,_,_=>by rw[vd]
 | .int _,_,_=>by rw[vd]
 | .str _,_,_=>by rw[vd]
 | .tup xs,q,u=>by rw[vd]at q ⊢;rw[D.und]at u;exact pJ q u
 | .rol xs,q,u=>by rw[vd]at q ⊢;rw[D.und]at u;exact pJ q u
 | .ref n,q,u=>by
  rw[D.und,al]at u;rw[vd]at q ⊢;rw[gL1 u]at q;exact q
 | .fn x,q,_=>by simp[vd]at q
theorem pJ{A B:Sto}:∀{ds:List D},fm (A++B) ds=M->D.unds A.length ds=M->fm A ds=M
 |[],_,_=>by rw[fm]
 |d::ds,q,u=>by
  rw[fm,bA1]at q;rw[D.unds,bA1]at u;rw[fm,xA q.1 u.1,pJ q.2 u.2];rfl
end
theorem CI{o:Ob}{n:Nat}(h:Hnd o n):∃xs,o = .lst xs:=by
 obtain⟨g,m,c,rfl,_⟩:=h;exact⟨_,O⟩
theorem Ok.on{k n n':Nat}{o o':Ob}{T G:Sto}{d:D}(h:Ok k (o::T) d)(ho:Hnd o' n'):Ok k (o'::(T++G)) d:=by
 refine⟨uQ (λi hi=>?_) h.v,xD (by simp) h.u,h.b⟩;obtain⟨xs,rfl⟩:=CI ho;cases i with
 |zero=>rw[vd];rfl
 |succ i=>
  rw[vd,gC1]at hi ⊢;cases e:T[i]? with
  |none=>rw[e]at hi;cases hi
  |some x=>
   rw[gL1 (gE1.mp e).1,e];rw[e]at hi;exact hi
abbrev ClT(T:Sto):Prop:=T.all (Ob.und (T.length+1))=M
theorem Ao{m k n':Nat}{f:FN}{ds:List D}{o:Ob}{T:Sto}{Q:D×Sto->Prop}(hn:ds.length=m)(d:D.unds 0 ds=J)(g:ClT T)(h:W (f ds (o::T)) λp=>∃x o' G,p=(x,o'::(T++G))/\Hnd o' n'/\ClT (T++G)/\Ok k (o'::(T++G)) x)(q:∀x o' G,Hnd o' n'->ClT (T++G)->Ok k (o'::(T++G)) x->Q (x,o'::(T++G))):W (c9 m f ds (o::T)) Q:=by
 refine sI hn d (h.mono ?_);rintro p ⟨x,o',G,rfl,c,hc,b⟩;unfold gc;split
 ·rename_i a;have e:(o'::(T++G)).take (o::T).length=o'::(T++[]):=by rw[aK,lC1,List.take_succ_cons,List.take_left]
  rw[e];refine q x o' [] c (by rw[aK];exact g) ⟨?_,?_,b.b⟩
  ·rw[bA1]at a;rw[aK];refine xA (A:=o'::T) (B:=G) (by rw[bm];exact b.v) ?_;have:=a.1
   rwa [lC1]at this
  ·rw[bA1]at a;rw[aK];have:=a.1
   rwa [lC1]at this
 ·exact q x o' G c hc b
theorem ux{T G:Sto}(h:ClT T)(hg:∀o∈G,o.und ((T++G).length+1)=M):ClT (T++G):=by
 rw[ClT,bA]at h ⊢;intro o a;rcases aE.mp a with a|a
 ·exact nH (by rw[lA1];lia) (h o a)
 ·exact hg o a
theorem HS:∃B:Int,∀S:Sto,gA (.int 10) (.int 30) S=Z (.int B,S):=⟨10^30,λS=>by
 unfold gA;dsimp only;rw[ak ⟨by decide,by decide,by decide⟩];rfl⟩
def EK(k:Nat)(r:Ev)(o:Ob)(T:Sto)(e:FE):Prop:=∀G,ClT (T++G)->W (e r (o::(T++G))) λp=>∃G',p.2=o::(T++(G++G'))/\ClT (T++(G++G'))/\Ok k (o::(T++(G++G'))) p.1
def AK(k:Nat)(r:Ev)(o:Ob)(T:Sto)(n:Nat)(a:FA):Prop:=∀G,ClT (T++G)->W (a r (o::(T++G))) λp=>∃G',p.2=o::(T++(G++G'))/\ClT (T++(G++G'))/\p.1.length=n /\ ∀x∈p.1,Ok k (o::(T++(G++G'))) x
section
variable{k n N:Nat}{r:Ev}{o:Ob}{T:Sto}{e:FE}{a:FA}{d:D}
theorem ea(ho:Hnd o N)(h:∀S,e r S=Z (d,S))(hd:Ok k (o::T) d):EK k r o T e:=λG a=>by
 refine W.of (h _) ⟨[],by rw[aK],by rw[aK];exact a,?_⟩;rw[aK];exact hd.on (n:=N) ho
theorem ed:AK k r o T 0 cY:=λG a=>W.of O ⟨[],by rw[aK],by rw[aK];exact a,O,λx h=>by cases h⟩
theorem cZ(ho:Hnd o N)(he:EK k r o T e)(ha:AK k r o T n a):AK k r o T (n+1) (cX e a):=λG j=>by
 unfold cX;rw[dh];refine(he G j).mono ?_;rintro⟨d,S⟩ ⟨G1,c,h1,h2⟩;dsimp only at c h2 ⊢;subst c;rw[dh];refine(ha (G++G1) h1).mono ?_;rintro⟨l,S⟩ ⟨G2,g,f,h,b⟩;dsimp only at g h b ⊢;subst g;rw[aW]at f b;refine dm.mpr ⟨G1++G2,by rw[aW],f,by rw[lC1,h],λx i=>?_⟩;rcases aD.mp i with z|z
 ·rw[z];have:=h2.on (n:=N) (G:=G2) ho
  rwa [aW,aW]at this
 ·exact b x z
theorem gp(ha:AK k r o T n a)(hn:n<=k)(hk:k<=1000):EK k r o T (dz a):=λG d=>by
 rw[uF];refine(ha G d).mono ?_;rintro⟨l,S⟩ ⟨G1,b,h1,h2,c⟩;dsimp only at b h2 c ⊢;subst b;exact⟨dg (by lia),G1,O,h1,.tup (by lia) c⟩
theorem Fz{k:Nat}{S:Sto}{L:List D}(h:∀x∈L,Ok k S x):D.unds S.length L=M:=by rw[ic,bA];exact λx a=>(h x a).u
theorem gD(b:ClT T){L:List D}(h:∀x∈L,Ok k (o::T) x):ClT (T++[.lst L]):=ux b λx a=>by
 rw[cD.mp a,Ob.und];refine gE ?_ (Fz h);simp
theorem mm(ha:AK k r o T n a)(hn:n<=1000)(G:Sto)(e:ClT (T++G)):W (et a r (o::(T++G))) λp=>∃b L,p=(.ref (T++(G++b)).length.succ,o::(T++(G++b)++[.lst L]))/\ClT (T++(G++b)++[.lst L])/\L.length=n /\ ∀x∈L,Ok k (o::(T++(G++b))) x:=by
 rw[uG];refine(ha G e).mono ?_;rintro⟨l,S⟩ ⟨G1,d,h1,h2,c⟩;dsimp only at d h2 c ⊢;subst d;exact⟨dg (by lia),G1,l,O,gD h1 c,h2,c⟩
theorem qu(ho:Hnd o N)(ha:AK k r o T n a)(hn:n<=1000):EK k r o T (et a):=λG b=>by
 refine(mm ha hn G b).mono ?_;rintro p ⟨G1,L,rfl,h1,h2,c⟩;refine⟨G1++[.lst L],by simp,by simpa using h1,.lst (xs:=L) ?_⟩;rw[ck,gC1,show T++(G++(G1++[Ob.lst L]))=(T++(G++G1))++[Ob.lst L] by simp,db];rfl
theorem C0:EK k r o T oZ:=λG a=>by
 refine W.of (x:=(.ref (T++G).length.succ,o::(T++G++[.dct []]))) O ⟨[.dct []],by simp,?_,.dct (xs:=[]) ?_⟩
 ·rw[<- aW];exact ux a λx b=>by rw[cD.mp b];rfl
 ·rw[ck,gC1,<- aW,db];rfl
theorem eM(ho:Hnd o N)(h:d.und 0=M)(hb:bd k d=M):EK k r o T (mC d):=ea ho (λ_=>rfl) (.shut h hb)
end
def lR(d:D):Bool:=match d with
 | .tup xs=>match xs with
  |[a,b]=>tw a&&tw b
  |_=>J
 |_=>J
def kY(d:D):Bool:=match d with
 | .tup xs=>decide (xs.length<=4)&&xs.all lR
 |_=>J
def su(d:D):Bool:=match d with
 | .tup xs=>decide (1<=xs.length)&&decide (xs.length<=8)&&xs.all kY
 |_=>J
theorem oH{c:List (Nat×List D)}{g:FG}{t:FT}{e:FE}{S:Sto}{Q:List D×Ev×Sto->Prop}(F:D->D)(P:Ev->Prop)(d:qS S c=M)(xs:List D)(r:Ev)(hr:P r)(h:∀a∈xs,∀r,P r->W (g a r S) λp=>W (t p.1 p.2) λb=>b.1=M/\W (e p.1 b.2) λx=>x.1=F a/\x.2=S/\P p.1)(q:∀i,P i->Q (xs.map F,i,S)):W (fz c g t (dV e) xs r S) Q:=by
 have:=nN (f:=id) F P d xs r hr h q
 rwa [List.map_id]at this
theorem C1{d:D}(h:j3 d=J):lR d=J:=by
 unfold lR;split
 ·rename_i xs;split
  ·cases h
  ·rfl
 ·rfl
theorem vS{d:D}(h:j3 d=M):∃a b,d = .tup [a,b]:=by
 cases d with
 |tup xs=>
  have:xs.length=2:=of_decide_eq_true h
  match xs,this with
  |[a,b],_=>exact⟨a,b,O⟩
 |_=>cases h
theorem zx{d:D}{S:Sto}{Q:D×Sto->Prop}(n:d5 S)(hv:vd S d=M)(q:Q (.bl (kY d),S)):W (c9 1 gy [d] S) Q:=by
 refine fG O n (q9 hv) λT e k=>?_;have c:=vd1' k;have h1:=fc c;unfold gy;refine io ?_;unfold lU
 ((try walk_at"w");repeat(simp only[d8,h1,fB];try walk_at"w"))
 cases d with
 |tup xs=>
  ((try walk_at"w");repeat(simp only[kE];try walk_at"w"))
  by_cases f:(4:Int)<(xs.length:Int)
  ·rw [if_pos (decide_eq_true f)];have:kY (.tup xs)=false:=by
    show(decide (xs.length<=4)&&xs.all lR)=J;rw[ai (by omega)];rfl
   rw[this]at q;exact⟨⟨[],(aK T).symm⟩,O,q⟩
  ·rw[aj (by rw[al];exact f)];rw[vd]at c;refine ft.mpr ?_;refine oH (λx=>.bl (lR x)) (λr=>∃x,r=[x]) O xs _ ⟨_,O⟩ ?_ ?_
   ·rintro a h j ⟨x,rfl⟩;have b:=dq c h;walk_at"w";refine xI e b ?_;walk_at"w";cases h2:j3 a with
    |false=>
     walk_at"w";exact⟨by rw[C1 h2],_,O⟩
    |true=>
     obtain⟨y,z,rfl⟩:=vS h2;have l:de (.tup [y,z]) (.int 0) T=Z (y,T):=ix_tup (i:=0) O;have g:de (.tup [y,z]) (.int 1) T=Z (z,T):=ix_tup (i:=1) O;rw[vd]at b
     ((try walk_at"w");repeat(simp only[l];try walk_at"w"))
     refine pI e (dq b (by simp)) ?_;walk_at"w";cases hy:tw y with
     |false=>
      walk_at"w";exact⟨by show D.bl J=D.bl (tw y&&tw z);rw[hy];rfl,_,O⟩
     |true=>
      ((try walk_at"w");repeat(simp only[g];try walk_at"w"))
      refine pI e (dq b (by simp)) ?_;exact⟨by show D.bl (tw z)=D.bl (tw y&&tw z);rw[hy];rfl,O,_,O⟩
   ·rintro j _;refine ⟨dg (by rw [lM1];omega),?_⟩;walk_at"w";have m:gn (.ref T.length) (T++[.lst (xs.map fun x=>D.bl (lR x))])=some (.bl (xs.all lR),T++[.lst (xs.map fun x=>D.bl (lR x))]):=by
     simp only[gn,dj,db,cs,oS1,iT,oP1]
    ((try walk_at"w");repeat(simp only[m];try walk_at"w"))
    refine⟨⟨_,O⟩,O,?_⟩;have:kY (.tup xs)=xs.all lR:=by
     show(decide (xs.length<=4)&&xs.all lR)=_;rw[ah (by omega)];rfl
    rw[this]at q;exact q
 |_=>exact⟨⟨[],(aK T).symm⟩,O,q⟩
theorem GD{d:D}{S:Sto}{Q:D×Sto->Prop}(m:d5 S)(hv:vd S d=M)(q:Q (.bl (su d),S)):W (c9 1 fV [d] S) Q:=by
 refine fG O m (q9 hv) λT h k=>?_;have c:=vd1' k;have h1:=fc c;unfold fV;refine io ?_;unfold kJ
 ((try walk_at"w");repeat(simp only[d8,h1,fh];try walk_at"w"))
 cases d with
 |tup xs=>
  ((try walk_at"w");repeat(simp only[kE,ml];try walk_at"w"))
  by_cases g:1<=xs.length/\xs.length<=8
  ·have b:decide ((1:Int)<=(xs.length:Int))=M:=ah (by omega);have e:decide ((xs.length:Int)<=8)=M:=ah (by omega)
   ((try walk_at"w");repeat(simp only[b,e];try walk_at"w"))
   rw[vd]at c;refine ft.mpr ?_;refine oH (λx=>.bl (kY x)) (λr=>∃x,r=[x]) O xs _ ⟨_,O⟩ ?_ ?_
   ·rintro a j i ⟨x,rfl⟩;have f:=dq c j;walk_at"w";refine zx h f ?_;exact⟨O,O,_,O⟩
   ·rintro i _;refine ⟨dg (by rw [lM1];omega),?_⟩;have l:gn (.ref T.length) (T++[.lst (xs.map fun x=>D.bl (kY x))])=some (.bl (xs.all kY),T++[.lst (xs.map fun x=>D.bl (kY x))]):=by
     simp only[gn,dj,db,cs,oS1,iT,oP1]
    ((try walk_at"w");repeat(simp only[l];try walk_at"w"))
    refine⟨⟨_,O⟩,O,?_⟩;have:su (.tup xs)=xs.all kY:=by
     show(decide (1<=xs.length)&&decide (xs.length<=8)&&xs.all kY)=_;rw[ah g.1,ah g.2];rfl
    rw[this]at q;exact q
  ·have:su (.tup xs)=false:=by
    show(decide (1<=xs.length)&&decide (xs.length<=8)&&xs.all kY)=J;by_cases z:1<=xs.length
    ·rw[ai (p:=xs.length<=8) (by omega),aZ];rfl
    ·rw[ai z];rfl
   rw[this]at q;by_cases z:1<=xs.length
   ·have b:decide ((1:Int)<=(xs.length:Int))=M:=ah (by omega);have e:decide ((xs.length:Int)<=8)=J:=ai (by omega)
    ((try walk_at"w");repeat(simp only[b,e];try walk_at"w"))
    exact⟨⟨[],(aK T).symm⟩,O,q⟩
   ·have b:decide ((1:Int)<=(xs.length:Int))=J:=ai (by omega)
    ((try walk_at"w");repeat(simp only[b];try walk_at"w"))
    exact⟨⟨[],(aK T).symm⟩,O,q⟩
 |_=>exact⟨⟨[],(aK T).symm⟩,O,q⟩
theorem BY{d:D}{S:Sto}{Q:D×Sto->Prop}(c:d5 S)(hv:vd S d=M)(hf:su d=J)(q:Q (.bl J,S)):W (c9 1 gJ [d] S) Q:=by
 refine fG O c (q9 hv) λT a b=>?_;unfold gJ;refine io ?_;unfold oi;walk_at"w";refine GD a (vd1' b) ?_
 ((try walk_at"w");repeat(simp only[hf];try walk_at"w"))
 exact⟨⟨[],(aK T).symm⟩,O,q⟩
theorem qk{α:Type}{f:α->D}:∀{xs:List D},(∀x∈xs,∃a,x=f a) -> ∃l:List α,xs=l.map f
 |[],_=>⟨[],O⟩
 |x::xs,h=>by
  obtain⟨a,rfl⟩:=h x mS1;obtain⟨l,rfl⟩:=qk (xs:=xs) λy b=>h y (mC1 _ b);exact⟨a::l,O⟩
theorem qj{α:Type}{f:α->D}(hf:∀a b,f a=f b->a=b):∀{l m:List α},l.map f=m.map f->l=m
 |[],[],_=>rfl
 |[],_::_,h=>by cases h
 |_::_,[],h=>by cases h
 |a::l,b::m,h=>by
  rw[mP1,mP1]at h;injection h with h1 h2;rw[hf a b h1,qj hf h2]
theorem D9(a b:Int×Int)(h:zP a=zP b):a=b:=by
 unfold zP at h;injection h with h;injection h with h1 h;injection h with h2 h;injection h1 with h1;injection h2 with h2;exact Prod.ext h1 h2
theorem D8(a b:List (Int×Int))(h:zR a=zR b):a=b:=by
 unfold zR at h;injection h with h;exact qj D9 h
theorem D7{a b:RZ}(h:zW a=zW b):a=b:=by
 unfold zW at h;injection h with h;exact qj D8 h
def iU(d:D):Bool:=tf (∃w,d=zW w/\sR w)
theorem xy(w:RZ):iU (zW w)=tf (sR w):=pN ⟨λ⟨v,e,g⟩=>by rw[D7 e];exact g,λg=>⟨w,O,g⟩⟩
theorem xu{d:D}(h:tw d=M):∃i,d = .int i:=by
 cases d with
 |int i=>exact⟨i,O⟩
 |_=>cases h
theorem GK{d:D}(h:lR d=M):∃p,d=zP p:=by
 unfold lR at h;split at h
 ·split at h
  ·rename_i a b;rw[bA1]at h;obtain⟨i,rfl⟩:=xu h.1;obtain⟨j,rfl⟩:=xu h.2;exact⟨(i,j),O⟩
  ·cases h
 ·cases h
theorem EQ{d:D}(h:kY d=M):∃r,d=zR r:=by
 unfold kY at h;split at h
 ·rename_i xs;rw[bA1,bA]at h;obtain⟨l,rfl⟩:=qk λx a=>GK (h.2 x a);exact⟨l,O⟩
 ·cases h
theorem GA{d:D}(h:su d=M):∃w,d=zW w:=by
 unfold su at h;split at h
 ·rename_i xs;rw[bA1,bA]at h;obtain⟨l,rfl⟩:=qk λx a=>EQ (h.2 x a);exact⟨l,O⟩
 ·cases h
theorem GB{w:RZ}(h:mE w):su (zW w)=M:=by
 obtain⟨h1,h2,d⟩:=h;show(decide (1<=(w.map zR).length)&&decide ((w.map zR).length<=8)&&(w.map zR).all kY)=M;rw[lM1,ah h1,ah h2,cE,cE,bA];intro x c;obtain⟨a,b,rfl⟩:=bZ.mp c;show(decide ((a.map zP).length<=4)&&(a.map zP).all lR)=M;rw[lM1,ah (d a b),cE,bA];intro y e;obtain⟨p,_,rfl⟩:=bZ.mp e;rfl
theorem jV{w:RZ}(h:sR w):mE w/\pF w:=by
 obtain⟨a,rfl,h1,h2⟩:=h;exact h1.form
theorem CB{d:D}{S:Sto}{Q:D×Sto->Prop}(a:d5 S)(hv:vd S d=M)(q:Q (.bl (iU d),S)):W (c9 1 gJ [d] S) Q:=by
 cases hf:su d with
 |false=>
  refine BY a hv hf ?_;have:iU d=J:=g9 λ⟨w,e,g⟩=>by
   rw[e,GB (jV g).1]at hf;cases hf
  rw[this]at q;exact q
 |true=>
  obtain⟨w,rfl⟩:=GA hf;rw[xy]at q;exact Cz q
def qf(y e:D):Bool:=if em y=M then(DR y e).getD J else J
def fq(e y:D):Bool:=qf y e
theorem tE{S:Sto}{k:Nat}(h:vd S (.ref k)=M):(∃xs,S[k]?=Z (.lst xs))\/(dj S (.ref k)=Y/\mI S (.ref k)=M):=by
 rw[vd]at h;split at h
 ·rename_i xs e;exact .inl ⟨xs,e⟩
 ·rename_i xs e;exact .inr ⟨by rw[dj,e],by rw[mI,e]⟩
 ·rename_i xs e;exact .inr ⟨by rw[dj,e],by rw[mI,e]⟩
 ·cases h
theorem sv{S:Sto}{e:D}(h:em e=M):dj S e=Y/\mI S e=J:=by
 cases e<;>first|exact⟨rfl,rfl⟩|cases h
theorem CW{a b:D}(ha:em a=M)(hb:em b=M):DR a b=Z ((DR a b).getD J):=by
 cases a<;>cases b<;>first|rfl|(simp[em]at ha;done)|(simp[em]at hb;done)
theorem DQ{S:Sto}{n:Nat}{e y:D}(hf:em e=M)(hv:vd S y=M):hB S (n+1) y e=Z (qf y e):=by
 obtain⟨h1,h2⟩:=sv (S:=S) hf;have a:em y=M->hB S (n+1) y e=Z (qf y e):=λd=>by
  obtain⟨c,b⟩:=sv (S:=S) d;rw[hB,h1,c];have f:CU S y e=DR y e:=by unfold CU;rw[h2,b]
  show CU S y e=_;rw[f];unfold qf;rw[ak d];exact CW d hf
 cases y with
 |tup xs=>rw[hB,h1];show(if em e=M then _ else _)=_;rw[ak hf];rfl
 |rol xs=>rw[hB,h1];show(if em e=M then _ else _)=_;rw[ak hf];rfl
 |fn x=>simp[vd]at hv
 |ref k=>
  rcases tE hv with⟨xs,h⟩|⟨c,b⟩
  ·rw[hB,h1,dj,h];show(if em e=M then _ else _)=_;rw[ak hf];rfl
  ·rw[hB,h1,c];show CU S _ e=_;unfold CU;rw[h2,b];show(if em e=M then _ else _)=_;rw[ak hf];rfl
 |_=>exact a O
def DB:List D->List D->Bool
 |x::xs,y::ys=>qf x y&&DB xs ys
 |[],[]=>M
 |_,_=>J
theorem ut{S:Sto}{n:Nat}:∀{xs es:List D},fm S xs=M->(∀e∈es,em e=M)->wR (hB S (n+1)) xs es=Z (DB xs es)
 |[],[],_,_=>rfl
 |[],_::_,_,_=>rfl
 |_::_,[],_,_=>rfl
 |x::xs,e::es,hv,hf=>by
  rw[fm,bA1]at hv;rw[wR,DQ (hf e mS1) hv.1,ut hv.2 λy a=>hf y (mC1 _ a)];rfl
def qt(y:D)(es:List D):Bool:=match y with
 | .tup xs=>DB xs es
 |_=>J
theorem zY{S:Sto}{n:Nat}{y:D}{es:List D}(hf:∀e∈es,em e=M)(hv:vd S y=M):hB S (n+2) y (.tup es)=Z (qt y es):=by
 cases y with
 |tup xs=>
  rw[vd]at hv;rw[hB];show(if J=J then(if J=M/\_ then _ else wR (hB S (n+1)) xs es)else _)=_;rw[ak O,aj (by simp),ut hv hf];rfl
 |rol xs=>rfl
 |fn x=>simp[vd]at hv
 |ref k=>
  rcases tE hv with⟨xs,h⟩|⟨c,b⟩
  ·have a:dj S (.ref k)=Z (M,xs):=by rw[dj,h]
   rw[hB,a];rfl
  ·rw[hB,c];show(if em (D.ref k)=M then _ else if mI S (.ref k)=M then _ else _)=_;rw[b];rfl
 |_=>rfl
theorem m4{S:Sto}{y:D}{es:List D}(hf:∀e∈es,em e=M)(hv:vd S y=M):gEq y (.tup es) S=Z (.bl (qt y es),S):=by
 unfold gEq;rw[show dQ=58+2 from rfl,zY hf hv];rfl
theorem CM{S:Sto}{y:D}{es:List D}(hf:∀e∈es,em e=M)(hv:vd S y=M):gNe y (.tup es) S=Z (.bl (!qt y es),S):=by
 unfold gNe;rw[show dQ=58+2 from rfl,zY hf hv];rfl
theorem uj{S:Sto}{n:Nat}{e:D}(hf:em e=M):∀{xs:List D},fm S xs=M->sm (hB S (n+1)) e xs=Z (xs.any (fq e))
 |[],_=>rfl
 |x::xs,hv=>by
  rw[fm,bA1]at hv;rw[sm,DQ hf hv.1,uj hf hv.2];rfl
theorem ui{S:Sto}{e:D}{xs:List D}(hf:em e=M)(hv:fm S xs=M):lP e (.tup xs) S=Z (.bl (xs.any (fq e)),S):=by
 show(Option.bind (dj S (.tup xs)) λp=>(sm (hB S dQ) e p.2).map λb=>(D.bl b,S))=_;show((sm (hB S dQ) e xs).map λb=>(D.bl b,S))=_;rw[show dQ=59+1 from rfl,uj hf hv];rfl
theorem Ap{n:Nat}{f:FN}{ds:List D}{S:Sto}{Q:D×Sto->Prop}(hn:ds.length=n)(b:D.unds 0 ds=J)(c:d5 S)(h:W (f ds S) λp=>(∃G,p.2=S++G)/\p.1.und 0=M/\Q (p.1,S)):W (c9 n f ds S) Q:=by
 refine sI hn b (h.mono ?_);rintro⟨d,V⟩ ⟨⟨G,e⟩,a,q⟩;dsimp only at e a q;subst e;rw[zH a c];exact q
theorem u3{f:Nat->D}{m:Nat}{y:D}{rs:List Nat}{T:Sto}(hm:∀ r∈rs,r<m)(d:∀ i j,i<m->j<m->oA (f i) (f j) T=Z (.bl (decide (i<j)),T))(g:rs.length<=1000)(b:dX y T=Z (.int rs.length,T))(a:∀(i:Nat) (h:i<rs.length),de y (.int (i:Nat)) T=Z (f rs[i],T)):W (ei [y] T) λp=>(∃G,p.2=T++G)/\p.1 = .bl (pj rs):=by
 unfold ei;refine io ?_;unfold mr
 ((try walk_at"w");repeat(simp only[b];try walk_at"w"))
 refine⟨uA (by lia) (by lia),?_⟩;rw[k9,show((rs.length:Int)-1).toNat=rs.length-1 by lia];refine nN (f:=λj:Nat=>D.int j) (λi=>D.bl (decide (rs.getD i 0<rs.getD (i+1) 0))) (λc=>∃x,c=[x,Z y]) O (af (rs.length-1)) _ ⟨_,O⟩ ?_ ?_
 ·rintro i hi c ⟨x,rfl⟩;have hi:=aA.mp hi;have h1:i<rs.length:=by lia
  have h2:i+1<rs.length:=by lia
  ((try walk_at"w");repeat(simp only[a i h1];try walk_at"w"))
  rw[show((i:Int)+1)=((i+1:Nat):Int) by push_cast;rfl]
  ((try walk_at"w");repeat(simp only[a (i+1) h2,d _ _ (hm _ (bN h1)) (hm _ (bN h2))];try walk_at"w"))
  refine⟨?_,_,O⟩;rw[bG,bG,gG1 h1,gG1 h2];rfl
 ·rintro c _;refine ⟨dg (by rw [lM1,cx];lia),?_⟩;walk_at"w";have e:gn (.ref T.length) (T++[.lst ((List.range (rs.length-1)).map fun i=>D.bl (decide (rs.getD i 0<rs.getD (i+1) 0)))])=some (.bl (pj rs),T++[.lst ((List.range (rs.length-1)).map fun i=>D.bl (decide (rs.getD i 0<rs.getD (i+1) 0)))]):=by
   unfold gn;rw[fT (n:=T.length) (xs:=(af (rs.length-1)).map λi=>D.bl (decide (rs.getD i 0<rs.getD (i+1) 0))) (by rw[db];rfl),oS1];dsimp only;rw[iT];rfl
  ((try walk_at"w");repeat(simp only[e];try walk_at"w"))
  exact⟨⟨_,O⟩,trivial⟩
theorem Gs{f:Nat->D}{rs:List Nat}{T:Sto}(i:Nat)(h:i<rs.length):de (.tup (rs.map f)) (.int (i:Nat)) T=Z (f rs[i],T):=ix_tup (by rw[gP1,gG1 h];rfl)
theorem tO{f:Nat->D}{m:Nat}{rs:List Nat}{S:Sto}{Q:D×Sto->Prop}(c:∀ i,(f i).und 0=M)(hm:∀ r∈rs,r<m)(a:∀ i j,i<m->j<m->oA (f i) (f j) []=Z (.bl (decide (i<j)),[]))(b:rs.length<=1000)(q:Q (.bl (pj rs),S)):W (c9 1 ei [.tup (rs.map f)] S) Q:=by
 refine jK O (by rw[D.unds,D.und,unds_map c];rfl) ?_;refine(u3 hm a b ?_ (λi h=>Gs i h)).mono ?_
 ·simp[dX,dj]
 ·rintro⟨d,V⟩ ⟨_,e⟩;dsimp only at e;subst e;exact⟨O,q⟩
theorem yp:∀{l m:List Nat},l.Pairwise (· < ·)->m.Pairwise (· < ·)->(∀x,x∈l↔x∈m)->l=m
 |[],[],_,_,_=>rfl
 |[],b::m,_,_,h=>by have:=(h b).mpr mS1;cases this
 |a::l,[],_,_,h=>by have:=(h a).mp mS1;cases this
 |a::l,b::m,hl,hm,h=>by
  rw[bY]at hl hm;have e:a=b:=by
   rcases aD.mp ((h a).mp mS1)with z|z
   ·exact z
   ·rcases aD.mp ((h b).mpr mS1)with y|y
    ·exact y.symm
    ·have:=hm.1 a z;have:=hl.1 b y;lia
  subst e;rw[yp hl.2 hm.2 λx=>?_];constructor
  ·intro c;rcases aD.mp ((h x).mp (mC1 _ c))with z|z
   ·have:=hl.1 x c;lia
   ·exact z
  ·intro c;rcases aD.mp ((h x).mpr (mC1 _ c))with z|z
   ·have:=hm.1 x c;lia
   ·exact z
theorem Gx{rs:List Nat}(h:rs.Pairwise (· < ·)):pj rs=M:=by
 unfold pj;rw[bA];intro i hi;have hi:=aA.mp hi;have h1:i<rs.length:=by lia
 have h2:i+1<rs.length:=by lia
 rw[al,bG,bG,gG1 h1,gG1 h2];exact b0.mp h i (i+1) h1 h2 (by lia)
theorem nM{f:Nat->D}{n:Nat}(hf:∀i j,i<n->j<n->f i=f j->i=j):∀{l m:List Nat},(∀x∈l,x<n)->(∀x∈m,x<n)->l.map f=m.map f->l=m
 |[],[],_,_,_=>rfl
 |[],_::_,_,_,h=>by cases h
 |_::_,[],_,_,h=>by cases h
 |a::l,b::m,hl,hm,h=>by
  rw[mP1,mP1]at h;injection h with h1 h2;rw[hf a b (hl a mS1) (hm b mS1) h1,nM hf (λx c=>hl x (mC1 _ c)) (λx c=>hm x (mC1 _ c)) h2]
def ord(ws xs:List D):Bool:=tf (xs=ws.filter λw=>tf (w∈xs))
theorem qo{f:Nat->D}{n:Nat}(hf:∀i j,i<n->j<n->f i=f j->i=j){rs:List Nat}(hr:∀r∈rs,r<n):pj rs=ord ((af n).map f) (rs.map f):=by
 have e:((af n).map f).filter (λw=>tf (w∈rs.map f))=((af n).filter λi=>tf (i∈rs)).map f:=by
  rw[List.filter_map]
  congr 1
  refine List.filter_congr λi hi=>?_;have hi:=aA.mp hi;refine pN ⟨λh=>?_,λh=>bZ.mpr ⟨i,h,O⟩⟩;obtain⟨j,b,e⟩:=bZ.mp h;rw[<- hf j i (hr j b) hi e];exact b
 unfold ord;rw[e];refine nk ⟨λh=>?_,λh=>?_⟩
 ·congr 1
  refine yp (zC h) (List.Pairwise.filter _ b8) λx=>?_;rw[az,aA,iW];exact⟨λa=>⟨hr x a,a⟩,λa=>a.2⟩
 ·have h2:=nM hf hr (λx a=>aA.mp (az.mp a).1) h;rw[h2];exact Gx (List.Pairwise.filter _ b8)
theorem AD{e:D}{xs:List D}(h:∀x∈xs,(fq e x=M↔x=e)):xs.any (fq e)=tf (e∈xs):=nk ⟨λz=>by
 obtain⟨x,a,b⟩:=bM.mp z;rw[<- (h x a).mp b];exact a,λz=>bM.mpr ⟨e,z,(h e z).mpr O⟩⟩
theorem tP:∀{xs es:List D},(∀x∈xs,∀e∈es,(qf x e=M↔x=e))->DB xs es=tf (xs=es)
 |[],[],_=>(nj O).symm
 |[],_::_,_=>(g9 λz=>by cases z).symm
 |_::_,[],_=>(g9 λz=>by cases z).symm
 |x::xs,e::es,h=>by
  rw[DB,tP λa c b d=>h a (mC1 _ c) b (mC1 _ d)];refine nk ?_;rw[bA1,h x mS1 e mS1,iW,List.cons.injEq]
theorem yk{s:Str}{x:D}:qf x (.str s)=M↔x = .str s:=by
 cases x with
 |str t=>show(t == s)=M↔_;rw[beq_iff_eq];exact⟨λh=>(by rw[h]),λh=>(by injection h)⟩
 |_=>exact⟨λh=>(by cases h),λh=>(by cases h)⟩
theorem GC{s:Str}{x:D}:fq (.str s) x=M↔x = .str s:=yk
theorem vQ{f:D->D->Option Bool}:∀{xs ys:List D},xs.length≠ys.length->DB xs ys=J
 |[],[],h=>by simp at h
 |[],_::_,_=>rfl
 |_::_,[],_=>rfl
 |x::xs,y::ys,h=>by
  rw[DB,vQ (f:=f) (xs:=xs) (ys:=ys) (by simpa using h),aZ]
theorem vO{S:Sto}{i j:Nat}{xs es:List D}(h1:S[i]?=Z (.lst xs))(h2:S[j]?=Z (.lst es))(hv:fm S xs=M)(hf:∀e∈es,em e=M):hB S dQ (.ref i) (.ref j)=Z (DB xs es):=by
 rw[show dQ=58+1+1 from rfl,hB,dj,dj,h1,h2];show(if M=M then(if M=M/\xs.length≠es.length then Z J else wR (hB S (58+1)) xs es)else _)=_;rw[ak O];by_cases a:xs.length=es.length
 ·rw[aj (λz=>z.2 a),ut hv hf]
 ·rw[ak ⟨O,a⟩,vQ (f:=λ_ _=>Y) a]
def Jp:D->Bool
 | .str _=>M
 |_=>J
theorem xF{S:Sto}{d:D}(h:vd S d=M):i3 S .str d=Z (Jp d):=by
 cases d with
 |ref n=>
  rw[vd]at h;rw[i3];split at h<;>first|(rename_i e;rw[e];rfl)|rfl|cases h
 |fn x=>simp[vd]at h
 |_=>rfl
theorem Gy{S:Sto}{e:D}{n:Nat}{xs:List D}(hf:em e=M)(h:S[n]?=Z (.lst xs))(hv:fm S xs=M):lP e (.ref n) S=Z (.bl (xs.any (fq e)),S):=by
 simp only[lP,wO,IJ,h,dj,oS1];rw[show dQ=59+1 from rfl,uj hf hv];rfl
theorem DJ{ws:List D}(hs:∀w∈ws,∃s,w = .str s){d:D}(h:Jp d=J):tf (d∈ws)=J:=g9 λz=>by
 obtain⟨s,rfl⟩:=hs d z;cases h
theorem ur:∀w∈wEy,∃s,w=D.str s:=by
 intro w a;simp only[wEy,aD,cC,or_false]at a;rcases a with z|z|z|z<;>exact⟨_,z⟩
theorem um:∀w∈wHa,∃s,w=D.str s:=by
 intro w a;simp only[wHa,aD,cC,or_false]at a;rcases a with z|z|z<;>exact⟨_,z⟩
theorem qB{s:Str}{ws:List D}:ws.any (fq (.str s))=tf (D.str s∈ws):=AD λ_ _=>GC
theorem CA{d:D}{S:Sto}{Q:D×Sto->Prop}(g:d5 S)(hv:vd S d=M)(q:Q (.bl (tf (d∈wEy)),S)):W (c9 1 jD [d] S) Q:=by
 refine fG O g (q9 hv) λT j a=>?_;have h1:=xF (vd1' a);unfold jD;refine io ?_;unfold sK;cases hs:Jp d with
 |false=>
  ((try walk_at"w");repeat(simp only[d8,h1,hs];try walk_at"w"))
  rw[DJ ur hs]at q;exact⟨⟨[],(aK T).symm⟩,O,q⟩
 |true=>
  cases d with
  |str s=>
   ((try walk_at"w");repeat(simp only[d8,h1,hs];try walk_at"w"))
   unfold m6;refine ft.mpr ?_;refine nN (f:=λp:Str×Int=>D.tup [.str p.1,.int p.2]) (λp=>D.str p.1) (λr=>∃x y,r=[x,y]) O [("came",5),("chalk",2),("doors",5),("others",2)] _ ⟨_,_,O⟩ ?_ ?_
   ·rintro p h r ⟨x,y,rfl⟩;walk_at"w";exact⟨_,_,O⟩
   ·rintro i _;refine⟨dg (by simp),?_⟩;have b:(T++[Ob.lst wEy])[T.length]?=Z (.lst wEy):=by rw[db];rfl
    have c:([((Str.ofString "came"),(5:Int)),(Str.ofString "chalk",2),(Str.ofString "doors",5),(Str.ofString "others",2)].map λp:Str×Int=>D.str p.1)=wEy:=rfl;rw[c]
    ((try walk_at"w");repeat(simp only[Gy (e:=.str s) O b O,qB];try walk_at"w"))
    exact⟨⟨_,O⟩,O,q⟩
  |_=>cases hs
theorem zy{d:D}{S:Sto}{Q:D×Sto->Prop}(b:d5 S)(hv:vd S d=M)(q:Q (.bl (tf (d∈wHa)),S)):W (c9 1 iM [d] S) Q:=by
 refine fG O b (q9 hv) λT c a=>?_;have h1:=xF (vd1' a);unfold iM;refine io ?_;unfold pC;cases hs:Jp d with
 |false=>
  ((try walk_at"w");repeat(simp only[d8,h1,hs];try walk_at"w"))
  rw[DJ um hs]at q;exact⟨⟨[],(aK T).symm⟩,O,q⟩
 |true=>
  cases d with
  |str s=>
   have e:lP (.str s) m7 T=Z (.bl (wHa.any (fq (.str s))),T):=ui O O
   ((try walk_at"w");repeat(simp only[d8,h1,hs,e,qB];try walk_at"w"))
   exact⟨⟨[],(aK T).symm⟩,O,q⟩
  |_=>cases hs
def fE(i:Nat):D:=wEy.getD i .non
def fH(i:Nat):D:=wHa.getD i .non
theorem GG(i:Nat):(fE i).und 0=M:=by
 unfold fE;rw[bG];cases h:wEy[i]? with
 |none=>rfl
 |some x=>obtain⟨s,rfl⟩:=ur x (gM1 h);rfl
theorem GF(i:Nat):(fH i).und 0=M:=by
 unfold fH;rw[bG];cases h:wHa[i]? with
 |none=>rfl
 |some x=>obtain⟨s,rfl⟩:=um x (gM1 h);rfl
theorem c4{P:Nat->Prop}(a:P 0)(h1:P 1)(h2:P 2)(b:P 3):∀i,i<4->P i
 |0,_=>a
 |1,_=>h1
 |2,_=>h2
 |3,_=>b
 |i+4,h=>by lia
theorem c3{P:Nat->Prop}(a:P 0)(h1:P 1)(h2:P 2):∀i,i<3->P i
 |0,_=>a
 |1,_=>h1
 |2,_=>h2
 |i+3,h=>by lia
theorem DP:∀i j,i<4->j<4->oA (fE i) (fE j) []=Z (.bl (decide (i<j)),[]):=λi j hi a=>by
 revert j
 refine c4 (P:=λi=>∀j,j<4->oA (fE i) (fE j) []=Z (.bl (decide (i<j)),[])) ?_ ?_ ?_ ?_ i hi<;>exact c4 (by kernel_rfl!) (by kernel_rfl!) (by kernel_rfl!) (by kernel_rfl!)
theorem DO:∀i j,i<3->j<3->oA (fH i) (fH j) []=Z (.bl (decide (i<j)),[]):=λi j hi a=>by
 revert j
 refine c3 (P:=λi=>∀j,j<3->oA (fH i) (fH j) []=Z (.bl (decide (i<j)),[])) ?_ ?_ ?_ i hi<;>exact c3 (by kernel_rfl!) (by kernel_rfl!) (by kernel_rfl!)
theorem zB{f:Nat->D}{n:Nat}(h:∀i j,i<n->j<n->oA (f i) (f j) []=Z (.bl (decide (i<j)),[])):∀i j,i<n->j<n->f i=f j->i=j:=λi j hi a e=>by
 have h1:=h i j hi a;have h2:=h j i a hi;rw[e]at h1 h2;rw[h1]at h2;injection h2 with h2;injection h2 with h2;injection h2 with h2;by_cases z:i<j
 ·rw[ah z,ai (by lia)]at h2;cases h2
 ·by_cases b:j<i
  ·rw[ai z,ah b]at h2;cases h2
  ·lia
theorem k6{f:Nat->D}{n:Nat}:∀{xs:List D},(∀x∈xs,x∈(af n).map f) -> ∃a:List Nat,xs=a.map f /\ ∀r∈a,r<n
 |[],_=>⟨[],O,λr c=>by cases c⟩
 |x::xs,h=>by
  obtain⟨i,hi,rfl⟩:=bZ.mp (h x mS1);obtain⟨a,rfl,c⟩:=k6 (xs:=xs) λy d=>h y (mC1 _ d);refine⟨i::a,O,λr b=>?_⟩;rcases aD.mp b with z|z
  ·rw[z];exact aA.mp hi
  ·exact c r z
theorem mW{ws xs:List D}(h:xs.all (λx=>tf (x∈ws))=J):ord ws xs=J:=g9 λz=>by
 have:xs.all (λx=>tf (x∈ws))=M:=bA.mpr λx a=>nj (by rw[z]at a;exact(az.mp a).1);rw[this]at h;cases h
def kB(ws:List D)(d:D):Bool:=match d with
 | .tup xs=>ord ws xs
 |_=>J
theorem ff{d:D}(h:kE d=M):∃xs,d = .tup xs:=by
 cases d with
 |tup xs=>exact⟨xs,O⟩
 |_=>cases h
theorem vb{ws:List D}{d:D}(h:kE d=J):kB ws d=J:=by
 cases d with
 |tup xs=>cases h
 |_=>rfl
theorem lV{T:Sto}{xs:List D}{F:D->Bool}:gn (.ref T.length) (T++[.lst (xs.map λx=>D.bl (F x))])=Z (.bl (xs.all F),T++[.lst (xs.map λx=>D.bl (F x))]):=by
 unfold gn;rw[fT (n:=T.length) (xs:=xs.map λx=>D.bl (F x)) (by rw[db];rfl),oS1];dsimp only;rw[iT];rfl
theorem GH{d:D}{S:Sto}{Q:D×Sto->Prop}(h:d5 S)(hv:vd S d=M)(j:∀xs,d = .tup xs->xs.length<=1000)(q:Q (.bl (kB wEy d),S)):W (c9 1 hW [d] S) Q:=by
 refine fG O h (q9 hv) λT i b=>?_;have c:=vd1' b;have h1:=fc c;unfold hW;refine io ?_;unfold om;cases ht:kE d with
 |false=>
  ((try walk_at"w");repeat(simp only[d8,h1,ht];try walk_at"w"))
  rw[vb ht]at q;exact⟨⟨[],(aK T).symm⟩,O,q⟩
 |true=>
  obtain⟨xs,rfl⟩:=ff ht;have a:=j xs O;rw[vd]at c
  ((try walk_at"w");repeat(simp only[d8,h1,ht];try walk_at"w"))
  refine ft.mpr ?_;refine oH (λx=>.bl (tf (x∈wEy))) (λr=>∃x,r=[x]) O xs _ ⟨_,O⟩ ?_ ?_
  ·rintro x e r ⟨y,rfl⟩;walk_at"w";refine CA i (dq c e) ?_;exact⟨O,O,_,O⟩
  ·rintro k _;refine⟨dg (by rw[lM1];lia),?_⟩
   ((try walk_at"w");repeat(simp only[lV (F:=λx=>tf (x∈wEy))];try walk_at"w"))
   cases ha:xs.all (λx=>tf (x∈wEy))with
   |false=>
    walk_at"w";have:kB wEy (.tup xs)=J:=mW ha;rw[this]at q;exact⟨⟨_,O⟩,O,q⟩
   |true=>
    walk_at"w";rw[bA]at ha;obtain⟨rs,rfl,g⟩:=k6 (n:=4) (f:=fE) λx e=>iW.mp (ha x e);rw[lM1]at a;refine tO GG g DP a ?_;have:kB wEy (.tup (rs.map fE))=pj rs:=(qo (zB DP) g).symm;rw[this]at q;exact⟨⟨_,O⟩,O,q⟩
def gx(ws:List D)(d:D):Bool:=match d with
 | .tup xs=> !xs.isEmpty&&ord ws xs
 |_=>J
theorem nw{ws:List D}{d:D}(h:kE d=J):gx ws d=J:=by
 cases d with
 |tup xs=>cases h
 |_=>rfl
theorem Cp{xs:List D}:(((xs.length:Nat):Int) == 0)=xs.isEmpty:=by
 cases xs with
 |nil=>rfl
 |cons x xs=>rfl
theorem CK{d:D}{S:Sto}{Q:D×Sto->Prop}(h:d5 S)(hv:vd S d=M)(k:∀xs,d = .tup xs->xs.length<=1000)(q:Q (.bl (gx wHa d),S)):W (c9 1 gO [d] S) Q:=by
 refine fG O h (q9 hv) λT i b=>?_;have c:=vd1' b;have h1:=fc c;unfold gO;refine io ?_;unfold mz;cases ht:kE d with
 |false=>
  ((try walk_at"w");repeat(simp only[d8,h1,ht];try walk_at"w"))
  rw[nw ht]at q;exact⟨⟨[],(aK T).symm⟩,O,q⟩
 |true=>
  obtain⟨xs,rfl⟩:=ff ht;have a:=k xs O;rw[vd]at c;cases he:xs.isEmpty with
  |true=>
   ((try walk_at"w");repeat(simp only[d8,h1,ht,Cp,he];try walk_at"w"))
   have:gx wHa (.tup xs)=J:=by show(!xs.isEmpty&&_)=J;rw[he];rfl
   rw[this]at q;exact⟨⟨[],(aK T).symm⟩,O,q⟩
  |false=>
   have j:gx wHa (.tup xs)=ord wHa xs:=by show(!xs.isEmpty&&_)=_;rw[he];rfl
   rw[j]at q
   ((try walk_at"w");repeat(simp only[d8,h1,ht,Cp,he];try walk_at"w"))
   refine ft.mpr ?_;refine oH (λx=>.bl (tf (x∈wHa))) (λr=>∃x,r=[x]) O xs _ ⟨_,O⟩ ?_ ?_
   ·rintro x e r ⟨y,rfl⟩;walk_at"w";refine zy i (dq c e) ?_;exact⟨O,O,_,O⟩
   ·rintro l _;refine⟨dg (by rw[lM1];lia),?_⟩
    ((try walk_at"w");repeat(simp only[lV (F:=λx=>tf (x∈wHa))];try walk_at"w"))
    cases ha:xs.all (λx=>tf (x∈wHa))with
    |false=>
     walk_at"w";rw[mW ha]at q;exact⟨⟨_,O⟩,O,q⟩
    |true=>
     walk_at"w";rw[bA]at ha;obtain⟨rs,rfl,g⟩:=k6 (n:=3) (f:=fH) λx e=>iW.mp (ha x e);rw[lM1]at a;refine tO GF g DO a ?_;have:ord wHa (rs.map fH)=pj rs:=(qo (zB DO) g).symm;rw[this]at q;exact⟨⟨_,O⟩,O,q⟩
def fS(i:Nat):D:=wSt.getD i .non
theorem c5{P:Nat->Prop}(b:P 0)(h1:P 1)(h2:P 2)(c:P 3)(a:P 4):∀i,i<5->P i
 |0,_=>b
 |1,_=>h1
 |2,_=>h2
 |3,_=>c
 |4,_=>a
 |i+5,h=>by lia
def Co:D->D
 | .non=>.int (-1)
 |d=>d
theorem ub:∀i,i<5->Co (fS i) = .int ((i:Int)-1):=c5 O O O O O
theorem Gw:∀i j,i<5->j<5->fS i=fS j->i=j:=λi j hi a e=>by
 have h:=congrArg Co e;rw[ub i hi,ub j a]at h;injection h with h;lia
theorem uX{x:D}:(pe x||ge 4 x)=tf (x∈wSt):=by
 refine nk ⟨λh=>?_,λh=>?_⟩
 ·rw[bJ]at h;rcases h with h|h
  ·cases x with
   |non=>exact mS1
   |_=>cases h
  ·cases x with
   |int i=>
    rw[ge,bA1,al,al]at h;rcases(show i=0\/i=1\/i=2\/i=3 by lia)with z|z|z|z<;>subst z<;>simp[wSt]
   |_=>cases h
 ·simp only[wSt,aD,cC,or_false]at h;rcases h with z|z|z|z|z<;>subst z<;>rfl
theorem I0{a b:FE}{r:Ev}{S:Sto}{Q:D×Sto->Prop}:W (Ck a b r S) Q↔W (a r S) λp=>W (oC p.2 p.1) λk=>if k=M then Q p else W (b r p.2) Q:=by
 unfold Ck;rw[dh];simp only[dh,ox,dm]
theorem Be{d:D}{S:Sto}{Q:D×Sto->Prop}(A:d5 S)(hv:vd S d=M)(G:∀xs,d = .tup xs->xs.length<=1000)(q:Q (.bl (gx wSt d),S)):W (c9 1 gM [d] S) Q:=by
 refine fG O A (q9 hv) λT w h=>?_;have k:=vd1' h;have h1:=fc k;unfold gM;refine io ?_;unfold mx;cases ht:kE d with
 |false=>
  ((try walk_at"w");repeat(simp only[d8,h1,ht];try walk_at"w"))
  rw[nw ht]at q;exact⟨⟨[],(aK T).symm⟩,O,q⟩
 |true=>
  obtain⟨xs,rfl⟩:=ff ht;have c:=G xs O;rw[vd]at k;cases he:xs.isEmpty with
  |true=>
   ((try walk_at"w");repeat(simp only[d8,h1,ht,Cp,he];try walk_at"w"))
   have:gx wSt (.tup xs)=J:=by show(!xs.isEmpty&&_)=J;rw[he];rfl
   rw[this]at q;exact⟨⟨[],(aK T).symm⟩,O,q⟩
  |false=>
   have E:gx wSt (.tup xs)=ord wSt xs:=by show(!xs.isEmpty&&_)=_;rw[he];rfl
   rw[E]at q
   ((try walk_at"w");repeat(simp only[d8,h1,ht,Cp,he];try walk_at"w"))
   refine ft.mpr ?_;refine oH (λx=>.bl (tf (x∈wSt))) (λr=>∃x,r=[x]) O xs _ ⟨_,O⟩ ?_ ?_
   ·rintro x g r ⟨y,rfl⟩;walk_at"w";rw[I0]
    ((try walk_at"w");repeat(simp only[zJ,oC,m5];try walk_at"w"))
    cases hn:pe x with
    |true=>
     rw[ak O];have s:tf (x∈wSt)=M:=by rw[<- uX,hn];rfl
     rw[s]
     first|exact⟨rfl,rfl,_,rfl⟩|exact⟨rfl,_,rfl⟩
    |false=>
     rw[aj (by decide)]
     try walk_at"w"
     refine ln (m:=4) w (dq k g) ?_;have s:tf (x∈wSt)=ge 4 x:=by rw[<- uX,hn];rfl
     rw[s]
     first|exact⟨rfl,rfl,_,rfl⟩|exact⟨rfl,_,rfl⟩
   ·rintro C _;refine⟨dg (by rw[lM1];lia),?_⟩
    ((try walk_at"w");repeat(simp only[lV (F:=λx=>tf (x∈wSt))];try walk_at"w"))
    cases ha:xs.all (λx=>tf (x∈wSt))with
    |false=>
     walk_at"w";rw[mW ha]at q;exact⟨⟨_,O⟩,O,q⟩
    |true=>
     walk_at"w";rw[bA]at ha;obtain⟨rs,rfl,t⟩:=k6 (n:=5) (f:=fS) λx g=>iW.mp (ha x g);rw[lM1]at c;refine ft.mpr ?_;generalize a:T++[Ob.lst ((rs.map fS).map λx=>D.bl (tf (x∈wSt)))]=T1;have v:d5 T1:=by
      rw[<- a];exact gI w λo u=>by
       rw[cD.mp u,Ob.und,bu];exact unds_map (λ_=>rfl) rs
     refine oH Co (λr=>∃x,r=[x]) O (rs.map fS) _ ⟨_,O⟩ ?_ ?_
     ·rintro x g r ⟨y,rfl⟩
      ((try walk_at"w");repeat(simp only[zJ,lO];try walk_at"w"))
      cases x with
      |non=>first|exact⟨rfl,rfl,_,rfl⟩|exact⟨rfl,_,rfl⟩
      |_=>first|exact⟨rfl,rfl,_,rfl⟩|exact⟨rfl,_,rfl⟩
     ·rintro C _;rw [bu];have B:rs.map (Co∘fS)=rs.map fun i:Nat=>D.int ((i:Int)-1):=cj fun i hi=>ub i (t i hi);rw [B];refine ⟨dg (by rw [lM1];lia),?_⟩;have l:d5 (T1++[Ob.lst (rs.map fun i:Nat=>D.int ((i:Int)-1))]):=gI v fun o u=>by
       rw[cD.mp u,Ob.und];exact unds_map (λ_=>rfl) rs
      have b:(T1++[Ob.lst (rs.map λi:Nat=>D.int ((i:Int)-1))])[T1.length]?=Z (.lst (rs.map λi:Nat=>D.int ((i:Int)-1))):=by rw[db];rfl
      walk_at"w";refine Ap O (by simp[D.unds,D.und]) l ?_;refine(u3 (f:=λi:Nat=>D.int ((i:Int)-1)) (m:=5) (rs:=rs) t ?_ c ?_ ?_).mono ?_
      ·intro i j _ _;show Z (D.bl (decide (((i:Int)-1)<((j:Int)-1))),_)=_;rw[show decide (((i:Int)-1)<((j:Int)-1))=decide (i<j) by rw[bL,al,al];lia]
      ·simp only[dX,fT b,oP1,lM1]
      ·intro i hi;obtain⟨p,e,rfl⟩:=gt (i:=i) (Q:=λp=>p=(D.int ((rs[i]:Int)-1),T1++[Ob.lst (rs.map λi:Nat=>D.int ((i:Int)-1))])) b (by rw[gP1,gG1 hi];rfl) O;exact e
      ·rintro⟨d,V⟩ ⟨z,e⟩;dsimp only at e z;subst e;refine⟨z,O,?_⟩;have:ord wSt (rs.map fS)=pj rs:=(qo Gw t).symm;rw[this]at q;refine⟨⟨[Ob.lst ((rs.map fS).map λx=>D.bl (tf (x∈wSt)))]++[Ob.lst (rs.map λi:Nat=>D.int ((i:Int)-1))],by rw[<- a,aW]⟩,O,q⟩
def e6(lo hi:Int):D->Bool
 | .int i=>decide (lo<=i)&&decide (i<=hi)
 |_=>J
theorem Lb{S:Sto}{d:D}{a b:Int}(h:vd S d=M):fm S [d,.int a,.int b]=M:=by rw[fm,h,fm,fm,fm,vd,vd];rfl
theorem hL{d:D}{lo hi:Int}{S:Sto}{Q:D×Sto->Prop}(c:d5 S)(hv:vd S d=M)(q:Q (.bl (e6 lo hi d),S)):W (c9 3 dL [d,.int lo,.int hi] S) Q:=by
 refine fG O c (Lb hv) λT e a=>?_;have h1:=xG (vd1' a);have h2:=pM (vd1' a);unfold dL;refine io ?_;unfold jN;cases d with
 |int i=>
  have a1:i3 T .int (.int i)=Z M:=h1;have a2:i3 T .bool (.int i)=Z J:=h2
  ((try walk_at"w");repeat(simp only[d8,a1,a2,ml];try walk_at"w"))
  cases hc:decide (lo<=i)with
  |true=>
   walk_at"w";have:e6 lo hi (.int i)=decide (i<=hi):=by show(decide (lo<=i)&&_)=_;rw[hc];rfl
   rw[this]at q;exact⟨⟨[],(aK T).symm⟩,O,q⟩
  |false=>
   walk_at"w";have:e6 lo hi (.int i)=J:=by show(decide (lo<=i)&&_)=_;rw[hc];rfl
   rw[this]at q;exact⟨⟨[],(aK T).symm⟩,O,q⟩
 |bl b=>
  have a1:i3 T .int (.bl b)=Z M:=h1;have a2:i3 T .bool (.bl b)=Z M:=h2
  ((try walk_at"w");repeat(simp only[d8,a1,a2];try walk_at"w"))
  exact⟨⟨[],(aK T).symm⟩,O,q⟩
 |_=>
  have a1:=h1;simp only[tw,AU,Bool.or_self]at a1
  ((try walk_at"w");repeat(simp only[d8,a1];try walk_at"w"))
  exact⟨⟨[],(aK T).symm⟩,O,q⟩
theorem m9{m:Nat}{d:D}:ge m d=e6 0 ((m:Int)-1) d:=by
 cases d with
 |int i=>rw[ge,e6,bL];simp only[bA1,al];lia
 |_=>rfl
theorem Ay{a b c:D}{S:Sto}{Q:D×Sto->Prop}(k:d5 S)(ha:vd S a=M)(hb:vd S b=M)(hc:vd S c=M)(q:Q (.bl (e6 1 3 a&&e6 0 8 b&&e6 0 40 c),S)):W (c9 3 gk [a,b,c] S) Q:=by
 refine fG O k (by rw[fm,ha,fm,hb,fm,hc,fm];rfl) λT e d=>?_;have h1:=vd1' d;have h2:vd T b=M:=dq d (by simp);have h:vd T c=M:=dq d (by simp);unfold gk;refine io ?_;unfold ls hD hE hH;walk_at"w";refine ln (m:=4) e h1 ?_;walk_at"w";cases h4:ge 4 a with
 |false=>
  walk_at"w";have:e6 1 3 a=J:=by
   cases a with
   |int i=>
    rw[ge,cF,decide_eq_false_iff_not,decide_eq_false_iff_not]at h4;rw[e6,cF,decide_eq_false_iff_not,decide_eq_false_iff_not];lia
   |_=>rfl
  rw[this]at q;exact⟨⟨[],(aK T).symm⟩,O,q⟩
 |true=>
  cases a with
  |int i=>
   rw[ge,bA1,al,al]at h4;walk_at"w";by_cases f:i=0
   ·subst f
    try walk_at"w"
    exact⟨⟨[],(aK T).symm⟩,O,q⟩
   ·have j:(i == 0)=J:=beq_eq_false_iff_ne.mpr f;have g:e6 1 3 (.int i)=M:=by rw[e6,bA1,al,al];lia
    rw[g,cE]at q
    ((try walk_at"w");repeat(simp only[j];try walk_at"w"))
    refine ln (m:=9) e h2 ?_;walk_at"w";cases h5:ge 9 b with
    |false=>
     walk_at"w";rw[m9]at h5;rw[show e6 0 8 b=J from h5]at q;exact⟨⟨[],(aK T).symm⟩,O,q⟩
    |true=>
     walk_at"w";rw[m9]at h5;rw[show e6 0 8 b=M from h5,cE]at q;refine ln (m:=41) e h ?_;rw[m9];exact⟨⟨[],(aK T).symm⟩,O,q⟩
  |_=>cases h4
theorem g8{S:Sto}{G:Sto}:∀{xs:List D},fm S xs=M->fm (S++G) xs=M:=λh=>kN (λn a=>by
 rcases tE a with⟨ys,e⟩|⟨_,e⟩
 ·rw[vd,gL1 (gE1.mp e).1,e]
 ·rw[mI]at e;rw[vd];split at e
  ·rename_i ks z;rw[gL1 (gE1.mp z).1,z]
  ·rename_i ks z;rw[gL1 (gE1.mp z).1,z]
  ·cases e) h
theorem uP{d:D}{k:Nat}{ws:List D}{S:Sto}{Q:D×Sto->Prop}(A:d5 S)(hk:S[k]?=Z (.lst ws))(hw:∀w∈ws,∃s,w = .str s)(l:ws.length<=10)(hv:vd S d=M)(q:Q (.bl (kB ws d),S)):W (c9 2 ej [d,.ref k] S) Q:=by
 refine Ap O (by rw[D.unds,D.unds,D.und];simp) A ?_;have h1:=fc hv;unfold ej;refine io ?_;unfold jl;cases ht:kE d with
 |false=>
  ((try walk_at"w");repeat(simp only[d8,h1,ht];try walk_at"w"))
  rw[vb ht]at q;exact⟨⟨[],(aK S).symm⟩,O,q⟩
 |true=>
  obtain⟨xs,rfl⟩:=ff ht;have h:=hv;rw[vd]at h;have n:jr (.tup xs) S=Z (.ref S.length,S++[.lst xs]):=rfl
  ((try walk_at"w");repeat(simp only[d8,h1,ht,n];try walk_at"w"))
  have b:(S++[Ob.lst xs])[k]?=Z (.lst ws):=by rw[gL1 (gE1.mp hk).1];exact hk
  refine eI b ?_;have:=i5 (c:=[(k,ws)]) (S:=S++[Ob.lst xs]) (f:=λd:D=>d) (g:=gN 0) (t:=mB (m2 (b2 lP) (mV 0) (mV 1))) (e:=mV 0) (Q:=λp=>p.1=ws.filter (λw=>xs.any (fq w))/\p.2.2=S++[Ob.lst xs]) (λw=>xs.any (fq w)) (λw=>w) (λr=>∃x,r=[x,Z (.tup xs)]) (hA b) ws [Y,Z (.tup xs)] ⟨_,O⟩ (by
   rintro w a r ⟨y,rfl⟩;obtain⟨s,rfl⟩:=hw w a
   ((try walk_at"w");repeat(simp only[ui (e:=.str s) (xs:=xs) (S:=S++[Ob.lst xs]) O (g8 h)];try walk_at"w"))
   exact⟨⟨_,O⟩,λ_=>trivial⟩) (λv _=>⟨by rw[cG],O⟩)
  rw[cG]at this;refine W.mono this ?_;rintro⟨ys,v,C⟩ ⟨rfl,h2⟩;dsimp only at h2 ⊢;subst h2;have m:ws.filter (λw=>xs.any (fq w))=ws.filter λw=>tf (w∈xs):=List.filter_congr λw a=>by
   obtain⟨s,rfl⟩:=hw w a;exact qB
  rw[m];have i:∀e∈ws.filter (λw=>tf (w∈xs)),em e=M:=λe j=>by
   obtain⟨s,rfl⟩:=hw e (az.mp j).1;rfl
  refine⟨dg (by have:=cw (λw=>tf (w∈xs)) ws;lia),?_⟩;have o:(S++[Ob.lst xs]++[Ob.lst (ws.filter λw=>tf (w∈xs))])[S.length]?=Z (.lst xs):=by rw[aW,db];rfl
  have z:(S++[Ob.lst xs]++[Ob.lst (ws.filter λw=>tf (w∈xs))])[(S++[Ob.lst xs]).length]?=Z (.lst (ws.filter λw=>tf (w∈xs))):=by rw[db];rfl
  have u:gEq (.ref S.length) (.ref (S++[Ob.lst xs]).length) (S++[Ob.lst xs]++[Ob.lst (ws.filter λw=>tf (w∈xs))])=Z (.bl (ord ws xs),S++[Ob.lst xs]++[Ob.lst (ws.filter λw=>tf (w∈xs))]):=by
   unfold gEq;rw[vO o z (g8 (g8 h)) i,tP λx B e j=>?_]
   ·rfl
   ·obtain⟨s,rfl⟩:=hw e (az.mp j).1;exact yk
  refine W.of u ?_;exact⟨⟨_,aW _ _ _⟩,O,q⟩
theorem ifs2{c:FT}{k:FS}{r:Ev}{T:Sto}{b:Bool}{Q:Fl×Ev×Sto->Prop}(hc:W (c r T) λp=>p=(!b,T))(a:b=J->Q (.rt (.bl J),r,T))(h1:b=M->W (k r T) Q):W (di (eh c (dB (mC (D.bl J))) hI) k r T) Q:=by
 obtain⟨_,e,rfl⟩:=hc;unfold di eh;rw[e,oS1];cases b with
 |false=>exact dm.mpr (a O)
 |true=>exact h1 O
theorem LA{c:FT}{r:Ev}{T:Sto}{b:Bool}{Q:Fl×Ev×Sto->Prop}(hc:W (c r T) λp=>p=(!b,T))(a:b=J->Q (.rt (.bl J),r,T))(h1:b=M->Q (.nx,r,T)):W (eh c (dB (mC (D.bl J))) hI r T) Q:=by
 obtain⟨_,e,rfl⟩:=hc;unfold eh;rw[e,oS1];cases b with
 |false=>exact dm.mpr (a O)
 |true=>exact dm.mpr (h1 O)
def Jd(rs:List (List D))(r d:Nat)(x:D):Prop:=∃a b:Nat,x=dP (a,b)/\(a,b)≠(r,d) /\ ∃row y,rs[a]?=Z row/\row[b]?=Z y/\qt y [.int (r:Nat),.int (d:Nat)]=M
theorem DN{r d:Nat}:∀e∈[D.int (r:Nat),D.int (d:Nat)],em e=M:=λe a=>by
 simp only[aD,cC,or_false]at a;rcases a with z|z<;>subst z<;>rfl
theorem u4{a b r d:Nat}:qt (dP (a,b)) [.int (r:Nat),.int (d:Nat)]=tf ((a,b)=(r,d)):=by
 show(((a:Int) == (r:Int))&&(((b:Int) == (d:Int))&&M))=_;refine nk ?_;rw[bH,bA1,beq_iff_eq,beq_iff_eq,Prod.mk.injEq];lia
theorem EM{rs:List (List D)}{a:Nat}{row:List D}{T:Sto}(h:rs[a]?=Z row):de (.tup (rs.map D.tup)) (.int (a:Nat)) T=Z (.tup row,T):=ix_tup (by rw[gP1,h];rfl)
theorem Gj{xs:List D}{T:Sto}:dX (.tup xs) T=Z (.int (xs.length:Nat),T):=by simp[dX,dj]
theorem Dw{x:D}(h:j3 x=M):∃a b,x = .tup [a,b]:=vS h
def Jg:D->D
 | .tup (a::_)=>a
 |_=>.non
theorem J9{ys:List D}:(((ys.length:Nat):Int) == 2)=decide (ys.length=2):=by
 rw[bL,beq_iff_eq,al];lia
theorem GL{rs:List (List D)}{r d:Nat}{row:List D}{x:D}{T:Sto}{C I:Option D}{Q:Fl×Ev×Sto->Prop}(P:d5 T)(hv:∀ row∈rs,fm T row=true)(u:rs[r]? = some row)(hx:row[d]? = some x)(X:Jd rs r d x->Q (.nx,[some (.tup (rs.map D.tup)),some (.int (r:Nat)),some (.tup row),some (.int (d:Nat)),some x,C,I],T))(F:¬ Jd rs r d x->Q (.rt (.bl false),[some (.tup (rs.map D.tup)),some (.int (r:Nat)),some (.tup row),some (.int (d:Nat)),some x,C,I],T)):
  W (g0 [Z (.tup (rs.map D.tup)),Z (.int (r:Nat)),Z (.tup row),Z (.int (d:Nat)),Z x,C,I] T) Q:=by
 have f:vd T x=M:=dq (hv row (gM1 u)) (gM1 hx);have wq:∀S,dX (.tup (rs.map D.tup)) S=Z (.int (rs.length:Nat),S):=λS=>by rw[Gj,lM1]
 have h1:=fc f;unfold g0;refine ifs2 (b:=j3 x&&e6 0 ((rs.length:Int)-1) (Jg x)) ?_ (λo=>?_) (λo=>?_)
 ·cases ht:kE x with
  |false=>
   ((try walk_at"w");repeat(simp only[d3,h1,ht];try walk_at"w"))
   have:j3 x=J:=by cases x with
    |tup ys=>cases ht
    |_=>rfl
   rw[this];rfl
  |true=>
   obtain⟨ys,rfl⟩:=ff ht;cases h2:decide (ys.length=2)with
   |false=>
    have:j3 (.tup ys)=J:=h2
    ((try walk_at"w");repeat(simp only[d3,h1,ht];try walk_at"w"))
    rw[this,ak (by rw[J9,h2];rfl)];rfl
   |true=>
    obtain⟨a,b,e⟩:=Dw (x:=.tup ys) h2;cases e;have A:∀S,de (.tup [a,b]) (.int 0) S=Z (a,S):=λS=>ix_tup (i:=0) O;rw[vd]at f
    ((try walk_at"w");repeat(simp only[d3,h1,ht,A];try walk_at"w"))
    rw[aj (by decide),lM1];refine hL P (dq f (by simp)) ?_;walk_at"w";rw[show j3 (.tup [a,b])=M from rfl,cE];rfl
 ·refine F fun ⟨a,b,e,_,k,y,c,_⟩=>?_;subst e;have:(j3 (dP (a,b))&&e6 0 ((rs.length:Int)-1) (Jg (dP (a,b))))=true:=by
   have K:=(gE1.mp c).1;show(M&&(decide ((0:Int)<=(a:Int))&&decide ((a:Int)<=(rs.length:Int)-1)))=M;rw[ah (by lia),ah (by lia)];rfl
  rw[this]at o;cases o
 ·rw[bA1]at o;obtain⟨ar,b,rfl⟩:=Dw o.1;have w:e6 0 ((rs.length:Int)-1) ar=M:=o.2;cases ar with
  |int V=>
   rw[e6,bA1,al,al]at w;obtain⟨a,rfl⟩:∃a:Nat,V=(a:Nat):=⟨V.toNat,by lia⟩;obtain⟨ra,h⟩:∃ra,rs[a]?=some ra:=⟨_,gG1 (by lia)⟩;have A:∀S,de (.tup [.int (a:Nat),b]) (.int 0) S=Z (.int (a:Nat),S):=λS=>ix_tup (i:=0) O;have N:∀S,de (.tup [.int (a:Nat),b]) (.int 1) S=Z (b,S):=λS=>ix_tup (i:=1) O;have ao:∀S,de (.tup (rs.map D.tup)) (.int (a:Nat)) S=Z (.tup ra,S):=λS=>EM h;have G:vd T b=M:=by rw[vd]at f;exact dq f (by simp)
   have B:=m4 (S:=T) (DN (r:=r) (d:=d)) f;refine ifs2 (b:=e6 0 ((ra.length:Int)-1) b && !qt (.tup [.int (a:Nat),b]) [.int (r:Nat),.int (d:Nat)]) ?_ (λhc=>?_) (λhc=>?_)
   ·((try walk_at"w");repeat(simp only[N,A,ao];try walk_at"w"))
    refine hL P G ?_;walk_at"w";cases h4:e6 0 ((ra.length:Int)-1) b with
    |false=>
     walk_at"w";rfl
    |true=>
     ((try walk_at"w");repeat(simp only[B];try walk_at"w"))
     rw[cE,Bool.not_not]
   ·refine F λ⟨t,q,e,m,k,y,c,n,_⟩=>?_;injection e with e;injection e with g e;injection e with j e;injection g with g;have l:t=a:=by lia
    subst l;subst j;rw[h]at c;cases c;have K:=(gE1.mp n).1;have:qt (D.tup [.int (t:Nat),.int (q:Nat)]) [.int (r:Nat),.int (d:Nat)]=J:=by
     have:=u4 (a:=t) (b:=q) (r:=r) (d:=d);rw[g9 m]at this;exact this
    rw[this]at hc;have:e6 0 ((ra.length:Int)-1) (.int (q:Nat))=M:=by rw[e6,ah (by lia),ah (by lia)];rfl
    rw[this]at hc;cases hc
   ·rw[bA1]at hc;obtain⟨s,p⟩:=hc;cases b with
    |int U=>
     rw[e6,bA1,al,al]at s;obtain⟨bn,rfl⟩:∃bn:Nat,U=(bn:Nat):=⟨U.toNat,by lia⟩;obtain⟨y,n⟩:∃y,ra[bn]?=some y:=⟨_,gG1 (by lia)⟩;have ey:∀S,de (.tup ra) (.int (bn:Nat)) S=Z (y,S):=λS=>ix_tup n;have am:vd T y=M:=dq (hv ra (gM1 h)) (gM1 n);have m:((a,bn):Nat×Nat)≠(r,d):=λz=>by
      have:=u4 (a:=a) (b:=bn) (r:=r) (d:=d);rw[nj z]at this;rw[show qt (D.tup [.int (a:Nat),.int (bn:Nat)]) [.int (r:Nat),.int (d:Nat)]=M from this]at p;cases p
     have H:=CM (S:=T) (DN (r:=r) (d:=d)) am;refine LA (b:=qt y [.int (r:Nat),.int (d:Nat)]) ?_ (λE=>?_) (λE=>?_)
     ·((try walk_at"w");repeat(simp only[A,N,ao,ey];try walk_at"w"))
      refine W.of H ?_;exact W.of O O
     ·refine F λ⟨t,q,e,_,k,aq,c,v,R⟩=>?_;injection e with e;injection e with g e;injection e with j e;injection g with g;injection j with j;have l:t=a:=by lia
      have L:q=bn:=by lia
      subst l;subst L;rw[h]at c;cases c;rw[n]at v;cases v;rw[E]at R;cases R
     ·exact X ⟨a,bn,O,m,ra,y,h,n,E⟩
    |_=>cases s
  |_=>cases w
def Dr(rs:List (List D)):Prop:=∀(r:Nat) (row:List D) (d:Nat) (x:D),rs[r]?=Z row->row[d]?=Z x->Jd rs r d x
theorem la{α β:Type}{f:α->β}:∀{xs:List β},(∀x∈xs,∃a,x=f a) -> ∃l:List α,xs=l.map f
 |[],_=>⟨[],O⟩
 |x::xs,h=>by
  obtain⟨a,rfl⟩:=h x mS1;obtain⟨l,rfl⟩:=la (xs:=xs) λy b=>h y (mC1 _ b);exact⟨a::l,O⟩
theorem GP{a b:Nat×Nat}(h:dP a=dP b):a=b:=by
 unfold dP at h;injection h with h;injection h with h1 h;injection h with h2 h;injection h1 with h1;injection h2 with h2;exact Prod.ext (by lia) (by lia)
def xh(row:List (Nat×Nat)):List D:=row.map dP
theorem DW(w:dU):dW w = .tup ((w.map xh).map D.tup):=by
 unfold dW;rw[bu];rfl
theorem Dz{w:dU}{r d:Nat}{row:List D}{x:D}(h:(w.map xh)[r]?=Z row)(hx:row[d]?=Z x):∃p,At w r d p/\x=dP p:=by
 rw[gP1]at h;obtain⟨a,c,rfl⟩:=oM1.mp h;unfold xh at hx;rw[gP1]at hx;obtain⟨p,b,rfl⟩:=oM1.mp hx;exact⟨p,⟨a,c,b⟩,O⟩
theorem DZ{w:dU}{r d:Nat}{p:Nat×Nat}(h:At w r d p):∃a,(w.map xh)[r]?=Z a/\a[d]?=Z (dP p):=by
 obtain⟨b,c,e⟩:=h;exact⟨xh b,by rw[gP1,c];rfl,by unfold xh;rw[gP1,e];rfl⟩
theorem A0{w:dU}(h:WP w):Dr (w.map xh):=λr g d x c e=>by
 obtain⟨p,b,rfl⟩:=Dz c e;obtain⟨a,h2,f⟩:=DZ (h.back r d p b);exact⟨p.1,p.2,O,h.ne r d p b,a,_,h2,f,by rw[show dP (r,d)=dP (r,d)from rfl,u4];exact nj O⟩
theorem Di{rs:List (List D)}(t:0<rs.length)(s:rs.length<=8)(A:∀c∈rs,c.length<=4)(h:Dr rs):∃w:dU,rs=w.map xh/\WP w:=by
 obtain⟨w,rfl⟩:=la (f:=xh) (xs:=rs) λc g=>by
  obtain⟨r,n⟩:=bt g;obtain⟨l,rfl⟩:=la (f:=dP) (xs:=c) λx B=>by
   obtain⟨d,v⟩:=bt B;obtain⟨a,b,e,_⟩:=h r c d x n v;exact⟨(a,b),e⟩
  exact⟨l,O⟩
 rw[lM1]at t s;have i:∀r d p,At w r d p->p≠(r,d)/\At w p.1 p.2 (r,d):=λr d p j=>by
  obtain⟨c,h1,h2⟩:=DZ j;obtain⟨a,b,e,o,u,y,C,z,q⟩:=h r c d _ h1 h2;have ep:=GP e;subst ep;refine⟨o,?_⟩;obtain⟨m,k,rfl⟩:=Dz C z;rw[show dP m=dP (m.1,m.2)from rfl,u4,iW]at q;rw[show m=(r,d)from q]at k;exact k
 refine⟨w,O,t,s,λr c n=>?_,λr d p j=>(i r d p j).2,λr d p j=>(i r d p j).1⟩;have:=A (xh c) (bZ.mpr ⟨c,gM1 n,O⟩);unfold xh at this
 rwa [lM1]at this
theorem C2{rs:List (List D)}{T:Sto}{Q:Fl×Ev×Sto->Prop}(u:d5 T)(hv:∀ a∈rs,fm T a=true)(v:Dr rs -> ∀y1 y2 y3 g,Q (.nx,[some (.tup (rs.map D.tup)),y1,y2,y3,g,none,none],T))(B:¬ Dr rs -> ∀y1 y2 y3 g,Q (.rt (.bl false),[some (.tup (rs.map D.tup)),y1,y2,y3,g,none,none],T)):
  W (ga (vE (cX (mV 0) cY)) (gT 2 (gm (gN 1) (gm (gN 2) lN))) gZ [Z (.tup (rs.map D.tup)),Y,Y,Y,Y,Y,Y] T) Q:=by
 unfold ga;rw[dh];refine sO (d:=.tup (rs.map D.tup)) (S1:=T) O ?_;refine ft.mpr ?_;refine r0 (λi r S=>S=T/\(∀(r:Nat) (a:List D) (d:Nat) (x:D),r<i->rs[r]?=Z a->a[d]?=Z x->Jd rs r d x) /\ ∃y1 y2 y3 g,r=[Z (.tup (rs.map D.tup)),y1,y2,y3,g,Y,Y]) _ 0 _ _ ⟨O,λr a d x h=>by lia,_,_,_,_,O⟩ (λ_ _ _ _=>rfl) ?_ ?_
 ·rintro i dd c r S ⟨rfl,l,y1,y2,y3,g,rfl⟩;dsimp only at c;rw[iq,gP1]at c;obtain⟨z,A,rfl⟩:=oM1.mp c;obtain⟨a,f,rfl⟩:=oM1.mp A;rw[bI]at *
  walk_at"w";unfold gZ ga;rw[dh];refine sO (d:=.tup a) (S1:=S) O ?_;refine ft.mpr ?_;refine r0 (λj r q=>q=S/\(∀(d:Nat) (x:D),d<j->a[d]?=Z x->Jd rs i d x) /\ ∃y3 g,r=[Z (.tup (rs.map D.tup)),Z (.int (i:Nat)),Z (.tup a),y3,g,Y,Y]) _ 0 _ _ ⟨O,λd x h=>by lia,_,_,O⟩ (λ_ _ _ _=>rfl) ?_ ?_
  ·rintro j dd c r q ⟨rfl,e,y3,g,rfl⟩;dsimp only at c;rw[iq]at c;obtain⟨x,k,rfl⟩:=oM1.mp c;rw[bI]at *
   walk_at"w";refine GL u hv f k (λp=>?_) (λp=>?_)
   ·refine .inl ⟨O,O,λd y C m=>?_,_,_,O⟩;by_cases z:d<j
    ·exact e d y z m
    ·have:d=j:=by lia
     subst this;rw[k]at m;cases m;exact p
   ·refine .inr (.inl ⟨_,O,?_⟩);refine .inr (.inl ⟨_,O,?_⟩);exact B (λw=>p (w i a j x f k)) _ _ _ _
  ·rintro r q ⟨rfl,e,y3,g,rfl⟩;refine .inl ⟨O,O,λo n d x t b k=>?_,_,_,_,_,O⟩;by_cases z:o<i
   ·exact l o n d x z b k
   ·have:o=i:=by lia
    subst this;rw[f]at b;cases b;refine e d x ?_ k;rw[ip,bI];exact(gE1.mp k).1
 ·rintro r S ⟨rfl,l,y1,y2,y3,g,rfl⟩;refine v (λr a d x s k=>l r a d x ?_ s k) _ _ _ _;rw[ip,bI,lM1];exact(gE1.mp s).1
structure MI (w:dU)(ao:List Nat)(k:Nat):Prop where
 nd:ao.Nodup
 lt:∀v∈ao,v<w.length
 z:0∈ao
 rch:∀P:Nat->Prop,P 0->(∀r d p,At w r d p->P r->P p.1) -> ∀v∈ao,P v
 nb:∀(i v d:Nat) (p:Nat×Nat),i<k->ao[i]?=some v->At w v d p->p.1∈ao
theorem MI.start{w:dU}(h:WP w):MI w [0] 0:=⟨by simp,λv a=>by rw[cD.mp a];exact h.pos,by simp,λP b _ v a=>by rw[cD.mp a];exact b,λi v d p hi=>by lia⟩
def newL(row:List (Nat×Nat))(ao:List Nat):List Nat:=(row.filter λp=> !ao.contains p.1).map (·.1)
theorem MI.step{w:dU}{ao:List Nat}{k u:Nat}{row:List (Nat×Nat)}(h:MI w ao k)(hw:WP w)(m:ao[k]?=Z u)(hr:w[u]?=Z row):MI w (ao++(af w.length).filter λr=>tf (r∈newL row ao)) (k+1):=by
 have g:∀v,v∈newL row ao -> ∃d p,At w u d p/\p.1=v/\v∉ao:=λv c=>by
  obtain⟨p,f,rfl⟩:=bZ.mp c;obtain⟨n,l⟩:=az.mp f;obtain⟨d,t⟩:=bt n;exact⟨d,p,⟨row,hr,t⟩,O,by simpa using l⟩
 have j:∀v,v∈(af w.length).filter (λr=>tf (r∈newL row ao))↔v<w.length/\v∈newL row ao:=λv=>by rw[az,aA,iW]
 refine⟨?_,λv c=>?_,aF _ h.z,λP o hc v c=>?_,λi v d p hi c f=>?_⟩
 ·refine bx.mpr ⟨h.nd,List.Pairwise.filter _ List.nodup_range,λa A b B e=>?_⟩;subst e;obtain⟨_,_,_,_,y⟩:=g a ((j a).mp B).2;exact y A
 ·rcases aE.mp c with z|z
  ·exact h.lt v z
  ·exact((j v).mp z).1
 ·rcases aE.mp c with z|z
  ·exact h.rch P o hc v z
  ·obtain⟨d,p,f,rfl,_⟩:=g v ((j v).mp z).2;exact hc u d p f (h.rch P o hc u (gM1 m))
 ·have x:=(gE1.mp m).1;rw[gL1 (by lia)]at c;by_cases z:i<k
  ·exact aF _ (h.nb i v d p z c f)
  ·have:i=k:=by lia
   subst this;rw[m]at c;cases c;by_cases s:p.1∈ao
   ·exact aF _ s
   ·refine mA1 _ ((j p.1).mpr ⟨(hw.back u d p f).lt,bZ.mpr ⟨p,az.mpr ⟨?_,by simpa using s⟩,O⟩⟩);obtain⟨q,h1,h2⟩:=f;rw[hr]at h1;cases h1;exact gM1 h2
theorem MI.few{w:dU}{ao:List Nat}{k:Nat}(h:MI w ao k):ao.length<=w.length:=Law.few h.nd h.lt
theorem MI.end{w:dU}{ao:List Nat}{k:Nat}(h:MI w ao k)(hk:ao.length<=k):ao.length=w.length↔Con w:=by
 constructor
 ·intro e P f hc v b;refine h.rch P f hc v ?_;apply Classical.byContradiction;intro a;have:=Law.few (N:=w.length) (l:=v::ao) (aL.mpr ⟨a,h.nd⟩) fun x n=>by
   rcases aD.mp n with z|z
   ·rw[z];exact b
   ·exact h.lt x z
  rw[lC1]at this;lia
 ·intro hc;have h1:=h.few;by_cases z:ao.length=w.length
  ·exact z
  ·obtain⟨j,m,a⟩:=nW w.length ao (by lia);refine absurd (hc (λv=>v∈ao) h.z (λr d p g c=>?_) j m) a;obtain⟨i,hi⟩:=bt c;exact h.nb i r d p (by have:=(gE1.mp hi).1;lia) hi g
theorem I1{n b:Nat}{xs ys:List D}{S:Sto}{Q:D×Sto->Prop}(h1:S[n]?=Z (.lst xs))(h2:S[b]?=Z (.lst ys))(a:xs.length+ys.length<=10000)(q:Q (.non,S.set n (.lst (xs++ys)))):W (zK (.ref n) (.ref b) S) Q:=by
 refine W.of ?_ q;simp only[zK,h1,h2];rw[ak (aB a (by decide))]
theorem Io{w:dU}{ao:List Nat}{k u:Nat}{row:List (Nat×Nat)}{T G:Sto}{y1 y2 y3 g:Option D}{Q:Fl×Ev×Sto->Prop}(hw:WP w)(h:MI w ao k)(l:ao[k]? = some u)(hr:w[u]? = some row)(q:∀a,Q (.nx,[some (dW w),y1,y2,y3,g,some (.ref T.length),some (.int ((k+1:Nat):Int))],T++Ob.lst (nmD (ao++(List.range w.length).filter fun r=>tf (r∈newL row ao)))::a)):
  W (gY [Z (dW w),y1,y2,y3,g,Z (.ref T.length),Z (.int (k:Nat))] (T++Ob.lst (nmD ao)::G)) Q:=by
 have am:=hw.few;have t:=h.few;have E:=hw.le u row hr;have C:=(gE1.mp l).1;have c:(T++Ob.lst (nmD ao)::G)[T.length]?=Z (.lst (nmD ao)):=by rw[db];rfl
 have A:∀S:Sto,S[T.length]?=Z (.lst (nmD ao))->de (.ref T.length) (.int (k:Nat)) S=Z (.int (u:Nat),S):=λS H=>by
  obtain⟨p,e,rfl⟩:=gt (i:=k) (Q:=λp=>p=(D.int (u:Nat),S)) H (by rw[nmD,gP1,l];rfl) O;exact e
 have o:∀S:Sto,de (dW w) (.int (u:Nat)) S=Z (.tup (row.map dP),S):=λS=>ix_tup (by rw[gP1,hr];rfl);unfold gY;refine eg (λr S=>∃a,S=T++Ob.lst (nmD (ao++(af w.length).filter λr=>tf (r∈newL row ao)))::a/\r=[Z (dW w),y1,y2,y3,g,Z (.ref T.length),Z (.int (k:Nat))]) ?_ ?_
 ·walk_at"w";refine ow ?_;walk_at"w";refine⟨T.length,nmD ao,O,c,?_⟩
  ((try walk_at"w");repeat(simp only[A _ c,o];try walk_at"w"))
  refine ft.mpr ?_;refine i5 (f:=dP) (λp=> !ao.contains p.1) (λp=>D.int (p.1:Nat)) (λr=>∃x,r=[x,Z (.ref T.length)]) O row _ ⟨_,O⟩ ?_ ?_
  ·rintro p j r ⟨x,rfl⟩;have n:∀S,de (dP p) (.int 0) S=Z (.int (p.1:Nat),S):=λS=>ix_tup (i:=0) O
   ((try walk_at"w");repeat(simp only[n,rR c];try walk_at"w"))
   refine⟨⟨_,O⟩,λ_=>?_⟩
   try((try walk_at"w");repeat(simp only[n];try walk_at"w"))
   all_goals first|trivial|exact⟨rfl,rfl⟩
  ·rintro I _;have B:(row.filter fun p=> !ao.contains p.1).map (fun p=>D.int (p.1:Nat))=nmD (newL row ao):=by
    unfold newL nmD;rw[bu];rfl
   rw[B];have s:(newL row ao).length<=4:=by
    unfold newL;rw[lM1];exact aB (cw _ _) E
   refine⟨dg (by rw[eQ];lia),?_⟩;walk_at"w";refine xa (m:=w.length) (f:=λr=>tf (r∈newL row ao)) (xs:=newL row ao) (by rw[gR1 (by lia),show T.length+(G.length+1)-T.length=G.length+1 by lia,gC1,db];rfl) (λr=>?_) (by lia) ?_
   ·rw[iW];refine⟨λb=>⟨?_,b⟩,λb=>b.2⟩;obtain⟨p,j,rfl⟩:=bZ.mp b;obtain⟨d,z⟩:=bt (az.mp j).1;exact(hw.back u d p ⟨row,hr,z⟩).lt
   walk_at"w";have y:((af w.length).filter λr=>tf (r∈newL row ao)).length<=8:=by
    have:=cw (λr=>tf (r∈newL row ao)) (af w.length);rw[cx]at this;lia
   generalize (af w.length).filter (λr=>tf (r∈newL row ao))=F at *
   refine I1 (xs:=nmD ao) (ys:=nmD F) ?_ (by rw[gR1 (by lia),show T.length+(G.length+2)-T.length=G.length+1+1 by lia,gC1,il];rfl) (by rw[eQ,eQ];lia) ?_
   ·rw[db];rfl
   ·have v:nmD ao++nmD F=nmD (ao++F):=by simp[nmD]
    rw[v];refine⟨G++[Ob.lst (nmD (newL row ao)),Ob.lst (nmD F)],?_,trivial⟩;rw[List.set_append_right _ _ (nR1 _),Nat.sub_self];rfl
 ·rintro r S ⟨a,rfl,rfl⟩;walk_at"w";have:=q a;rw[show((k+1:Nat):Int)=(k:Int)+1 by push_cast;rfl]at this;exact this
theorem re:∀{rs c:List (List D)},rs.map D.tup=c.map D.tup->rs=c
 |[],[],_=>rfl
 |[],_::_,e=>by cases e
 |_::_,[],e=>by cases e
 |a::rs,b::c,e=>by
  rw[mP1,mP1]at e;injection e with d f;injection d with d;rw[d,re f]
def pR:D->Bool
 | .tup ys=>decide (ys.length<=4)
 |_=>J
theorem Bl{d:D}{xs:List D}(e:d = .tup xs)(h:xs.all pR=J):iU d=J:=g9 λ⟨w,b,g⟩=>by
 subst e;unfold zW at b;injection b with b;subst b;have:(w.map zR).all pR=M:=bA.mpr λx c=>by
  obtain⟨a,f,rfl⟩:=bZ.mp c;show decide ((a.map zP).length<=4)=M;rw[lM1];exact ah ((jV g).1.2.2 a f)
 rw[this]at h;cases h
theorem A7{xs:List D}(h:¬ (1<=xs.length/\xs.length<=8)):iU (.tup xs)=J:=g9 λ⟨w,a,g⟩=>by
 unfold zW at a;injection a with a;subst a;rw[lM1]at h;exact h ⟨(jV g).1.1,(jV g).1.2.1⟩
theorem A6{d:D}(h:kE d=J):iU d=J:=g9 λ⟨w,a,g⟩=>by
 subst a;cases h
theorem ER{d:D}(h:pR d=M):∃ys,d = .tup ys:=by
 cases d with
 |tup ys=>exact⟨ys,O⟩
 |_=>cases h
theorem zu{d:D}{S:Sto}{Q:D×Sto->Prop}(hS:d5 S)(hv:vd S d=M)(q:Q (.bl (iU d),S)):W (c9 1 fN [d] S) Q:=by
 refine fG O hS (q9 hv) λT hT B=>?_;have A:=vd1' B;have h1:=fc A;unfold fN;refine io ?_;unfold kq;have nil:∃G,T=T++G:=⟨[],(aK T).symm⟩;refine ifs2 (b:=match d with | .tup xs=>decide (1<=xs.length)&&decide (xs.length<=8)|_=>false) ?_ (λc=>?_) (λc=>?_)
 ·cases ht:kE d with
  |false=>
   ((try walk_at"w");repeat(simp only[d3,h1,ht];try walk_at"w"))
   cases d with
   |tup xs=>cases ht
   |_=>rfl
  |true=>
   obtain⟨xs,rfl⟩:=ff ht
   ((try walk_at"w");repeat(simp only[d3,h1,ht,ml];try walk_at"w"))
   cases hc:decide ((1:Int)<=(xs.length:Int))with
   |false=>
    walk_at"w";rw[show decide (1<=xs.length)=J by rw[decide_eq_false_iff_not]at hc ⊢;lia];rfl
   |true=>
    walk_at"w";rw[show decide (1<=xs.length)=M by rw[al]at hc ⊢;lia,show decide ((xs.length:Int)<=8)=decide (xs.length<=8) by rw[bL,al,al];lia];rfl
 ·have:iU d=false:=by
   cases d with
   |tup xs=>
    refine A7 λz=>?_;dsimp only at c;rw[ah z.1,ah z.2]at c;cases c
   |_=>exact A6 O
  rw[this]at q;exact⟨nil,O,q⟩
 cases d with
 |tup xs=>
  dsimp only at c;rw[bA1,al,al]at c;rw[vd]at A;refine yb ?_;have cm:W (eu (mTr (mN (b1 gn) (cX (d6 1 [] (gb (mV 0)) (gN 0) eH (dV (eX (d8 .tuple (mV 0)) (m2 (b2 (fA λi j=>decide (i<=j))) (mN (b1 dX) (cX (mV 0) cY)) (mC (D.int 4)))))) cY))) [Z (.tup xs),Y,Y,Y,Y,Y,Y] T) λp=>p=(!xs.all pR,T++[.lst (xs.map λx=>D.bl (pR x))]):=by
   walk_at"w";refine ft.mpr ?_;refine oH (λx=>.bl (pR x)) (λr=>∃x,r=[x]) O xs _ ⟨_,O⟩ ?_ ?_
   ·rintro x I r ⟨y,rfl⟩;have n:=fc (dq A I);cases ht:kE x with
    |false=>
     ((try walk_at"w");repeat(simp only[d3,n,ht];try walk_at"w"))
     refine⟨?_,_,O⟩;cases x with
     |tup ys=>cases ht
     |_=>rfl
    |true=>
     obtain⟨ys,rfl⟩:=ff ht
     ((try walk_at"w");repeat(simp only[d3,n,ht];try walk_at"w"))
     refine⟨?_,_,O⟩;show D.bl (decide ((ys.length:Int)<=4))=D.bl (decide (ys.length<=4));rw[show decide ((ys.length:Int)<=4)=decide (ys.length<=4) by rw[bL,al,al];lia]
   ·rintro r' _;refine⟨dg (by rw[lM1];lia),?_⟩
    ((try walk_at"w");repeat(simp only[lV (F:=pR)];try walk_at"w"))
  obtain⟨_,ec,rfl⟩:=cm;unfold eh;rw[dh];refine W.of ec ?_;dsimp only;generalize m:T++[Ob.lst (xs.map λx=>D.bl (pR x))]=T1;have L:d5 T1:=by
   rw[<- m];exact gI hT λo ho=>by
    rw[cD.mp ho,Ob.und];exact unds_map (λ_=>rfl) xs
  have H:∃G,T1=T++G:=⟨_,m.symm⟩;cases ha:xs.all pR with
  |false=>
   rw[Bl O ha]at q;exact W.of O (.inr ⟨_,O,H,O,q⟩)
  |true=>
   refine W.of O (.inl ⟨O,?_⟩);rw[bA]at ha;obtain⟨v,rfl⟩:=la (f:=D.tup) (xs:=xs) λx I=>ER (ha x I);rw[lM1]at c;have K:∀row∈v,fm T1 row=M:=λrow a=>by
    have:=dq A (bZ.mpr ⟨row,a,O⟩);rw[vd]at this;rw[<- m];exact g8 this
   have h4:∀row∈v,row.length<=4:=λrow a=>of_decide_eq_true (ha _ (bZ.mpr ⟨row,a,O⟩));refine yb (C2 L K (λam y1 y2 y3 t=>.inl ⟨O,?_⟩) (λam y1 y2 y3 t=>.inr ⟨_,O,H,O,?_⟩))
   ·obtain ⟨w,rfl,s⟩:=Di c.1 c.2 h4 am;rw [<- DW] at q ⊢;have eq:iU (dW w)=tf (Con w):=by
     rw[<- Am,xy];refine pN ⟨λ⟨R,e,_,hc⟩=>?_,λhc=>⟨w,O,s,hc⟩⟩;rw[uR e];exact hc
    rw[eq]at q;refine eg (λr S=>S=T1++[Ob.lst (nmD [0])]/\r=[Z (dW w),y1,y2,y3,t,Z (.ref T1.length),Z (.int ((0:Nat):Int))]) ?_ ?_
    ·walk_at"w";exact⟨O,O⟩
    rintro r S ⟨rfl,rfl⟩;refine eg (λr S=>∃ao G y1 y2 y3 t,MI w ao ao.length/\S=T1++Ob.lst (nmD ao)::G /\ ∃k:Nat,r=[Z (dW w),y1,y2,y3,t,Z (.ref T1.length),Z (.int (k:Nat))]) ?_ ?_
    ·refine xt (λk r S=>∃ao G,k<=ao.length/\MI w ao k/\S=T1++Ob.lst (nmD ao)::G/\r=[Z (dW w),y1,y2,y3,t,Z (.ref T1.length),Z (.int (k:Nat))]) 8 ?_ 100000 0 _ _ (by lia) ⟨[0],[],by simp,MI.start s,O,O⟩;rintro k r S ⟨ao,G,hk,h,rfl,rfl⟩;have l:(T1++Ob.lst (nmD ao)::G)[T1.length]?=Z (.lst (nmD ao)):=by rw[db];rfl
     have X:=h.few;have aq:=s.few;unfold jd;walk_at"w";refine eI l ?_;walk_at"w";rw[eQ];by_cases N:k<ao.length
     ·rw[ak (ah (by lia))];refine⟨by lia,?_⟩;obtain⟨u,C⟩:∃u,ao[k]?=some u:=⟨_,gG1 N⟩;obtain⟨row,P⟩:∃row,w[u]?=some row:=⟨_,gG1 (h.lt u (gM1 C))⟩;refine Io s h C P λU=>⟨O,_,U,?_,h.step s C P,O,O⟩;rw[lA1];lia
     ·rw[aj (by rw[al];lia)];have:k=ao.length:=by lia
      subst this
      first|exact⟨ao,G,_,_,_,_,h,rfl,_,rfl⟩|exact⟨rfl,ao,G,_,_,_,_,h,rfl,_,rfl⟩
    ·rintro r S ⟨ao,G,z1,z2,z3,z4,h,rfl,k,rfl⟩;have l:(T1++Ob.lst (nmD ao)::G)[T1.length]?=Z (.lst (nmD ao)):=by rw[db];rfl
     walk_at"w";refine eI l ?_
     ((try walk_at"w");repeat(simp only[zt];try walk_at"w"))
     rw[eQ];have V:(((ao.length:Nat):Int) == ((w.length:Nat):Int))=tf (Con w):=nk (by
      rw[beq_iff_eq,<- h.end (nR1 _)];lia)
     rw[V];obtain⟨wq,E⟩:=H;exact⟨⟨wq++Ob.lst (nmD ao)::G,by rw[E,aW]⟩,O,q⟩
   ·have:iU (.tup (v.map D.tup))=false:=g9 fun ⟨w0,e,g⟩=>by
     obtain⟨R,rfl,ar,_⟩:=g;rw[Am,DW]at e;injection e with e;have:v=R.map xh:=re e;exact am (this ▸ A0 ar)
    rw[this]at q;exact q
 |_=>cases c
theorem fu{k:Nat}{xs:List D}(h:bd k (.tup xs)=M):xs.length<=k /\ ∀x∈xs,bd k x=M:=by
 rw[bd,og,bA1,al,bA]at h;exact h
def toN:D->Nat
 | .int i=>i.toNat
 |_=>0
def eV(m:Nat)(d:D):Bool:=match d with
 | .tup xs=>xs.all (ge m)&&pj (xs.map toN)
 |_=>J
theorem t0{m:Nat}:∀{xs:List D},xs.all (ge m)=M->xs=nmD (xs.map toN)
 |[],_=>rfl
 |x::xs,h=>by
  rw[bK,bA1]at h;have ih:=t0 h.2;cases x with
  |int i=>
   have h1:=h.1;unfold ge at h1;rw[bA1,al]at h1;show _::_=D.int ((i.toNat:Nat):Int)::nmD (xs.map toN);rw[<- ih,Int.toNat_of_nonneg h1.1]
  |_=>cases h.1
theorem vh{d:D}{m:Nat}(h:kE d=J):eV m d=J:=by
 cases d with
 |tup xs=>cases h
 |_=>rfl
theorem AI{n:Nat}{S:Sto}{xs:List D}{f:D->Bool}{Q:D×Sto->Prop}(h:S[n]?=Z (.lst (xs.map λx=>.bl (f x))))(q:Q (.bl (xs.all f),S)):W (gn (.ref n) S) Q:=by
 refine W.of ?_ q;unfold gn;rw[fT h,oS1];dsimp only;rw[iT];rfl
def IW(m:Nat)(d:D):Bool:=match d with
 | .tup xs=>xs.all (ge m)
 |_=>J
theorem Ep{m:Nat}{d:D}{e:FE}{a:Option D}{T:Sto}(hv:vd T d=true)(i:∀ xs,d = .tup xs->xs.length<=1000)(he:∀ xs,d = .tup xs -> ∀ x∈xs,W (e [some x,a] T) fun p=>p=(.bl (ge m x),T)):
  W (iN (eu (mTr (d8 .tuple (mV 1)))) (eu (mTr (mN (b1 gn) (cX (d6 1 [0] (gb (mV 1)) (gN 0) eH (dV e)) cY)))) [a,Z d] T) λp=>(∃G,p.2=T++G)/\p.1 = !(kE d&&IW m d):=by
 have h1:=fc hv;cases ht:kE d with
 |false=>
  ((try walk_at"w");repeat(simp only[d3,h1,ht];try walk_at"w"))
  exact⟨⟨[],(aK T).symm⟩,O⟩
 |true=>
  obtain⟨xs,rfl⟩:=ff ht
  ((try walk_at"w");repeat(simp only[d3,h1,ht];try walk_at"w"))
  rw[ft];have:=nN (c:=[]) (S:=T) (f:=λd:D=>d) (g:=gN 0) (t:=eH) (e:=e) (Q:=λp=>p.1=(xs.map λd=>D.bl (ge m d))/\p.2.2=T) (λd=>.bl (ge m d)) (λr=>∃x,r=[x,a]) O xs [Y,a] ⟨_,O⟩ (by
   rintro x h r ⟨y,rfl⟩;walk_at"w";refine(he xs O x h).mono ?_;rintro p rfl;exact⟨O,O,_,O⟩) (λb _=>⟨O,O⟩)
  rw[cG]at this;refine W.mono this ?_;rintro⟨ys,b,j⟩ ⟨rfl,h2⟩;dsimp only at h2 ⊢;subst h2;refine⟨dg (by rw[lM1];have:=i xs O;lia),?_⟩;refine AI (xs:=xs) (by rw[db];rfl) ?_;walk_at"w";exact⟨⟨_,O⟩,O⟩
theorem Bc{m:Nat}{d:D}{e:FE}{a:Option D}{T:Sto}(hv:vd T d=true)(i:∀ xs,d = .tup xs->xs.length<=1000)(he:∀ xs,d = .tup xs -> ∀ x∈xs,W (e [some x,a] T) fun p=>p=(.bl (ge m x),T)):
  W (iN (eu (mTr (d8 .tuple (mV 0)))) (eu (mTr (mN (b1 gn) (cX (d6 1 [1] (gb (mV 0)) (gN 0) eH (dV e)) cY)))) [Z d,a] T) λp=>(∃G,p.2=T++G)/\p.1 = !(kE d&&IW m d):=by
 have h1:=fc hv;cases ht:kE d with
 |false=>
  ((try walk_at"w");repeat(simp only[d3,h1,ht];try walk_at"w"))
  exact⟨⟨[],(aK T).symm⟩,O⟩
 |true=>
  obtain⟨xs,rfl⟩:=ff ht
  ((try walk_at"w");repeat(simp only[d3,h1,ht];try walk_at"w"))
  rw[ft];have:=nN (c:=[]) (S:=T) (f:=λd:D=>d) (g:=gN 0) (t:=eH) (e:=e) (Q:=λp=>p.1=(xs.map λd=>D.bl (ge m d))/\p.2.2=T) (λd=>.bl (ge m d)) (λr=>∃x,r=[x,a]) O xs [Y,a] ⟨_,O⟩ (by
   rintro x h r ⟨y,rfl⟩;walk_at"w";refine(he xs O x h).mono ?_;rintro p rfl;exact⟨O,O,_,O⟩) (λb _=>⟨O,O⟩)
  rw[cG]at this;refine W.mono this ?_;rintro⟨ys,b,j⟩ ⟨rfl,h2⟩;dsimp only at h2 ⊢;subst h2;refine⟨dg (by rw[lM1];have:=i xs O;lia),?_⟩;refine AI (xs:=xs) (by rw[db];rfl) ?_;walk_at"w";exact⟨⟨_,O⟩,O⟩
theorem DL{c:FT}{k:FS}{r:Ev}{T:Sto}{b:Bool}{Q:Fl×Ev×Sto->Prop}(hc:W (c r T) λp=>(∃G,p.2=T++G)/\p.1 = !b)(f:b=J -> ∀G,Q (.rt (.bl J),r,T++G))(h1:b=M -> ∀G,W (k r (T++G)) Q):W (di (eh c (dB (mC (D.bl J))) hI) k r T) Q:=by
 obtain⟨⟨g,h⟩,e,⟨G,d⟩,a⟩:=hc;dsimp only at d a;subst d;subst a;unfold di eh;rw[e,oS1];cases b with
 |false=>exact dm.mpr (f O G)
 |true=>exact h1 O G
theorem ou{m:Nat}{ws:List D}{d:D}{S:Sto}{Q:D×Sto->Prop}(hw:ws.length=m)(s:d5 S)(l:vd S (.tup ws)=M)(hv:vd S d=M)(o:∀xs,d = .tup xs->xs.length<=1000)(q:Q (.bl (eV m d),S)):W (c9 2 fX [.tup ws,d] S) Q:=by
 refine fG O s (by rw[fm,l,fm,hv,fm];rfl) λT u e=>?_;have a:vd T d=M:=dq e (by simp);unfold fX;refine io ?_;unfold my;refine DL (Ep (m:=m) a o λxs k x g=>?_) (λb G=>?_) (λb G=>?_)
 ·walk_at"w";rw[hw];refine ln u (dq (by rw[k,vd]at a;exact a) g) ?_;rfl
 ·refine ⟨⟨G,rfl⟩,rfl,?_⟩;have:eV m d=false:=by
   cases ht:kE d with
   |false=>exact vh ht
   |true=>
    obtain⟨xs,rfl⟩:=ff ht;rw[ht,cE]at b;show(xs.all (ge m)&&pj (xs.map toN))=J;rw[show xs.all (ge m)=J from b];rfl
  rw[this]at q;exact q
 ·rw [bA1] at b;obtain ⟨xs,rfl⟩:=ff b.1;have h:xs.all (ge m)=true:=b.2;have v:=t0 h;have n:∀ r∈xs.map toN,r<m:=fun r p=>by
   obtain⟨x,k,rfl⟩:=bZ.mp p;have:=bA.mp h x k;cases x with
   |int i=>rw[ge,bA1,al,al]at this;show i.toNat<m;lia
   |_=>cases this
  have c:=o xs O;have t:eV m (.tup xs)=pj (xs.map toN):=by
   show(xs.all (ge m)&&pj (xs.map toN))=_;rw[h,cE]
  rw[t]at q;generalize xs.map toN=rs at *
  subst v;rw[eQ]at c;walk_at"w";refine tO (f:=λi:Nat=>D.int (i:Nat)) (m:=m) (λ_=>rfl) n (λi j _ _=>?_) c ?_
  ·show Z (D.bl (decide ((i:Int)<(j:Int))),_)=_;rw[show decide ((i:Int)<(j:Int))=decide (i<j) by rw[bL,al,al];lia]
  exact⟨⟨G,O⟩,O,q⟩
theorem vP{S:Sto}{n:Nat}:∀xs ys:List Nat,wR (hB S (n+1)) (nmD xs) (nmD ys)=Z (xs == ys)
 |[],[]=>rfl
 |[],_::_=>rfl
 |_::_,[]=>rfl
 |x::xs,y::ys=>by
  have e:hB S (n+1) (.int x) (.int y)=Z ((x:Int) == (y:Int)):=rfl;have a:((x:Int) == (y:Int))=(x == y):=by rw[bL,beq_iff_eq,beq_iff_eq];lia
  have ih:=vP (S:=S) (n:=n) xs ys;show(hB S (n+1) (.int x) (.int y)).bind (λb=>(wR (hB S (n+1)) (nmD xs) (nmD ys)).map λc=>b&&c)=_;rw[e,oS1,ih,a,List.cons_beq_cons];rfl
theorem zZ{S:Sto}{i j:Nat}{xs ys:List Nat}(h1:S[i]?=Z (.lst (nmD xs)))(h2:S[j]?=Z (.lst (nmD ys))):gEq (.ref i) (.ref j) S=Z (.bl (xs == ys),S):=by
 unfold gEq dQ;rw[show(60:Nat)=58+1+1 from rfl,hB];simp only[dj,h1,h2,vP];by_cases a:(nmD xs).length=(nmD ys).length
 ·simp[a]
 ·have:(xs == ys)=J:=beq_eq_false_iff_ne.mpr λz=>a (by rw[z]);simp[a,this]
theorem pa{m:Nat}{d:D}{S:Sto}{Q:D×Sto->Prop}(l:d5 S)(hv:vd S d=M)(j:∀xs,d = .tup xs->xs.length<60)(q:Q (.bl (eV m d),S)):W (c9 2 fj [d,.int m] S) Q:=by
 refine fG O l (by rw[fm,hv,fm,fm,vd];rfl) λT p c=>?_;have a:vd T d=M:=dq c (by simp);unfold fj;refine io ?_;unfold kn;refine DL (Bc (m:=m) a (λxs g=>by have:=j xs g;lia) λxs g x e=>?_) (λb G=>?_) (λb G=>?_)
 ·have f:vd T x=M:=dq (by rw[g,vd]at a;exact a) e;walk_at"w";refine hL p f ?_;rw[<- m9]
 ·refine ⟨⟨G,rfl⟩,rfl,?_⟩;have:eV m d=false:=by
   cases ht:kE d with
   |false=>exact vh ht
   |true=>
    obtain⟨xs,rfl⟩:=ff ht;rw[ht,cE]at b;show(xs.all (ge m)&&pj (xs.map toN))=J;rw[show xs.all (ge m)=J from b];rfl
  rw[this]at q;exact q
 ·rw [bA1] at b;obtain ⟨xs,rfl⟩:=ff b.1;have i:xs.all (ge m)=true:=b.2;have r:=t0 i;have h:=j xs rfl;have o:eV m (.tup xs)=pj (xs.map toN):=by
   show(xs.all (ge m)&&pj (xs.map toN))=_;rw[i,cE]
  rw[o]at q;generalize xs.map toN=rs at *
  subst r;rw[eQ]at h;have n:∀S:Sto,jr (.tup (nmD rs)) S=Z (.ref S.length,S++[.lst (nmD rs)]):=λS=>rfl;have k:∀S:Sto,iQ (.tup (nmD rs)) S=Z (.ref S.length,S++[.lst (nmD (EG rs))]):=λS=>by
   unfold iQ;rw[mT];dsimp only;rw[vC,oS1,ak (by rw[lM1];lia),EF]
  rw[<- CH]at q
  ((try walk_at"w");repeat(simp only[n,k];try walk_at"w"))
  refine W.of (zZ (xs:=rs) (ys:=EG rs) ?_ ?_) ?_
  ·rw[gR1 (by lia),Nat.add_sub_cancel_left,gR1 (nR1 _),Nat.sub_self];rfl
  ·rw[gR1 (by lia),show T.length+(G.length+1)-T.length=G.length+1 by lia,il];rfl
  walk_at"w";exact⟨⟨_,O⟩,O,q⟩
def ix(m:Nat)(d:D):Bool:=match d with
 | .tup [a,b]=>eV m a&&(eV m b&&(match a with | .tup []=>false|_=>true))
 |_=>J
theorem jv{d:D}(h:j3 d=M):∃a b,d = .tup [a,b]:=by
 cases d with
 |tup xs=>
  match xs,h with
  |[a,b],_=>exact⟨a,b,O⟩
  |[],h=>simp[j3]at h
  |[_],h=>simp[j3]at h
  |_::_::_::_,h=>simp[j3]at h
 |_=>cases h
theorem uS{d:D}{m:Nat}(h:j3 d=J):ix m d=J:=by
 unfold ix;split
 ·simp[j3]at h
 ·rfl
theorem ye{m:Nat}{a:D}(h:eV m a=M):∃xs,a = .tup xs:=by
 cases a with
 |tup xs=>exact⟨xs,O⟩
 |_=>cases h
theorem tN{m:Nat}{ws:List D}{d:D}{S:Sto}{Q:D×Sto->Prop}(hw:ws.length=m)(r:d5 S)(i:vd S (.tup ws)=M)(hv:vd S d=M)(hs:bd 50 d=M)(q:Q (.bl (ix m d),S)):W (c9 2 fL [.tup ws,d] S) Q:=by
 refine fG O r (by rw[fm,i,fm,hv,fm];rfl) λT h g=>?_;have c:vd T d=M:=dq g (by simp);have f:vd T (.tup ws)=M:=dq g (by simp);have nil:∃G,T=T++G:=⟨[],(aK T).symm⟩;unfold fL;refine io ?_;unfold kk;walk_at"w";refine xI h c ?_;walk_at"w";cases ht:j3 d with
 |false=>
  rw[uS ht]at q;walk_at"w";exact⟨nil,O,q⟩
 |true=>
  obtain⟨a,b,rfl⟩:=jv ht;have o:vd T a=M:=dq (by rw[vd]at c;exact c) (by simp);have n:vd T b=M:=dq (by rw[vd]at c;exact c) (by simp);have k:de (.tup [a,b]) (.int 0) T=Z (a,T):=rfl;have j:de (.tup [a,b]) (.int 1) T=Z (b,T):=rfl;have p:∀ys,a = .tup ys->ys.length<=1000:=λys e=>by have:=(fu (e ▸ (fu hs).2 a (by simp))).1;lia
  have l:∀ys,b = .tup ys->ys.length<=1000:=λys e=>by have:=(fu (e ▸ (fu hs).2 b (by simp))).1;lia
  ((try walk_at"w");repeat(simp only[k,j];try walk_at"w"))
  refine ou hw h f o p ?_;walk_at"w";unfold ix at q;dsimp only at q;cases hra:eV m a with
  |false=>
   rw[hra]at q;walk_at"w";exact⟨nil,O,q⟩
  |true=>
   rw[hra,cE]at q
   ((try walk_at"w");repeat(simp only[j];try walk_at"w"))
   refine ou hw h f n l ?_;walk_at"w";cases hrb:eV m b with
   |false=>
    rw[hrb]at q;walk_at"w";exact⟨nil,O,q⟩
   |true=>
    rw[hrb,cE]at q;obtain⟨xs,rfl⟩:=ye hra
    ((try walk_at"w");repeat(simp only[k];try walk_at"w"))
    refine⟨nil,O,?_⟩;cases xs with
    |nil=>exact q
    |cons x xs=>
     have e:decide ((0:Int)<(((x::xs).length:Nat):Int))=M:=ah (by rw[lC1];lia)
     first|exact q|(rw[e];exact q)
def lnD:D->Nat
 | .tup ws=>ws.length
 |_=>0
def j1(d:D):Bool:=match d with
 | .tup [a,b]=>iU a&&ix (lnD a) b
 |_=>J
theorem xw{a:D}(h:iU a=M):∃ws,a = .tup ws:=by
 obtain⟨w,rfl,_⟩:=iW.mp h;exact⟨_,O⟩
theorem vL{d:D}(h:j3 d=J):j1 d=J:=by
 unfold j1;split
 ·simp[j3]at h
 ·rfl
theorem CS{d:D}{S:Sto}{Q:D×Sto->Prop}(l:d5 S)(hv:vd S d=M)(hb:bd 50 d=M)(q:Q (.bl (j1 d),S)):W (c9 1 hV [d] S) Q:=by
 refine fG O l (q9 hv) λT g f=>?_;have c:=vd1' f;have nil:∃G,T=T++G:=⟨[],(aK T).symm⟩;unfold hV;refine io ?_;unfold oj;walk_at"w";refine xI g c ?_;walk_at"w";cases ht:j3 d with
 |false=>
  rw[vL ht]at q;walk_at"w";exact⟨nil,O,q⟩
 |true=>
  obtain⟨a,b,rfl⟩:=jv ht;have j:vd T a=M:=dq (by rw[vd]at c;exact c) (by simp);have h:vd T b=M:=dq (by rw[vd]at c;exact c) (by simp);have i:∀S,de (.tup [a,b]) (.int 0) S=Z (a,S):=λ_=>rfl;have k:∀S,de (.tup [a,b]) (.int 1) S=Z (b,S):=λ_=>rfl
  ((try walk_at"w");repeat(simp only[i];try walk_at"w"))
  refine CB g j ?_;walk_at"w";have e:Q (.bl (iU a&&ix (lnD a) b),S):=q;cases hw:iU a with
  |false=>
   rw[hw]at e;walk_at"w";exact⟨nil,O,e⟩
  |true=>
   rw[hw,cE]at e;obtain⟨ws,rfl⟩:=xw hw
   ((try walk_at"w");repeat(simp only[i,k];try walk_at"w"))
   refine tN O g j h ((fu hb).2 b (by simp)) ?_;exact⟨nil,O,e⟩
theorem EN{m:Nat}{x:D}(h:qt x []=M):x = .tup []:=by
 cases x with
 |tup xs=>cases xs with
  |nil=>rfl
  |cons _ _=>cases h
 |_=>cases h
theorem zT:∀e∈([]:List D),em e=M:=λe a=>by cases a
theorem xZ{m:Nat}{x y:D}(h:(!qt x [])=M):ix m (.tup [x,y])=(eV m x&&eV m y):=by
 cases x with
 |tup xs=>cases xs with
  |nil=>cases h
  |cons a l=>show(eV m _&&(eV m y&&M))=_;rw[bH]
 |_=>rfl
theorem ue{d:D}{S:Sto}{Q:D×Sto->Prop}(w:d5 S)(hv:vd S d=M)(hb:bd 50 d=M)(q:Q (.bl (j1 d),S)):W (c9 1 eS [d] S) Q:=by
 refine fG O w (q9 hv) λT o l=>?_;have f:=vd1' l;have h1:=fc f;have nil:∃G,T=T++G:=⟨[],(aK T).symm⟩;unfold eS;refine io ?_;unfold jn;refine ifs2 (b:=j3 d&&iU (Jg d)) ?_ (λhc=>?_) (λhc=>?_)
 ·cases ht:kE d with
  |false=>
   ((try walk_at"w");repeat(simp only[d3,h1,ht];try walk_at"w"))
   have:j3 d=J:=by cases d with
    |tup ys=>cases ht
    |_=>rfl
   rw[this];rfl
  |true=>
   obtain⟨ys,rfl⟩:=ff ht;cases h2:decide (ys.length=2)with
   |false=>
    have:j3 (.tup ys)=J:=h2
    ((try walk_at"w");repeat(simp only[d3,h1,ht];try walk_at"w"))
    rw[this,ak (by rw[J9,h2];rfl)];rfl
   |true=>
    obtain⟨a,b,e⟩:=jv (d:=.tup ys) h2;cases e;have i:∀S,de (.tup [a,b]) (.int 0) S=Z (a,S):=λS=>rfl;rw[vd]at f
    ((try walk_at"w");repeat(simp only[d3,h1,ht,i];try walk_at"w"))
    rw[aj (by decide)];refine zu o (dq f (by simp)) ?_;walk_at"w";rw[show j3 (.tup [a,b])=M from rfl,cE];rfl
 ·have:j1 d=false:=by
   cases ht:j3 d with
   |false=>exact vL ht
   |true=>
    obtain⟨a,b,rfl⟩:=jv ht;rw[ht,cE]at hc;show(iU a&&_)=J;rw[show iU a=J from hc];rfl
  rw[this]at q;exact⟨nil,O,q⟩
 ·rw [bA1] at hc;obtain ⟨a,b,rfl⟩:=jv hc.1;have h:iU a=true:=hc.2;obtain ⟨ws,rfl⟩:=xw h;have g:=(fu hb).2 b (by simp);have c:vd T b=true:=dq (by rw [vd] at f;exact f) (by simp);have k:Q (.bl (ix ws.length b),S):=by
   have:j1 (.tup [.tup ws,b])=ix ws.length b:=by show(iU (.tup ws)&&_)=_;rw[h];rfl
   rw[this]at q;exact q
  refine eg (λr V=>V=T/\r=[Z (.tup [.tup ws,b]),Z (.tup ws),Z b]) ?_ ?_
  ·walk_at"w"
  rintro r V ⟨rfl,rfl⟩;have p:=fc c;refine ifs2 (b:=j3 b && !qt (Jg b) []) ?_ (λhc=>?_) (λhc=>?_)
  ·cases ht:kE b with
   |false=>
    ((try walk_at"w");repeat(simp only[d3,p,ht];try walk_at"w"))
    have:j3 b=J:=by cases b with
     |tup ys=>cases ht
     |_=>rfl
    rw[this];rfl
   |true=>
    obtain⟨ys,rfl⟩:=ff ht;cases h2:decide (ys.length=2)with
    |false=>
     have:j3 (.tup ys)=J:=h2
     ((try walk_at"w");repeat(simp only[d3,p,ht];try walk_at"w"))
     rw[this,ak (by rw[J9,h2];rfl)];rfl
    |true=>
     obtain⟨x,y,e⟩:=jv (d:=.tup ys) h2;cases e;have i:∀S,de (.tup [x,y]) (.int 0) S=Z (x,S):=λS=>rfl;rw[vd]at c;have n:=m4 (S:=V) zT (dq c (show x∈[x,y] by simp))
     ((try walk_at"w");repeat(simp only[d3,p,ht,i];try walk_at"w"))
     rw[aj (by decide)];refine W.of n ?_;refine W.of O ?_;rw[show j3 (.tup [x,y])=M from rfl,cE,Bool.not_not];rfl
  ·have:ix ws.length b=false:=by
    cases ht:j3 b with
    |false=>exact uS ht
    |true=>
     obtain⟨x,y,rfl⟩:=jv ht;rw[ht,cE,Bool.not_eq_false']at hc;have:=EN (m:=0) (show qt x []=M from hc);subst this;show(eV ws.length (.tup [])&&(eV ws.length y&&J))=J;rw[aZ,aZ]
   rw[this]at k;exact⟨nil,O,k⟩
  ·rw [bA1] at hc;obtain ⟨x,y,rfl⟩:=jv hc.1;have u:vd V x=true:=dq (by rw [vd] at c;exact c) (by simp);have v:vd V y=true:=dq (by rw [vd] at c;exact c) (by simp);have i:∀ S,de (.tup [x,y]) (.int 0) S=some (x,S):=fun S=>rfl;have t:∀ S,de (.tup [x,y]) (.int 1) S=some (y,S):=fun S=>rfl;have j:Q (.bl (eV ws.length x&&eV ws.length y),S):=by
    rw[xZ (show(!qt x [])=M from hc.2)]at k;exact k
   have z:∀xs,x = .tup xs->xs.length<60:=λxs e=>by have:=(fu (e ▸ (fu g).2 x (by simp))).1;lia
   have s:∀xs,y = .tup xs->xs.length<60:=λxs e=>by have:=(fu (e ▸ (fu g).2 y (by simp))).1;lia
   ((try walk_at"w");repeat(simp only[i];try walk_at"w"))
   refine pa o u z ?_;walk_at"w";cases hrx:eV ws.length x with
   |false=>
    rw[hrx]at j;walk_at"w";exact⟨nil,O,j⟩
   |true=>
    rw[hrx,cE]at j
    ((try walk_at"w");repeat(simp only[t];try walk_at"w"))
    refine pa o v s ?_;exact⟨nil,O,j⟩
def lj(d:D):Bool:=match d with
 | .tup xs=>decide (1<=xs.length)&&decide (xs.length<=6)&&xs.all j1
 |_=>J
def CT(d:D):Bool:=match d with
 | .tup [f,e,h,s,a,b,c]=>lj f&&(kB wEy e&&(gx wHa h&&(gx wSt s&&(e6 1 3 a&&e6 0 8 b&&e6 0 40 c))))
 |_=>J
def AS(n:Nat):D->Bool
 | .tup xs=>decide (xs.length=n)
 |_=>J
theorem Ba{d:D}{n:Nat}{S:Sto}{Q:D×Sto->Prop}(b:d5 S)(hv:vd S d=M)(q:Q (.bl (AS n d),S)):W (c9 2 dJ [d,.int (n:Nat)] S) Q:=by
 refine fG O b (by rw[fm,hv,fm,fm,vd];rfl) λT _ a=>?_;have h1:=fc (vd1' a);unfold dJ;refine io ?_;unfold iz
 ((try walk_at"w");repeat(simp only[d8,h1];try walk_at"w"))
 cases d with
 |tup xs=>
  ((try walk_at"w");repeat(simp only[kE];try walk_at"w"))
  refine⟨⟨[],(aK T).symm⟩,O,?_⟩;have e:(((xs.length:Nat):Int) == (n:Int))=AS n (.tup xs):=by rw[AS,bL,beq_iff_eq,al];lia
  rw[e];exact q
 |_=>exact⟨⟨[],(aK T).symm⟩,O,q⟩
theorem Dx{d:D}(h:AS 7 d=M):∃f e h s a b c,d = .tup [f,e,h,s,a,b,c]:=by
 cases d with
 |tup xs=>
  have g:xs.length=7:=of_decide_eq_true h
  match xs,g with
  |[f,e,h,s,a,b,c],_=>exact⟨f,e,h,s,a,b,c,O⟩
 |_=>cases h
theorem vN{d:D}(h:AS 7 d=J):CT d=J:=by
 unfold CT;split
 ·simp[AS]at h
 ·rfl
theorem CP{d:D}(h:kE d=J):lj d=J:=by
 cases d with
 |tup xs=>cases h
 |_=>rfl
theorem vK{xs:List D}(h:¬ (1<=xs.length/\xs.length<=6)):lj (.tup xs)=J:=by
 show(decide (1<=xs.length)&&decide (xs.length<=6)&&xs.all j1)=J;by_cases z:1<=xs.length
 ·rw[ai (p:=xs.length<=6) (by lia),aZ];rfl
 ·rw[ai z];rfl
theorem zU{d:D}{S:Sto}{Q:D×Sto->Prop}(f:d5 S)(hv:vd S d=M)(hb:bd 50 d=M)(q:Q (.bl (lj d),S)):W (c9 1 gj [d] S) Q:=by
 refine fG O f (q9 hv) λT g a=>?_;have c:=vd1' a;have h1:=fc c;have nil:∃G,T=T++G:=⟨[],(aK T).symm⟩;unfold gj;refine io ?_;unfold lr;refine ifs2 (b:=match d with | .tup xs=>decide (1<=xs.length)&&decide (xs.length<=6)|_=>false) ?_ (λhc=>?_) (λhc=>?_)
 ·cases ht:kE d with
  |false=>
   ((try walk_at"w");repeat(simp only[d3,h1,ht];try walk_at"w"))
   cases d with
   |tup xs=>cases ht
   |_=>rfl
  |true=>
   obtain⟨xs,rfl⟩:=ff ht
   ((try walk_at"w");repeat(simp only[d3,h1,ht,ml,gF];try walk_at"w"))
   cases hc:decide ((1:Int)<=(xs.length:Int))with
   |false=>
    walk_at"w";rw[show decide (1<=xs.length)=J by rw[decide_eq_false_iff_not]at hc ⊢;lia];rfl
   |true=>
    walk_at"w";rw[show decide (1<=xs.length)=M by rw[al]at hc ⊢;lia,show decide ((xs.length:Int)<=6)=decide (xs.length<=6) by rw[bL,al,al];lia];rfl
 ·have:lj d=false:=by
   cases d with
   |tup xs=>
    refine vK λz=>?_;dsimp only at hc;rw[ah z.1,ah z.2]at hc;cases hc
   |_=>rfl
  rw[this]at q;exact⟨nil,O,q⟩
 cases d with
 |tup xs=>
  dsimp only at hc;have h:lj (.tup xs)=xs.all j1:=by show(_&&_&&xs.all j1)=_;rw[hc];rfl
  rw[h]at q;have i:=(fu hb).1;rw[vd]at c;walk_at"w";refine ft.mpr ?_;refine oH (λx=>.bl (j1 x)) (λr=>∃x,r=[x]) O xs _ ⟨_,O⟩ ?_ ?_
  ·rintro x e r ⟨y,rfl⟩;walk_at"w";refine CS g (dq c e) ((fu hb).2 x e) ?_
   first|exact⟨rfl,rfl,_,rfl⟩|exact⟨rfl,_,rfl⟩
  ·rintro j _;refine⟨dg (by rw[lM1];lia),?_⟩
   ((try walk_at"w");repeat(simp only[lV (F:=j1)];try walk_at"w"))
   exact⟨⟨_,O⟩,O,q⟩
 |_=>cases hc
theorem wQ{d:D}{S:Sto}{Q:D×Sto->Prop}(z:d5 S)(hv:vd S d=M)(hb:bd 50 d=M)(q:Q (.bl (CT d),S)):W (c9 1 gL [d] S) Q:=by
 refine fG O z (q9 hv) λT i l=>?_;have g:=vd1' l;have nil:∃G,T=T++G:=⟨[],(aK T).symm⟩;unfold gL;refine io ?_;unfold mw;refine ifs2 (b:=AS 7 d) ?_ (λhc=>?_) (λhc=>?_)
 ·walk_at"w";refine Ba (n:=7) i g ?_;walk_at"w"
 ·rw[vN hc]at q;exact⟨nil,O,q⟩
 obtain⟨f,e,h,s,a,b,c,rfl⟩:=Dx hc;have j:=(fu hb).2;rw[vd]at g;have v:vd T f=M:=dq g (by simp);have p:vd T e=M:=dq g (by simp);have t:vd T h=M:=dq g (by simp);have vs:vd T s=M:=dq g (by simp);have o:vd T a=M:=dq g (by simp);have u:vd T b=M:=dq g (by simp);have y:vd T c=M:=dq g (by simp);have m:∀x∈[f,e,h,s,a,b,c],∀xs,x = .tup xs->xs.length<=1000:=λx w xs ex=>by have:=(fu (ex ▸ j x w)).1;lia
 have k:Q (.bl (lj f&&(kB wEy e&&(gx wHa h&&(gx wSt s&&(e6 1 3 a&&e6 0 8 b&&e6 0 40 c))))),S):=q;refine eg (λr V=>V=T/\r=[Z (.tup [f,e,h,s,a,b,c]),Z f,Z e,Z h,Z s,Z a,Z b,Z c]) ?_ ?_
 ·walk_at"w"
 rintro r V ⟨rfl,rfl⟩;refine ifs2 (b:=lj f&&(kB wEy e&&(gx wHa h&&gx wSt s))) ?_ (λhc=>?_) (λhc=>?_)
 ·walk_at"w";refine zU i v (j f (by simp)) ?_;walk_at"w";cases h1:lj f with
  |false=>walk_at"w";rfl
  |true=>
   walk_at"w";refine GH i p (m e (by simp)) ?_;walk_at"w";cases h2:kB wEy e with
   |false=>walk_at"w";rfl
   |true=>
    walk_at"w";refine CK i t (m h (by simp)) ?_;walk_at"w";cases h3:gx wHa h with
    |false=>walk_at"w";rfl
    |true=>
     walk_at"w";refine Be i vs (m s (by simp)) ?_;walk_at"w";rfl
 ·have:(lj f&&(kB wEy e&&(gx wHa h&&(gx wSt s&&(e6 1 3 a&&e6 0 8 b&&e6 0 40 c)))))=false:=by
   revert hc
   cases lj f<;>cases kB wEy e<;>cases gx wHa h<;>cases gx wSt s<;>simp
  rw[this]at k;exact⟨nil,O,k⟩
 ·simp only[bA1]at hc;rw[hc.1,hc.2.1,hc.2.2.1,hc.2.2.2,cE,cE,cE,cE]at k;walk_at"w";refine Ay i o u y ?_;exact⟨nil,O,k⟩
theorem ifs3{c:FT}{k:FS}{r:Ev}{T:Sto}{b:Bool}{Q:Fl×Ev×Sto->Prop}(hc:W (c r T) λp=>∃G,p=(!b,T++G)/\d5 (T++G))(d:b=J -> ∀G,Q (.rt (.bl J),r,T++G))(h1:b=M -> ∀G,d5 (T++G)->W (k r (T++G)) Q):W (di (eh c (dB (mC (D.bl J))) hI) k r T) Q:=by
 obtain⟨_,e,G,rfl,a⟩:=hc;unfold di eh;rw[e,oS1];cases b with
 |false=>exact dm.mpr (d O G)
 |true=>exact h1 O G a
theorem B1{T:Sto}(h:d5 T){b:Bool}:∃G,((b,T):Bool×Sto)=(b,T++G)/\d5 (T++G):=⟨[],by rw[aK],by rw[aK];exact h⟩
theorem Ic{T:Sto}{xs:List D}{b:Bool}(h:d5 T)(hx:D.unds (T++[Ob.lst xs]).length xs=M):∃G,((b,T++[Ob.lst xs]):Bool×Sto)=(b,T++G)/\d5 (T++G):=⟨_,O,gI h λo a=>by rw[cD.mp a,Ob.und];exact hx⟩
section
variable{f e h s a b c d:D}{T:Sto}
abbrev rE(d f e h s a b c:D):Ev:=[Z d,Z f,Z e,Z h,Z s,Z a,Z b,Z c]
theorem Av(k:d5 T)(hv:vd T f=M)(hb:bd 50 f=M):W (iN (eu (mTr (d8 .tuple (mV 1)))) (iN (eu (mB (ml (b2 (fA λi j=>decide (i<=j))) (b2 (fA λi j=>decide (i<=j))) (mC (D.int 1)) (mN (b1 dX) (cX (mV 1) cY)) (mC (D.int 6))))) (eu (mTr (mN (b1 gn) (cX (d6 1 [] (gb (mV 1)) (gN 0) eH (dV (mN (c9 1 eS) (cX (mV 0) cY)))) cY))))) (rE d f e h s a b c) T) λp=>∃G,p=(!lj f,T++G)/\d5 (T++G):=by
 have h1:=fc hv;cases ht:kE f with
 |false=>
  ((try walk_at"w");repeat(simp only[d3,h1,ht];try walk_at"w"))
  rw[CP ht];exact B1 k
 |true=>
  obtain⟨xs,rfl⟩:=ff ht;have t:=(fu hb).1;have n:=hv;rw[vd]at n;by_cases m:1<=xs.length/\xs.length<=6
  ·have g:decide ((1:Int)<=(xs.length:Int))=M:=ah (by lia);have l:decide ((xs.length:Int)<=6)=M:=ah (by lia);have q:lj (.tup xs)=xs.all j1:=by show(_&&_&&xs.all j1)=_;rw[ah m.1,ah m.2];rfl
   rw[q]
   ((try walk_at"w");repeat(simp only[d3,h1,ht,ml,g];try walk_at"w"))
   ((try walk_at"w");repeat(simp only[l];try walk_at"w"))
   refine ft.mpr ?_;refine oH (λx=>.bl (j1 x)) (λr=>∃x,r=[x]) O xs _ ⟨_,O⟩ ?_ ?_
   ·rintro x o r ⟨y,rfl⟩;walk_at"w";refine ue k (dq n o) ((fu hb).2 x o) ?_
    first|exact⟨rfl,rfl,_,rfl⟩|exact⟨rfl,_,rfl⟩
   ·rintro u _;refine⟨dg (by rw[lM1];lia),?_⟩
    ((try walk_at"w");repeat(simp only[lV (F:=j1)];try walk_at"w"))
    exact Ic k (unds_map (λ_=>rfl) xs)
  ·rw[vK m];by_cases z:1<=xs.length
   ·have g:decide ((1:Int)<=(xs.length:Int))=M:=ah (by lia);have l:decide ((xs.length:Int)<=6)=J:=ai (by lia)
    ((try walk_at"w");repeat(simp only[d3,h1,ht,ml,g];try walk_at"w"))
    ((try walk_at"w");repeat(simp only[l];try walk_at"w"))
    exact B1 k
   ·have g:decide ((1:Int)<=(xs.length:Int))=J:=ai (by lia)
    ((try walk_at"w");repeat(simp only[d3,h1,ht,ml,g];try walk_at"w"))
    exact B1 k
theorem iw{G:Sto}(h:vd T d=M):vd (T++G) d=M:=by
 have:=g8 (G:=G) (q9 h);exact vd1' this
theorem GI:D.unds 0 wEy=M:=rfl
theorem Gz:D.unds 0 wHa=M:=rfl
theorem GU(i:d5 T)(hv:vd T e=M):W (eu (mTr (mN (c9 2 ej) (cX (mV 2) (cX (et (cX (mC (D.str "came")) (cX (mC (D.str "chalk")) (cX (mC (D.str "doors")) (cX (mC (D.str "others")) cY))))) cY)))) (rE d f e h s a b c) T) λp=>∃G,p=(!kB wEy e,T++G)/\d5 (T++G):=by
 have g:d5 (T++[Ob.lst wEy]):=gI i λo j=>by rw[cD.mp j,Ob.und];exact dH GI
 walk_at"w";refine uP (ws:=wEy) g (by rw[db];rfl) ur (by simp[wEy]) (iw hv) ?_;walk_at"w";exact⟨_,O,g⟩
theorem KL{xs:List D}:qt (.tup xs) []=xs.isEmpty:=by
 cases xs<;>rfl
theorem BQ{ws:List D}:(kB ws h && !qt h [])=gx ws h:=by
 cases h with
 |tup xs=>show(ord ws xs && !qt (.tup xs) [])=(!xs.isEmpty&&ord ws xs);rw[KL,Bool.and_comm]
 |_=>rfl
theorem Da(j:d5 T)(hv:vd T h=M)(hs:vd T s=M):W (iN (eu (mTr (mN (c9 2 ej) (cX (mV 3) (cX (et (cX (mC (D.str "leave")) (cX (mC (D.str "mark")) (cX (mC (D.str "wipe")) cY)))) cY))))) (iN (mB (m2 (b2 gEq) (mV 3) (dz cY))) (eu (mTr (d8 .tuple (mV 4))))) (rE d f e h s a b c) T) λp=>∃G,p=(!(gx wHa h&&kE s),T++G)/\d5 (T++G):=by
 have g:d5 (T++[Ob.lst wHa]):=gI j λo k=>by rw[cD.mp k,Ob.und];exact dH Gz
 have i:=m4 (S:=T++[Ob.lst wHa]) zT (iw (G:=[Ob.lst wHa]) hv);have h1:=fc (iw (G:=[Ob.lst wHa]) hs);rw[<- BQ];walk_at"w";refine uP (ws:=wHa) g (by rw[db];rfl) um (by simp[wHa]) (iw hv) ?_;walk_at"w";cases h2:kB wHa h with
 |false=>
  walk_at"w";exact⟨_,O,g⟩
 |true=>
  walk_at"w";refine W.of i ?_;walk_at"w";cases h3:qt h []with
  |true=>
   walk_at"w";exact⟨_,O,g⟩
  |false=>
   ((try walk_at"w");repeat(simp only[d3,h1];try walk_at"w"))
   exact⟨_,O,g⟩
end
theorem sM{α:Type}{F:α->Bool}:∀xs:List α,Mi.AE (xs.map λx=>D.bl (F x))=Z (xs.any F)
 |[]=>rfl
 |x::xs=>by rw[mP1,Mi.AE,sM xs];rfl
theorem G0{T:Sto}{xs:List D}{F:D->Bool}:zN (.ref T.length) (T++[.lst (xs.map λx=>D.bl (F x))])=Z (.bl (xs.any F),T++[.lst (xs.map λx=>D.bl (F x))]):=by
 unfold zN;rw[fT (n:=T.length) (xs:=xs.map λx=>D.bl (F x)) (by rw[db];rfl),oS1];dsimp only;rw[sM];rfl
theorem DC{e x:D}(he:e∈wSt)(hx:AU x=J):qf x e=M↔x=e:=by
 simp only[wSt,aD,cC,or_false]at he;rcases he with z|z|z|z|z<;>subst z<;>cases x with
 |bl b=>cases hx
 | int i=>first
   |exact⟨λh=>(by cases h),λh=>(by cases h)⟩
   | (refine ⟨fun h=>?_,fun h=>(by cases h;rfl)⟩
      have h':(i == _)=M:=h;rw[beq_iff_eq]at h';rw[h'])
 |non=>first|exact⟨λ_=>rfl,λ_=>rfl⟩|exact⟨λh=>(by cases h),λh=>(by cases h)⟩
 |_=>exact⟨λh=>(by cases h),λh=>(by cases h)⟩
theorem uY:∀e∈wSt,em e=M:=λe a=>by
 simp only[wSt,aD,cC,or_false]at a;rcases a with z|z|z|z|z<;>subst z<;>rfl
section
variable{f e h a b c d:D}{T:Sto}{xs:List D}
theorem c_any(j:d5 T)(hv:fm T xs=M)(n:xs.length<=1000):W (iN (mB (m2 (b2 gEq) (mV 4) (dz cY))) (mTr (mN (b1 zN) (cX (d6 1 [] (gb (mV 4)) (gN 0) eH (dV (d8 .bool (mV 0)))) cY))) (rE d f e h (.tup xs) a b c) T) λp=>∃G,p=(!(!xs.isEmpty && !xs.any AU),T++G)/\d5 (T++G):=by
 have g:=m4 (S:=T) (y:=.tup xs) zT (by rw[vd];exact hv);rw[KL]at g;walk_at"w";refine W.of g ?_;walk_at"w";cases h3:xs.isEmpty with
 |true=>
  walk_at"w";exact B1 j
 |false=>
  walk_at"w";refine ft.mpr ?_;refine oH (λx=>.bl (AU x)) (λr=>∃x,r=[x]) O xs _ ⟨_,O⟩ ?_ ?_
  ·rintro x k r ⟨y,rfl⟩;have i:=pM (dq hv k)
   ((try walk_at"w");repeat(simp only[d3,i];try walk_at"w"))
   all_goals first|exact⟨rfl,rfl,_,rfl⟩|exact⟨rfl,_,rfl⟩|exact⟨_,rfl⟩
  ·rintro m _;refine⟨dg (by rw[lM1];lia),?_⟩
   ((try walk_at"w");repeat(simp only[G0 (F:=AU)];try walk_at"w"))
   obtain⟨G,e,l⟩:=Ic (b:=M) j (xs:=xs.map λx=>D.bl (AU x)) (unds_map (λ_=>rfl) xs);injection e with _ e;exact⟨G,by rw[<- e,Bool.not_and,Bool.not_not];rfl,l⟩
theorem c_list(I:d5 T)(B:D.unds T.length xs=M)(hv:fm T xs=M)(L:xs.length<=1000)(u:∀x∈xs,AU x=J):W (mB (m2 (b2 gNe) (mN (b1 jr) (cX (mV 4) cY)) (d6 1 [4] (gb (et (cX (mC D.non) (cX (mC (D.int 0)) (cX (mC (D.int 1)) (cX (mC (D.int 2)) (cX (mC (D.int 3)) cY))))))) (gN 0) (mB (m2 (b2 lP) (mV 0) (mV 1))) (dV (mV 0)))) (rE d f e h (.tup xs) a b c) T) λp=>∃G,p=(!ord wSt xs,T++G)/\d5 (T++G):=by
 have E:jr (.tup xs) T=Z (.ref T.length,T++[.lst xs]):=rfl
 ((try walk_at"w");repeat(simp only[E];try walk_at"w"))
 generalize i:T++[Ob.lst xs,Ob.lst [D.non,D.int 0,D.int 1,D.int 2,D.int 3]]=T2;have v:T2[T.length+1]?=Z (.lst wSt):=by rw[<- i,il];rfl
 have n:T2[T.length]?=Z (.lst xs):=by rw[<- i,db];rfl
 have l:fm T2 xs=M:=by rw[<- i];exact g8 hv
 refine eI v ?_;have:=i5 (c:=[(T.length+1,wSt)]) (S:=T2) (f:=λd:D=>d) (g:=gN 0) (t:=mB (m2 (b2 lP) (mV 0) (mV 1))) (e:=mV 0) (Q:=λp=>p.1=wSt.filter (λw=>xs.any (fq w))/\p.2.2=T2) (λw=>xs.any (fq w)) (λw=>w) (λr=>∃x,r=[x,Z (.tup xs)]) (hA v) wSt [Y,Z (.tup xs)] ⟨_,O⟩ (by
  rintro w j r ⟨y,rfl⟩
  ((try walk_at"w");repeat(simp only[ui (e:=w) (xs:=xs) (S:=T2) (uY w j) l];try walk_at"w"))
  exact⟨⟨_,O⟩,λ_=>trivial⟩) (λH _=>⟨by rw[cG],O⟩)
 rw[cG]at this;refine W.mono this ?_;rintro⟨ys,H,k⟩ ⟨rfl,h2⟩;dsimp only at h2 ⊢;subst h2;have am:wSt.filter (λw=>xs.any (fq w))=wSt.filter λw=>tf (w∈xs):=List.filter_congr λw j=>AD λx m=>DC j (u x m);rw[am];have q:∀e∈wSt.filter (λw=>tf (w∈xs)),em e=M:=λe s=>uY e (az.mp s).1;refine⟨dg (by have:=cw (λw=>tf (w∈xs)) wSt;simp[wSt]at this ⊢;lia),?_⟩;have K:(k++[Ob.lst (wSt.filter λw=>tf (w∈xs))])[T.length]?=Z (.lst xs):=by rw[gL1 (gE1.mp n).1];exact n
 have C:(k++[Ob.lst (wSt.filter λw=>tf (w∈xs))])[k.length]?=Z (.lst (wSt.filter λw=>tf (w∈xs))):=by rw[db];rfl
 have F:gNe (.ref T.length) (.ref k.length) (k++[Ob.lst (wSt.filter λw=>tf (w∈xs))])=Z (.bl (!ord wSt xs),k++[Ob.lst (wSt.filter λw=>tf (w∈xs))]):=by
  unfold gNe;rw[vO K C (g8 l) q,tP λx m e s=>DC (az.mp s).1 (u x m)];rfl
 refine W.of F ?_;refine W.of O ?_;subst i;refine⟨_,by rw[aW],?_⟩;refine gI I λo A=>?_;simp only[bm,a0,aD,cC,or_false]at A;rcases A with z|z|z<;>subst z<;>rw[Ob.und]
 ·exact gE (by simp) B
 ·rfl
 ·refine dH (ib λx m=>?_);have:=(az.mp m).1;simp only[wSt,aD,cC,or_false]at this;rcases this with z|z|z|z|z<;>subst z<;>rfl
end
theorem Fo{ws:List D}{h:D}(z:kE h=J):gx ws h=J:=nw z
theorem se{d:D}{S:Sto}{Q:D×Sto->Prop}(C:d5 S)(hv:vd S d=M)(E:d.und S.length=M)(hb:bd 50 d=M)(q:Q (.bl (CT d),S)):W (c9 1 eL [d] S) Q:=by
 have k:∀T,d5 T->fm T [d]=M->D.und T.length d=M->W (eL [d] T) λp=>(∃G,p.2=T++G)/\p.1.und 0=M/\Q (p.1,S):=λT L t l=>by
  have j:=vd1' t;have h1:=fc j;have nil:∃G,T=T++G:=⟨[],(aK T).symm⟩;unfold eL;refine io ?_;unfold iS;refine ifs2 (b:=AS 7 d) ?_ (λhc=>?_) (λhc=>?_)
  ·cases ht:kE d with
   |false=>
    ((try walk_at"w");repeat(simp only[d3,h1,ht];try walk_at"w"))
    cases d with
    |tup xs=>cases ht
    |_=>rfl
   |true=>
    obtain⟨xs,rfl⟩:=ff ht
    ((try walk_at"w");repeat(simp only[d3,h1,ht];try walk_at"w"))
    have e:(((xs.length:Nat):Int) == 7)=AS 7 (.tup xs):=by rw[AS,bL,beq_iff_eq,al];lia
    rw[e]
  ·rw[vN hc]at q;exact⟨nil,O,q⟩
  obtain⟨f,e,h,s,a,b,c,rfl⟩:=Dx hc;have m:=(fu hb).2;rw[vd]at j;have P:vd T f=M:=dq j (by simp);have am:vd T e=M:=dq j (by simp);have ar:vd T h=M:=dq j (by simp);have vs:vd T s=M:=dq j (by simp);have N:vd T a=M:=dq j (by simp);have K:vd T b=M:=dq j (by simp);have ao:vd T c=M:=dq j (by simp);have w:s.und T.length=M:=by
   rw[D.und,ic,bA]at l;exact l s (by simp)
  have i:Q (.bl (lj f&&(kB wEy e&&(gx wHa h&&(gx wSt s&&(e6 1 3 a&&e6 0 8 b&&e6 0 40 c))))),S):=q;refine eg (λr V=>V=T/\r=rE (.tup [f,e,h,s,a,b,c]) f e h s a b c) ?_ ?_
  ·walk_at"w"
  rintro r V ⟨rfl,rfl⟩;refine ifs3 (Av L P (m f (by simp))) (λhc G=>?_) (λhc G1 U=>?_)
  ·rw[hc]at i;exact⟨⟨G,O⟩,O,i⟩
  rw[hc,cE]at i;refine ifs3 (GU U (iw am)) (λhc G=>?_) (λhc G2 B=>?_)
  ·rw[hc]at i;exact⟨⟨_,aW _ _ _⟩,O,i⟩
  rw[hc,cE]at i;rw[aW]at B ⊢;refine ifs3 (Da B (iw ar) (iw vs)) (λhc G=>?_) (λhc G3 A=>?_)
  ·have:(gx wHa h&&(gx wSt s&&(e6 1 3 a&&e6 0 8 b&&e6 0 40 c)))=false:=by
    rw[cF]at hc;rcases hc with z|z
    ·rw[z];rfl
    ·rw[Fo z];simp
   rw[this]at i;exact⟨⟨_,aW _ _ _⟩,O,i⟩
  rw[bA1]at hc;obtain⟨xs,rfl⟩:=ff hc.2;rw[hc.1,cE]at i;rw[aW]at A ⊢;have H:=(fu (m _ (by simp):bd 50 (.tup xs)=M)).1;rw[vd]at vs;refine ifs3 (c_any A (g8 vs) (by lia)) (λhc G=>?_) (λhc F y=>?_)
  ·have:gx wSt (.tup xs)=false:=by
    show(!xs.isEmpty&&ord wSt xs)=J;rw[cF]at hc;rcases hc with z|z
    ·rw[z];rfl
    ·rw[Bool.not_eq_false']at z;obtain⟨x,v,u⟩:=bM.mp z;rw[mW (List.all_eq_false.mpr ⟨x,v,λo=>?_⟩),aZ];have o:=iW.mp o;simp only[wSt,aD,cC,or_false]at o;rcases o with z|z|z|z|z<;>subst z<;>cases u
   rw[this]at i;exact⟨⟨_,aW _ _ _⟩,O,i⟩
  rw[bA1]at hc;have u:∀x∈xs,AU x=J:=λx v=>by
   have:=hc.2;rw[Bool.not_eq_true']at this;exact List.any_eq_false.mp this x v |> λz=>by simpa using z
  have R:gx wSt (.tup xs)=ord wSt xs:=by show(!xs.isEmpty&&ord wSt xs)=_;rw[hc.1];rfl
  rw[R]at i;rw[aW]at y ⊢;rw[D.und]at w;refine ifs3 (c_list y (gE (by simp) w) (g8 vs) (by lia) u) (λhc G=>?_) (λhc I n=>?_)
  ·rw[hc]at i;exact⟨⟨_,aW _ _ _⟩,O,i⟩
  rw[hc,cE]at i;rw[aW]at n ⊢;generalize G1++G2++G3++F++I=G at *
  have g:∃G',V++G=V++G':=⟨G,O⟩;walk_at"w";refine hL n (iw N) ?_;walk_at"w";cases h5:e6 1 3 a with
  |false=>
   rw[h5]at i;walk_at"w";exact⟨g,O,i⟩
  |true=>
   rw[h5,cE]at i;walk_at"w";refine hL n (iw K) ?_;walk_at"w";cases h6:e6 0 8 b with
   |false=>
    rw[h6]at i;walk_at"w";exact⟨g,O,i⟩
   |true=>
    rw[h6,cE]at i;walk_at"w";refine hL n (iw ao) ?_;exact⟨g,O,i⟩
 cases hu0:D.unds 0 [d]with
 |true=>exact jK O hu0 ((k [] rfl (ng (q9 hv) hu0) (by rw[D.unds,bA1]at hu0;exact hu0.1)).mono λp z=>⟨z.2.1,z.2.2⟩)
 |false=>exact Ap O hu0 C (k S C (q9 hv) E)
theorem u0{o:Ob}{n:Nat}{T:Sto}(ho:Hnd o n)(a:ClT T):d5 (o::T):=by
 unfold d5;rw[bK,ho.und,lC1];exact a
theorem jR{n:Nat}{o:Ob}{T:Sto}{k:Int}{Q:D×Sto->Prop}(ho:Hnd o n)(h:ClT T)(hn:n<=2^50)(hk:0<k)(b:k<1073741824)(q:∀(d:Nat) o',Hnd o' (n+1)->(d:Int)<k->Q (.int d,o'::T)):W (c9 2 da [.ref 0,.int k] (o::T)) Q:=by
 have s:HZ n (o::T) (o::T):=⟨by simp,nR1 _,λ_ _ _=>rfl,⟨o,O,ho⟩,u0 ho h⟩;refine eU s hn hk b λd j a g l f=>?_;obtain⟨o',e,c⟩:=a.hand;have:j=o'::T:=by
  refine bT λi=>?_;cases i with
  |zero=>rw[e];rfl
  |succ i=>
   by_cases hi:i+1<(o::T).length
   ·rw[g.same (i+1) (by lia) hi];rfl
   ·rw[bU (by lia),bU (by simpa using hi)]
 subst this;exact q d o' c f
theorem xb{f:FN}{a b:FE}{r:Ev}{S:Sto}{Q:D×Sto->Prop}(h:W (a r S) λp=>W (b r p.2) λq=>W (f [p.1,q.1] q.2) Q):W (m2 f a b r S) Q:=by
 unfold m2;rw[dh];exact h.mono λp c=>by rw[dh];exact c
theorem E7{o:Ob}{n k p:Nat}{T G:Sto}{L:List D}{r:Ev}{Q:D×Sto->Prop}(ho:Hnd o n)(hn:n<=2^40)(j:ClT (T++G))(hp:(T++G)[p]? = Z (.lst L))(t:0<L.length)(s:L.length<=300)(g:r[0]? = Z (Z (.ref 0)))(h2:r[2]? = Z (Z (.ref (p+1))))(hx:∀ o',Hnd o' (n+1) -> ∀ x∈L,Ok k (o'::(T++G)) x)(q:∀x o',Hnd o' (n+1)->Ok k (o'::(T++G)) x->Q (x,o'::(T++G))):W (m2 (b2 de) (mV 2) (mN (c9 2 da) (cX (mV 0) (cX (mN (b1 dX) (cX (mV 2) cY)) cY))) r (o::(T++G))) Q:=by
 have e:∀o:Ob,(o::(T++G))[p+1]?=Z (.lst L):=λo=>by rw[gC1];exact hp
 have l:∀S:Sto,mV 0 r S=Z (.ref 0,S):=λS=>by unfold mV;rw[g]
 have f:∀S:Sto,mV 2 r S=Z (.ref (p+1),S):=λS=>by unfold mV;rw[h2]
 have h:dX (.ref (p+1)) (o::(T++G))=Z (.int L.length,o::(T++G)):=by unfold dX;rw[fT (e o)];rfl
 refine xb ?_;rw[f,dm];dsimp only;unfold mN cX;simp only[l,f,cY,oS1,b1,h];refine jR ho j (by lia) (by lia) (by lia) λd c b m=>?_;have a:d<L.length:=by lia
 unfold b2;refine gt (i:=d) (x:=L[d]) (e c) (gG1 a) ?_;exact q _ c b (hx c b _ (bN a))
inductive Pk (k:Nat)(o:Ob)(T:Sto)(d:D)(n:Nat):Ev->Sto->Prop
 |mk (G:Sto) (L:List D) (p:Nat):(T++G)[p]?=some (.lst L)->L.length=n->ClT (T++G)->(∀x∈L,Ok k (o::(T++G)) x)->Pk k o T d n [some (.ref 0),some d,some (.ref (p+1))] (o::(T++G))
section
variable{k n m N:Nat}{r:Ev}{o:Ob}{T:Sto}{a:FA}{d:D}{S:Sto}
theorem EC{x2:Option D}(G:Sto)(b:ClT (T++G))(ho:Hnd o N)(ha:AK k [Z (.ref 0),Z d,x2] o T n a)(hn:n<=1000):W (dI (et a) (gN 2) [Z (.ref 0),Z d,x2] (o::(T++G))) λp=>p.1 = .nx/\Pk k o T d n p.2.1 p.2.2:=by
 unfold dI;rw[dh];refine(mm ha hn G b).mono ?_;rintro p ⟨G1,L,rfl,h1,h2,f⟩;refine W.of O ⟨O,?_⟩;have e:T++(G++G1)++[Ob.lst L]=T++(G++(G1++[Ob.lst L])):=by simp
 dsimp only;show Pk k o T d n [Z (.ref 0),Z d,Z (.ref ((T++(G++G1)).length+1))] (o::(T++(G++G1)++[Ob.lst L]));rw[e]at h1 ⊢;refine .mk _ L _ ?_ h2 h1 λx c=>?_
 ·rw[<- e,db];rfl
 ·have:=(f x c).on (n:=N) (G:=[Ob.lst L]) ho
  rwa [e]at this
theorem qh(ho:Hnd o N)(ha:∀x2,AK k [Z (.ref 0),Z d,x2] o T n a)(hn:n+m<=1000)(h:Pk k o T d m r S):W (dI (m2 (b2 dS) (mV 2) (et a)) (gN 2) r S) λp=>p.1 = .nx/\Pk k o T d (m+n) p.2.1 p.2.2:=by
 obtain⟨G,L,p,h1,h2,u,s⟩:=h;have e:=(gE1.mp h1).1;unfold dI m2;rw[dh,dh];refine W.of (x:=(.ref (p+1),o::(T++G))) O ?_;rw[dh];refine(mm (ha _) (by lia) G u).mono ?_;rintro q ⟨G1,b,rfl,j,v,t⟩;dsimp only[b2];have i:T++(G++G1)++[Ob.lst b]=(T++G)++(G1++[Ob.lst b]):=by simp
 refine(lW (xs:=L) (ys:=b) ?_ ?_).mpr ⟨dg (by lia),?_⟩
 ·rw[gC1,i,gL1 e];exact h1
 ·rw[ck,gC1,db];rfl
 refine W.of O ⟨O,?_⟩;have l:o::(T++(G++G1)++[Ob.lst b])++[Ob.lst (L++b)]=o::(T++(G++(G1++[Ob.lst b,Ob.lst (L++b)]))):=by simp
 have f:∀x∈L++b,Ok k (o::(T++(G++G1))) x:=λx c=>by
  rcases aE.mp c with z|z
  ·have:=(s x z).on (n:=N) (G:=G1) ho
   rwa [aW]at this
  ·exact t x z
 have hc:ClT (T++(G++(G1++[Ob.lst b,Ob.lst (L++b)]))):=by
  have:=gD (o:=o) j λx c=>(f x c).on (n:=N) (G:=[Ob.lst b]) ho;have g:T++(G++G1)++[Ob.lst b]++[Ob.lst (L++b)]=T++(G++(G1++[Ob.lst b,Ob.lst (L++b)])):=by simp
  rwa [g]at this
 show Pk k o T d (m+n) [Z (.ref 0),Z d,Z (.ref ((T++(G++G1)++[Ob.lst b]).length+1))] (o::(T++(G++G1)++[Ob.lst b])++[Ob.lst (L++b)]);rw[l];refine .mk _ (L++b) _ ?_ (by rw[lA1,h2,v]) hc λx c=>?_
 ·rw[show T++(G++(G1++[Ob.lst b,Ob.lst (L++b)]))=(T++(G++G1)++[Ob.lst b])++[Ob.lst (L++b)] by simp,db];rfl
 ·have:=(f x c).on (n:=N) (G:=[Ob.lst b,Ob.lst (L++b)]) ho;simpa using this
end
section
variable{k n m N:Nat}{r:Ev}{o:Ob}{T:Sto}{a:FA}{d:D}{S:Sto}{x2:Option D}{i:Int}
theorem Ex{i:Int}{S:Sto}(h:i.natAbs.log2<1920):mN (b1 zI) (cX (mV 1) cY) [Z (.ref 0),Z (.int i),x2] S=Z (.str (Str.ofString (toString i)),S):=by
 show(if i.natAbs.log2<1920 then _ else Y)=_;rw[ak h]
theorem J4(ho:Hnd o N)(hk:2<=k)(b:k<=200):AK k [Z (.ref 0),Z d,x2] o T 21 (cX (mC D.non) (cX (mC (D.bl M)) (cX (mC (D.bl J)) (cX (mC (D.int 0)) (cX (mC (D.int 1)) (cX (mC (D.int 2)) (cX (mC (D.int 3)) (cX (mC (D.int 4)) (cX (mC (D.int 5)) (cX (mC (D.int 6)) (cX (mC (D.int 7)) (cX (mC (D.int 8)) (cX (mC (D.int 9)) (cX (mC (D.int 40)) (cX (mC (D.int 41)) (cX (m1 (b1 lO) (mC (D.int 1))) (cX (m2 (b2 gA) (mC (D.int 10)) (mC (D.int 30))) (cX (mC (D.str "leave")) (cX (mC (D.str "mark")) (cX (mC (D.str "wipe")) (cX (mC (D.str "came")) cY))))))))))))))))))))):=by
 obtain⟨B,a⟩:=HS;exact(cZ ho (eM ho O (by rw[bd])) (cZ ho (eM ho O (by rw[bd])) (cZ ho (eM ho O (by rw[bd])) (cZ ho (eM ho O (by rw[bd])) (cZ ho (eM ho O (by rw[bd])) (cZ ho (eM ho O (by rw[bd])) (cZ ho (eM ho O (by rw[bd])) (cZ ho (eM ho O (by rw[bd])) (cZ ho (eM ho O (by rw[bd])) (cZ ho (eM ho O (by rw[bd])) (cZ ho (eM ho O (by rw[bd])) (cZ ho (eM ho O (by rw[bd])) (cZ ho (eM ho O (by rw[bd])) (cZ ho (eM ho O (by rw[bd])) (cZ ho (eM ho O (by rw[bd])) (cZ ho (ea (d:=.int (-1)) ho (λ_=>rfl) (.shut O (by rw[bd]))) (cZ ho (ea (d:=.int B) ho (λS=>a S) (.shut O (by rw[bd]))) (cZ ho (eM ho O (by rw[bd])) (cZ ho (eM ho O (by rw[bd])) (cZ ho (eM ho O (by rw[bd])) (cZ ho (eM ho O (by rw[bd])) ed)))))))))))))))))))))
theorem J3(ho:Hnd o N):AK k [Z (.ref 0),Z d,x2] o T 10 (cX (mC (D.str "chalk")) (cX (mC (D.str "doors")) (cX (mC (D.str "others")) (cX (mC (D.str "Leave")) (cX (mC (D.str "ask")) (cX (mC (D.str "fails")) (cX (mC (D.str "never")) (cX (mC (D.str "colours")) (cX (mC (D.str "alike")) (cX (mC (D.str "does")) cY)))))))))):=(cZ ho (eM ho O (by rw[bd])) (cZ ho (eM ho O (by rw[bd])) (cZ ho (eM ho O (by rw[bd])) (cZ ho (eM ho O (by rw[bd])) (cZ ho (eM ho O (by rw[bd])) (cZ ho (eM ho O (by rw[bd])) (cZ ho (eM ho O (by rw[bd])) (cZ ho (eM ho O (by rw[bd])) (cZ ho (eM ho O (by rw[bd])) (cZ ho (eM ho O (by rw[bd])) ed))))))))))
theorem J0(ho:Hnd o N):AK k [Z (.ref 0),Z d,x2] o T 3 (cX (mC (D.str "none")) (cX (mC (D.str "")) (cX (mC (D.str "0")) cY))):=(cZ ho (eM ho O (by rw[bd])) (cZ ho (eM ho O (by rw[bd])) (cZ ho (eM ho O (by rw[bd])) ed)))
theorem JZ(ho:Hnd o N)(hd:Ok k (o::T) d)(hk:2<=k)(b:k<=200):AK k [Z (.ref 0),Z d,x2] o T 13 (cX (dz cY) (cX (et cY) (cX oZ (cX (dz (cX (mC (D.int 0)) cY)) (cX (dz (cX (mC D.non) cY)) (cX (dz (cX (mC (D.int 0)) (cX (mC (D.int 1)) cY))) (cX (dz (cX (mC (D.int 1)) (cX (mC (D.int 0)) cY))) (cX (dz (cX (mC (D.int 0)) (cX (mC (D.int 0)) cY))) (cX (dz (cX (dz (cX (mC (D.int 0)) (cX (mC (D.int 0)) cY))) cY)) (cX (dz (cX (mC (D.bl M)) cY)) (cX (dz (cX (mC (D.str "leave")) cY)) (cX (dz (cX (mV 1) cY)) (cX (et (cX (mV 1) cY)) cY))))))))))))):=by
 have a:EK k [Z (.ref 0),Z d,x2] o T (mV 1):=ea ho (λ_=>rfl) hd;exact(cZ ho (gp ed (by lia) (by lia)) (cZ ho (qu ho ed (by lia)) (cZ ho C0 (cZ ho (gp (cZ ho (eM ho O (by rw[bd])) ed) (by lia) (by lia)) (cZ ho (gp (cZ ho (eM ho O (by rw[bd])) ed) (by lia) (by lia)) (cZ ho (gp (cZ ho (eM ho O (by rw[bd])) (cZ ho (eM ho O (by rw[bd])) ed)) (by lia) (by lia)) (cZ ho (gp (cZ ho (eM ho O (by rw[bd])) (cZ ho (eM ho O (by rw[bd])) ed)) (by lia) (by lia)) (cZ ho (gp (cZ ho (eM ho O (by rw[bd])) (cZ ho (eM ho O (by rw[bd])) ed)) (by lia) (by lia)) (cZ ho (gp (cZ ho (gp (cZ ho (eM ho O (by rw[bd])) (cZ ho (eM ho O (by rw[bd])) ed)) (by lia) (by lia)) ed) (by lia) (by lia)) (cZ ho (gp (cZ ho (eM ho O (by rw[bd])) ed) (by lia) (by lia)) (cZ ho (gp (cZ ho (eM ho O (by rw[bd])) ed) (by lia) (by lia)) (cZ ho (gp (cZ ho a ed) (by lia) (by lia)) (cZ ho (qu ho (cZ ho a ed) (by lia)) ed)))))))))))))
theorem JY(ho:Hnd o N)(hi:i.natAbs.log2<1920):AK k [Z (.ref 0),Z (.int i),x2] o T 5 (cX (m2 (b2 dS) (mN (b1 mL) (cX (mV 1) cY)) (mC (D.int 1))) (cX (m2 (b2 gSub) (mN (b1 mL) (cX (mV 1) cY)) (mC (D.int 1))) (cX (mN (b1 zI) (cX (mV 1) cY)) (cX (m2 (b2 gEq) (mV 1) (mC (D.int 1))) (cX (mN (b1 zM) (cX (mV 1) cY)) cY))))):=(cZ ho (ea (d:=.int (i+1)) ho (λ_=>rfl) (.shut O (by rw[bd]))) (cZ ho (ea (d:=.int (i-1)) ho (λ_=>rfl) (.shut O (by rw[bd]))) (cZ ho (ea (d:=.str (Str.ofString (toString i))) ho (λS=>Ex hi) (.shut O (by rw[bd]))) (cZ ho (ea (d:=.bl (i == 1)) ho (λ_=>rfl) (.shut O (by rw[bd]))) (cZ ho (ea (d:=.bl (i != 0)) ho (λ_=>rfl) (.shut O (by rw[bd]))) ed)))))
theorem B4{n c:Nat}{xs:List D}{S:Sto}(h:S[n]?=Z (.lst xs))(hc:c<=10)(a:xs.length<=100):im (.ref n) (.int (c:Nat)) S=Z (.ref S.length,S++[.lst (aM c xs).flatten]):=by
 simp only[im,h];rw[ak ⟨by lia,by lia,by rw[Int.toNat_natCast];exact aB (Nat.mul_le_mul a hc) (show 100*10<=cQ by decide)⟩,Int.toNat_natCast]
theorem qi{α:Type}{x:α}{xs:List α}:∀{c:Nat},x∈(aM c xs).flatten->x∈xs
 |0,h=>by cases h
 |c+1,h=>by
  rw[aT,aU]at h;rcases aE.mp h with z|z
  ·exact z
  ·exact qi z
theorem B8{c:Nat}(ho:Hnd o N)(ha:∀x2,AK k [Z (.ref 0),Z d,x2] o T n a)(hc:c<=10)(hn:c*n+m<=1000)(u:n<=100)(h:Pk k o T d m r S):W (dI (m2 (b2 dS) (mV 2) (m2 (b2 im) (et a) (mC (D.int (c:Nat))))) (gN 2) r S) λp=>p.1 = .nx/\Pk k o T d (m+c*n) p.2.1 p.2.2:=by
 obtain⟨G,L,p,h1,h2,C,B⟩:=h;have j:=(gE1.mp h1).1;unfold dI;rw[dh];refine xb ?_;refine W.of (x:=(.ref (p+1),o::(T++G))) O ?_;refine xb ?_;refine(mm (ha _) (by lia) G C).mono ?_;rintro q ⟨G1,L',rfl,y,E,l⟩;refine W.of (x:=(.int (c:Nat),o::(T++(G++G1)++[Ob.lst L']))) O ?_;dsimp only[b2];have i:(o::(T++(G++G1)++[Ob.lst L']))[(T++(G++G1)).length.succ]?=Z (.lst L'):=by rw[ck,gC1,db];rfl
 refine W.of (B4 i hc (by lia)) ?_;have g:(aM c L').flatten.length=c*n:=by rw[lc,E]
 have f:∀x∈(aM c L').flatten,x∈L':=λx e=>qi e;generalize (aM c L').flatten=b at g f;dsimp only;have w:o::(T++(G++G1)++[Ob.lst L'])++[Ob.lst b]=o::((T++G)++(G1++[Ob.lst L',Ob.lst b])):=by simp
 refine(lW (xs:=L) (ys:=b) ?_ ?_).mpr ⟨dg (by lia),?_⟩
 ·rw[w,gC1,gL1 j];exact h1
 ·rw[db];rfl
 refine W.of O ⟨O,?_⟩;have A:o::(T++(G++G1)++[Ob.lst L'])++[Ob.lst b]++[Ob.lst (L++b)]=o::(T++(G++(G1++[Ob.lst L',Ob.lst b,Ob.lst (L++b)]))):=by simp
 have s:∀x∈L++b,Ok k (o::(T++(G++G1))) x:=λx e=>by
  rcases aE.mp e with z|z
  ·have:=(B x z).on (n:=N) (G:=G1) ho
   rwa [aW]at this
  ·exact l x (f x z)
 have hc:ClT (T++(G++(G1++[Ob.lst L',Ob.lst b,Ob.lst (L++b)]))):=by
  have v:=gD (o:=o) y (L:=b) λx e=>(l x (f x e)).on (n:=N) (G:=[Ob.lst L']) ho;have c3:=gD (o:=o) v (L:=L++b) λx e=>by
   have:=(s x e).on (n:=N) (G:=[Ob.lst L',Ob.lst b]) ho;simpa using this
  have t:T++(G++G1)++[Ob.lst L']++[Ob.lst b]++[Ob.lst (L++b)]=T++(G++(G1++[Ob.lst L',Ob.lst b,Ob.lst (L++b)])):=by simp
  rwa [t]at c3
 show Pk k o T d (m+c*n) [Z (.ref 0),Z d,Z (.ref (o::(T++(G++G1)++[Ob.lst L'])++[Ob.lst b]).length)] (o::(T++(G++G1)++[Ob.lst L'])++[Ob.lst b]++[Ob.lst (L++b)]);rw[show(o::(T++(G++G1)++[Ob.lst L'])++[Ob.lst b]).length=(T++(G++G1)++[Ob.lst L',Ob.lst b]).length+1 by simp,A];refine .mk _ (L++b) _ ?_ (by rw[lA1,h2,g]) hc λx e=>?_
 ·rw[show T++(G++(G1++[Ob.lst L',Ob.lst b,Ob.lst (L++b)]))=(T++(G++G1)++[Ob.lst L',Ob.lst b])++[Ob.lst (L++b)] by simp,db];rfl
 ·have:=(s x e).on (n:=N) (G:=[Ob.lst L',Ob.lst b,Ob.lst (L++b)]) ho;simpa using this
end
theorem DE{o:Ob}{n:Nat}{T:Sto}{i:Int}{Q:D×Sto->Prop}(ho:Hnd o n)(hn:n<=2^40)(g:ClT T)(hi:i.natAbs.log2<1920)(q:∀x o' G,Hnd o' (n+1)->ClT (T++G)->Ok 50 (o'::(T++G)) x->Q (x,o'::(T++G))):W (c9 2 gz [.ref 0,.int i] (o::T)) Q:=by
 refine Ao (k:=50) (n':=n+1) O O g ?_ q;have j:Ok 50 (o::T) (.int i):=.shut O (by rw[bd]);unfold gz;refine io ?_;unfold ot;refine eg (Pk 50 o T (.int i) 21) ?_ ?_
 ·have:=EC (k:=50) (x2:=Y) (d:=.int i) [] (by rw[aK];exact g) ho (J4 ho (by lia) (by lia)) (by lia);rw[aK]at this;exact this
 intro r S h;refine eg (Pk 50 o T (.int i) 31) (qh ho (λ_=>J3 ho) (by lia) h) ?_;intro r S h;refine eg (Pk 50 o T (.int i) 34) (qh ho (λ_=>J0 ho) (by lia) h) ?_;intro r S h;refine eg (Pk 50 o T (.int i) 47) (qh ho (λ_=>JZ ho j (by lia) (by lia)) (by lia) h) ?_;intro r S h;refine eg (Pk 50 o T (.int i) 47) ?_ ?_
 ·obtain⟨G,L,p,h1,h2,b,e⟩:=h;unfold eh;rw[dh];refine W.of (x:=(J,o::(T++G))) O ?_;exact W.of O ⟨O,.mk G L p h1 h2 b e⟩
 intro r S h;refine eg (Pk 50 o T (.int i) 72) ?_ ?_
 ·obtain⟨G,L,p,h1,h2,b,e⟩:=h;unfold eh;rw[dh];refine W.of (x:=(M,o::(T++G))) O ?_;dsimp only;rw[ak O];exact B8 (c:=5) ho (λ_=>JY ho hi) (by lia) (by lia) (by lia) (.mk G L p h1 h2 b e)
 rintro r S ⟨G,L,p,h1,h2,b,e⟩;unfold dB;rw[dh];refine E7 (k:=50) ho hn b h1 (by lia) (by lia) O O (λo' a x f=>?_) λx o' a f=>?_
 ·have:=(e x f).on (n:=n) (G:=[]) a
  rwa [aK]at this
 ·exact dm.mpr ⟨x,o',G,O,a,b,f⟩
theorem JL{a b:FS}{r:Ev}{S:Sto}{Q:Fl×Ev×Sto->Prop}(h:W (a r S) fun p=>match p.1 with
  | .rt d=>Q (.rt d,p.2)
  |_=>False):W (di a b r S) Q:=by
 refine yb (h.mono ?_);rintro⟨f,p⟩ q;cases f with
 |rt d=>exact .inr ⟨d,O,q⟩
 |_=>cases q
theorem Lz{c:FT}{e:FE}{k:FS}{r:Ev}{T:Sto}{Q:Fl×Ev×Sto->Prop}(C:Bool->Sto->Prop)(hc:W (c r T) λp=>C p.1 p.2)(h1:∀V,C M V->W (e r V) λp=>Q (.rt p.1,r,p.2))(g:∀V,C J V->W (k r V) Q):W (di (eh c (dB e) hI) k r T) Q:=by
 obtain⟨⟨b,V⟩,f,d⟩:=hc;dsimp only at d;cases b with
 |true=>
  obtain⟨p,i,a⟩:=h1 V d;refine⟨(.rt p.1,r,p.2),?_,a⟩;simp only[di,eh,dB,f,i,oS1,if_true]
 |false=>
  obtain⟨p,h,a⟩:=g V d;refine⟨p,?_,a⟩;simp only[di,eh,hI,f,oS1,bF1,if_false];exact h
theorem oN{i:Int}(h:i.natAbs<1000):i.natAbs.log2<1920:=bD (Nat.log2_le_self _) (by lia)
theorem choose_W{k n c:Nat}{r:Ev}{o:Ob}{T:Sto}{a:FA}{Q:D×Sto->Prop}(ho:Hnd o n)(hn:n<=2^40)(m:ClT T)(j:r[0]? = Z (Z (.ref 0)))(ha:AK k r o T c a)(l:0<c)(hc:c<=100)(q:∀x o' G,Hnd o' (n+1)->ClT (T++G)->Ok k (o'::(T++G)) x->Q (x,o'::(T++G))):W (m2 (b2 de) (et a) (mN (c9 2 da) (cX (mV 0) (cX (mC (D.int (c:Nat))) cY))) r (o::T)) Q:=by
 refine xb ?_;have:=mm ha (by lia) [] (by rw[aK];exact m);rw[aK]at this;refine this.mono ?_;rintro p ⟨G1,L,rfl,f,u,g⟩;rw[a0]at f g;have s:∀S:Sto,mV 0 r S=Z (.ref 0,S):=λS=>by unfold mV;rw[j]
 unfold mN cX;simp only[s,cY,mC,oS1,a0];refine jR ho f (by lia) (by lia) (by lia) λd h b t=>?_;have e:d<L.length:=by lia
 unfold b2;refine gt (i:=d) (x:=L[d]) (xs:=L) ?_ (gG1 e) ?_
 ·rw[ck,gC1,db];rfl
 have:=q L[d] h (G1++[Ob.lst L]) b (by rw[<- aW];exact f) (by
  have:=(g _ (bN e)).on (n:=n+1) (G:=[Ob.lst L]) b
  rwa [aW]at this)
 rwa [<- aW]at this
theorem CY{k p:Nat}{r:Ev}{o:Ob}{T:Sto}{xs:List D}{i N:Nat}(ho:Hnd o N)(hi:r[i]?=Z (Z (.ref (p+1))))(hp:T[p]?=Z (.lst xs))(b:xs.length<=k)(hx:∀x∈xs,Ok k (o::T) x):EK k r o T (mN (b1 Mi.gTup) (cX (mV i) cY)):=λG c=>by
 have a:(o::(T++G))[p+1]?=Z (.lst xs):=by rw[gC1,gL1 (gE1.mp hp).1];exact hp
 refine W.of (x:=(.tup xs,o::(T++G))) ?_ ⟨[],by rw[aK],by rw[aK];exact c,?_⟩
 ·unfold mN cX mV;rw[hi];show Mi.gTup (.ref (p+1)) (o::(T++G))=_;unfold Mi.gTup;rw[fT a];rfl
 ·rw[aK];exact(Ok.tup b hx).on (n:=N) ho
theorem IV:∀ (deep:Nat) {fuel n:Nat} {o:Ob} {T:Sto} {Q:D×Sto->Prop},deep<fuel->deep<=5->Hnd o n->n+2*9^deep<=2^39->ClT T ->
  (∀x o' G,Hnd o' (n+2*9^deep)->ClT (T++G)->Ok 50 (o'::(T++G)) x->Q (x,o'::(T++G)))->W (c9 2 (fW fuel) [.ref 0,.int (deep:Nat)] (o::T)) Q:=by
 intro deep
 induction deep with
 |zero=>
  intro fuel n o T Q R H K U m q;obtain⟨f,rfl⟩:∃f,fuel=f+1:=⟨fuel-1,by lia⟩;refine Ao (k:=50) (n':=n+2*9^0) O O m ?_ q;rw[fW];refine io ?_;unfold h8;refine JL ?_;walk_at"w";refine jR K m (by lia) (by decide) (by decide) λc v e hc=>?_;walk_at"w";refine DE e (by lia) m (oN (by lia)) λx l G b t p=>?_;exact⟨x,l,G,O,b,t,p⟩
 |succ deep ih=>
  intro fuel n o T Q R H K U m q;obtain⟨f,rfl⟩:∃f,fuel=f+1:=⟨fuel-1,by lia⟩;have ar:1<=9^deep:=Nat.one_le_pow _ _ (by decide);have e9:9^(deep+1)=9*9^deep:=by rw[Nat.pow_succ,Nat.mul_comm]
  refine Ao (k:=50) (n':=n+2*9^(deep+1)) O O m ?_ q;rw[fW];refine io ?_;unfold h8;have I:((((deep+1:Nat)):Int) == 0)=J:=beq_eq_false_iff_ne.mpr (by lia);refine Lz (λ_ V=>∃v,V=v::T/\Hnd v (n+1)) ?_ ?_ ?_
  ·((try walk_at"w");repeat(simp only[I];try walk_at"w"))
   refine jR K m (by lia) (by decide) (by decide) λc v e hc=>?_;walk_at"w"
   first|exact⟨v,rfl,e⟩|exact⟨v,⟨rfl,rfl⟩,e⟩|exact e
  ·rintro V ⟨v,rfl,e⟩;walk_at"w";refine jR e m (by lia) (by decide) (by decide) λc l b hc=>?_;walk_at"w";refine DE b (by lia) m (oN (by lia)) λx s G g t p=>?_;exact⟨x,s,G,O,g.more (by lia),t,p⟩
  rintro V ⟨v,rfl,e⟩;refine eg (λr V=>∃l G a,V=l::(T++G++[Ob.lst a])/\Hnd l (n+2+14*9^deep)/\ClT (T++G)/\a.length<=7/\(∀x∈a,Ok 50 (l::(T++G)) x)/\r=[Z (.ref 0),Z (.int ((deep+1:Nat):Int)),Z (.ref ((T++G).length+1))]) ?_ ?_
  ·unfold dI;rw[dh];walk_at"w";refine jR e m (by lia) (by decide) (by decide) λc l b hc=>?_;walk_at"w";refine⟨fw (by lia),?_⟩;rw[Int.toNat_natCast];refine ik (λi a r S=>∃s G x,S=s::(T++G)/\Hnd s (n+2+i*(2*9^deep))/\ClT (T++G)/\i<=c/\a.length=i/\(∀x∈a,Ok 50 (s::(T++G)) x)/\r=[x,Z (.ref 0),Z (.int ((deep+1:Nat):Int))]) (iL 0 c) 0 [] _ _ ⟨l,[],Y,by rw[aK],by simpa using b,by rw[aK];exact m,by lia,O,λx p=>(by cases p),O⟩ (λ_ _ _ _ _=>rfl) ?_ ?_
   ·rintro i d X a r S ⟨s,G,x,rfl,g,t,hi,u,j,rfl⟩;have F:=(gE1.mp X).1;rw[d0]at F;rw[bI]at *
    have P:i*(2*9^deep)<=6*(2*9^deep):=Nat.mul_le_mul_right _ (by lia);walk_at"w";rw[show(((deep+1:Nat):Int)-1)=(deep:Int) by lia];refine ih (fuel:=f) (by lia) (by lia) g (by lia) t λy aq L B w N=>?_;rw[aW]at w N ⊢;refine⟨aq,G++L,_,O,B.more (by rw[Nat.add_mul];lia),w,by lia,by simp[u],λz I=>?_,O⟩;rcases aE.mp I with h|h
    ·have:=(j z h).on (n:=n+2+i*(2*9^deep)+2*9^deep) (G:=L) B
     rwa [aW]at this
    ·rw[cD.mp h];exact N
   ·rintro xs r S ⟨s,G,x,rfl,g,t,hi,u,j,rfl⟩;rw[bI,d0]at *
    rw[a0]at u j;have hc7:c*(2*9^deep)<=7*(2*9^deep):=Nat.mul_le_mul_right _ (by lia);refine⟨dg (by lia),?_⟩
    try walk_at"w"
    exact⟨s,G,xs,O,g.more (by lia),t,by lia,j,O⟩
  ·rintro r V ⟨l,G,a,rfl,b,t,u,j,rfl⟩;have am:ClT (T++G++[Ob.lst a]):=gD (o:=l) t j;have C:∀x∈a,Ok 50 (l::(T++G++[Ob.lst a])) x:=λx p=>(j x p).on (n:=n+2+14*9^deep) b;have A:(T++G++[Ob.lst a])[(T++G).length]?=Z (.lst a):=by rw[db];rfl
   have ao:=CY (k:=50) (r:=[Z (.ref 0),Z (.int ((deep+1:Nat):Int)),Z (.ref ((T++G).length+1))]) (i:=2) b O A (by lia) C;have wq:EK 50 [Z (.ref 0),Z (.int ((deep+1:Nat):Int)),Z (.ref ((T++G).length+1))] l (T++G++[Ob.lst a]) (mV 2):=ea b (λ_=>rfl) (.lst (xs:=a) (by rw[gC1];exact A));unfold dB;rw[dh];refine choose_W (c:=3) b (by lia) am O (cZ b ao (cZ b ao (cZ b wq ed))) (by lia) (by lia) λx s G3 g E p=>?_;rw[aW,aW]at E p ⊢;exact dm.mpr ⟨x,s,_,O,g.more (by lia),E,p⟩
theorem GN{n:Nat}{o:Ob}{T:Sto}{E d:D}{x3 x4:Option D}(ho:Hnd o n)(hn:n<=2^39)(f:ClT T)(hd:Ok 50 (o::T) d):
  W (fU [Z (.ref 0),Z E,Z d,x3,x4] (o::T)) λp=>p.1 = .nx /\ ∃d' o' G,p.2=([Z (.ref 0),Z E,Z d',x3,x4],o'::(T++G))/\Hnd o' (n+1)/\ClT (T++G)/\Ok 50 (o'::(T++G)) d':=by
 have a:EK 50 [Z (.ref 0),Z E,Z d,x3,x4] o T (mV 2):=ea ho (λ_=>rfl) hd;unfold fU dI;rw[dh];refine choose_W (k:=50) (c:=3) ho (by lia) f O (cZ ho (gp (cZ ho a ed) (by lia) (by lia)) (cZ ho (qu ho (cZ ho a ed) (by lia)) (cZ ho (gp (cZ ho a (cZ ho (eM ho O (by rw[bd])) ed)) (by lia) (by lia)) ed))) (by lia) (by lia) λx o' G b g e=>?_;exact W.of O ⟨O,x,o',G,O,b,g,e⟩
theorem FJ{n:Nat}{o:Ob}{T:Sto}{E:D}{x4:Option D}(ho:Hnd o n)(hn:n<=2^38)(q:ClT T)(s:Ok 50 (o::T) E):
  W (ga (mZ (cX (mC (D.int 30)) cY)) (gN 3) fU [Z (.ref 0),Z E,Z E,Y,x4] (o::T)) λp=>p.1 = .nx /\ ∃d' x3 o' G,p.2=([Z (.ref 0),Z E,Z d',x3,x4],o'::(T++G))/\Hnd o' (n+30)/\ClT (T++G)/\Ok 50 (o'::(T++G)) d':=by
 walk_at"w";refine⟨uA (by decide) (by decide),?_⟩;refine fv (λi r S=>∃d' x3 o' G,i<=30/\r=[Z (.ref 0),Z E,Z d',x3,x4]/\S=o'::(T++G)/\Hnd o' (n+i)/\ClT (T++G)/\Ok 50 (o'::(T++G)) d') _ 0 _ _ ⟨E,Y,o,[],by lia,O,by rw[aK],ho,by rw[aK];exact q,by rw[aK];exact s⟩ (λ_ _ _ _=>rfl) ?_ ?_
 ·rintro i d l r S ⟨d',x3,o',G,hi,rfl,rfl,c,k,b⟩;have a:=(gE1.mp l).1;rw[d0]at a;rw[bI]at *
  have j:i<30:=a;walk_at"w";refine(GN c (by lia) k b).mono ?_;rintro⟨f,p⟩ ⟨h1,m,t,G2,h2,h,g,e⟩;dsimp only at h1 h2;subst h1;rw[h2];rw[aW]at g e;exact⟨O,m,_,t,G++G2,by lia,O,by rw[aW],h,g,e⟩
 ·rintro r S ⟨d',x3,o',G,hi,rfl,rfl,c,k,b⟩;rw[d0,bI]at *
  exact⟨O,d',x3,o',G,O,c,k,b⟩
inductive Pa (k:Nat)(o:Ob)(T:Sto)(y0 y1 y2 y3:Option D)(n:Nat):Ev->Sto->Prop
 |mk (G:Sto) (L:List D) (p:Nat):(T++G)[p]?=some (.lst L)->L.length=n->ClT (T++G)->(∀x∈L,Ok k (o::(T++G)) x)->Pa k o T y0 y1 y2 y3 n [y0,y1,y2,y3,some (.ref (p+1))] (o::(T++G))
section
variable{k n m N:Nat}{r:Ev}{o:Ob}{T:Sto}{a:FA}{S:Sto}{y0 y1 y2 y3:Option D}
theorem ED{x2:Option D}(G:Sto)(b:ClT (T++G))(ho:Hnd o N)(ha:AK k [y0,y1,y2,y3,x2] o T n a)(hn:n<=1000):W (dI (et a) (gN 4) [y0,y1,y2,y3,x2] (o::(T++G))) λp=>p.1 = .nx/\Pa k o T y0 y1 y2 y3 n p.2.1 p.2.2:=by
 unfold dI;rw[dh];refine(mm ha hn G b).mono ?_;rintro p ⟨G1,L,rfl,h1,h2,d⟩;refine W.of O ⟨O,?_⟩;have e:T++(G++G1)++[Ob.lst L]=T++(G++(G1++[Ob.lst L])):=by simp
 dsimp only;show Pa k o T y0 y1 y2 y3 n [y0,y1,y2,y3,Z (.ref ((T++(G++G1)).length+1))] (o::(T++(G++G1)++[Ob.lst L]));rw[e]at h1 ⊢;refine .mk _ L _ ?_ h2 h1 λx c=>?_
 ·rw[<- e,db];rfl
 ·have:=(d x c).on (n:=N) (G:=[Ob.lst L]) ho
  rwa [e]at this
theorem vo(ho:Hnd o N)(ha:∀x2,AK k [y0,y1,y2,y3,x2] o T n a)(hn:n+m<=1000)(h:Pa k o T y0 y1 y2 y3 m r S):W (dI (m2 (b2 dS) (mV 4) (et a)) (gN 4) r S) λp=>p.1 = .nx/\Pa k o T y0 y1 y2 y3 (m+n) p.2.1 p.2.2:=by
 obtain⟨G,L,p,h1,h2,t,l⟩:=h;have d:=(gE1.mp h1).1;unfold dI m2;rw[dh,dh];refine W.of (x:=(.ref (p+1),o::(T++G))) O ?_;rw[dh];refine(mm (ha _) (by lia) G t).mono ?_;rintro q ⟨G1,b,rfl,i,u,s⟩;dsimp only[b2];have g:T++(G++G1)++[Ob.lst b]=(T++G)++(G1++[Ob.lst b]):=by simp
 refine(lW (xs:=L) (ys:=b) ?_ ?_).mpr ⟨dg (by lia),?_⟩
 ·rw[gC1,g,gL1 d];exact h1
 ·rw[ck,gC1,db];rfl
 refine W.of O ⟨O,?_⟩;have j:o::(T++(G++G1)++[Ob.lst b])++[Ob.lst (L++b)]=o::(T++(G++(G1++[Ob.lst b,Ob.lst (L++b)]))):=by simp
 have e:∀x∈L++b,Ok k (o::(T++(G++G1))) x:=λx c=>by
  rcases aE.mp c with z|z
  ·have:=(l x z).on (n:=N) (G:=G1) ho
   rwa [aW]at this
  ·exact s x z
 have hc:ClT (T++(G++(G1++[Ob.lst b,Ob.lst (L++b)]))):=by
  have:=gD (o:=o) i λx c=>(e x c).on (n:=N) (G:=[Ob.lst b]) ho;have f:T++(G++G1)++[Ob.lst b]++[Ob.lst (L++b)]=T++(G++(G1++[Ob.lst b,Ob.lst (L++b)])):=by simp
  rwa [f]at this
 show Pa k o T y0 y1 y2 y3 (m+n) [y0,y1,y2,y3,Z (.ref ((T++(G++G1)++[Ob.lst b]).length+1))] (o::(T++(G++G1)++[Ob.lst b])++[Ob.lst (L++b)]);rw[j];refine .mk _ (L++b) _ ?_ (by rw[lA1,h2,u]) hc λx c=>?_
 ·rw[show T++(G++(G1++[Ob.lst b,Ob.lst (L++b)]))=(T++(G++G1)++[Ob.lst b])++[Ob.lst (L++b)] by simp,db];rfl
 ·have:=(e x c).on (n:=N) (G:=[Ob.lst b,Ob.lst (L++b)]) ho;simpa using this
theorem z9{e:FE}{pre post xs:List D}(ho:Hnd o N)(h:∀S,e r S=Z (.tup (pre++D.ref S.length::post),S++[Ob.lst xs]))(h1:∀x∈pre,Ok k (o::T) x)(h2:∀x∈post,Ok k (o::T) x)(c:∀x∈xs,Ok m (o::T) x)(f:pre.length+1+post.length<=k):EK k r o T e:=λG d=>by
 have a:ClT (T++(G++[Ob.lst xs])):=by
  rw[<- aW];exact gD (k:=m) (o:=o) d λx b=>(c x b).on (n:=N) ho
 refine W.of (h _) ⟨[Ob.lst xs],by simp,a,Ok.tup (by simp;lia) λx b=>?_⟩;rcases aE.mp b with z|z
 ·exact(h1 x z).on (n:=N) ho
 ·rcases aD.mp z with z|z
  ·rw[z];refine .lst (xs:=xs) ?_;rw[lC1,gC1,<- aW,db];rfl
  ·exact(h2 x z).on (n:=N) ho
theorem Aa{i:Nat}{xs:List D}(ho:Hnd o N)(hi:r[i]?=Z (Z (.tup xs)))(hx:∀x∈xs,Ok m (o::T) x):EK k r o T (mN (b1 jr) (cX (mV i) cY)):=λG b=>by
 have e:mN (b1 jr) (cX (mV i) cY) r (o::(T++G))=Z (.ref (T++G).length.succ,o::(T++G++[.lst xs])):=by
  unfold mN cX mV;rw[hi];rfl
 refine W.of e ⟨[.lst xs],by simp,?_,.lst (xs:=xs) ?_⟩
 ·rw[<- aW];exact gD (k:=m) (o:=o) b λx a=>(hx x a).on (n:=N) ho
 ·rw[ck,gC1,<- aW,db];rfl
theorem CZ{i:Nat}{E:D}(hi:r[i]?=Z (Z E))(d:E.und 0=M):EK k r o T (mj [((mC (D.int 0)),(mV i))]):=λG a=>by
 have e:mj [((mC (D.int 0)),(mV i))] r (o::(T++G))=Z (.ref (T++G).length.succ,o::(T++G++[.dct [(Sum.inl 0,E)]])):=by
  have b:∀S,mV i r S=Z (E,S):=λS=>by unfold mV;rw[hi]
  simp only[mj,Cj,mC,b,oS1,oP1,vz,nQ];rfl
 refine W.of e ⟨[.dct [(Sum.inl 0,E)]],by simp,?_,.dct (xs:=[(Sum.inl 0,E)]) ?_⟩
 ·rw[<- aW];refine ux a λx c=>?_;rw[cD.mp c,Ob.und];show D.unds _ [E]=M;rw[D.unds,ju d];rfl
 ·rw[ck,gC1,<- aW,db];rfl
end
theorem uD{r:Ev}{e f:FE}{xs ys:List D}(ha:∀S,e r S=Z (.tup xs,S))(hb:∀S,f r S=Z (.tup ys,S))(a:xs.length+ys.length<=1000):∀S,m2 (b2 dS) e f r S=Z (.tup (xs++ys),S):=λS=>by
 unfold m2;rw[ha,oS1,hb,oS1];show(if xs.length+ys.length<=cQ then _ else _)=_;rw[ak (aB a (by decide))]
theorem vm{xs:List D}{c:Nat}{S:Sto}(d:xs.isEmpty=J)(b:2<=c)(hc:c<=10)(a:xs.length<=100):kj (.tup xs) (.int (c:Nat)) S=Z (.tup (aM c xs).flatten,S):=by
 show(if _ then _ else _)=_;rw[ak ⟨by lia,by lia,d,by rw[Int.toNat_natCast];exact aB (Nat.mul_le_mul a hc) (show 100*10<=cQ by decide)⟩,Int.toNat_natCast]
section
variable{fx ey:List D}{h s a b c dd:D}{o:Ob}{N:Nat}{T:Sto}{x3 x4:Option D}
abbrev rA(fx ey:List D)(h s a b c dd:D)(x3 x4:Option D):Ev:=[Z (.ref 0),Z (.tup [.tup fx,.tup ey,h,s,a,b,c]),Z dd,x3,x4]
structure sZ (fx ey:List D)(h s a b c:D):Prop where
 u:∀x∈[D.tup fx,D.tup ey,h,s,a,b,c],x.und 0=true/\bd 50 x=true
 f0:fx.isEmpty=false
 f6:fx.length<=6
theorem sZ.ok(p:sZ fx ey h s a b c){S:Sto}:∀x∈[D.tup fx,D.tup ey,h,s,a,b,c],Ok 50 S x:=λx d=>.shut (p.u x d).1 (p.u x d).2
theorem sZ.all(p:sZ fx ey h s a b c){S:Sto}:Ok 50 S (.tup [.tup fx,.tup ey,h,s,a,b,c]):=.tup (by simp) p.ok
theorem sZ.und(p:sZ fx ey h s a b c):(D.tup [.tup fx,.tup ey,h,s,a,b,c]).und 0=M:=by
 rw[D.und,ic,bA];exact λx d=>(p.u x d).1
theorem sZ.sub(p:sZ fx ey h s a b c){S:Sto}{xs:List D}(d:xs.length<=50)(hx:∀x∈xs,x∈[D.tup fx,D.tup ey,h,s,a,b,c]\/Ok 50 S x):Ok 50 S (.tup xs):=.tup d λx e=>(hx x e).elim (p.ok x) id
theorem LG(p:sZ fx ey h s a b c)(ho:Hnd o N)(hd:Ok 50 (o::T) dd):AK 50 (rA fx ey h s a b c dd x3 x4) o T 11 (cX (mV 2) (cX (dz (cX (mV 1) cY)) (cX (et (cX (mV 1) cY)) (cX (mN (b1 jr) (cX (mV 1) cY)) (cX (m2 (b2 dS) (mV 1) (dz (cX (mC (D.int 0)) cY))) (cX (fQ (mV 1) eF (eE (mC (D.int 6)))) (cX (fQ (mV 1) (eE (mC (D.int 1))) eF) (cX (mj [((mC (D.int 0)),(mV 1))]) (cX (mC D.non) (cX (mC (D.int 0)) (cX (mC (D.str "")) cY))))))))))):=by
 have f:EK 50 (rA fx ey h s a b c dd x3 x4) o T (mV 1):=ea ho (λ_=>rfl) p.all;have g:∀{S:Sto} (i:Int),Ok 50 S (.int i):=λi=>.shut O (by rw[bd]);refine cZ ho (ea ho (λ_=>rfl) hd) (cZ ho (gp (cZ ho f ed) (by lia) (by lia)) (cZ ho (qu ho (cZ ho f ed) (by lia)) (cZ ho (Aa ho O p.ok) (cZ ho (ea ho (uD (xs:=[.tup fx,.tup ey,h,s,a,b,c]) (ys:=[.int 0]) (λ_=>rfl) (λ_=>rfl) (by simp)) (p.sub (by simp) λx e=>?_)) (cZ ho (ea (d:=.tup [.tup fx,.tup ey,h,s,a,b]) ho (λ_=>rfl) (p.sub (by simp) λx e=>.inl (by simp at e ⊢;grind))) (cZ ho (ea (d:=.tup [.tup ey,h,s,a,b,c]) ho (λ_=>rfl) (p.sub (by simp) λx e=>.inl (by simp at e ⊢;grind))) (cZ ho (CZ O p.und) (cZ ho (eM ho O (by rw[bd])) (cZ ho (eM ho O (by rw[bd])) (cZ ho (eM ho O (by rw[bd])) ed))))))))));rcases aE.mp e with z|z
 ·exact .inl z
 ·rw[cD.mp z];exact .inr (g 0)
end
section
variable{fx ey:List D}{h s a b c dd:D}{o:Ob}{N:Nat}{T:Sto}{x3 x4:Option D}{be:Int}
theorem sZ.tail(p:sZ fx ey h s a b c){S:Sto}{y:D}(hy:Ok 50 S y):Ok 50 S (.tup (y::[.tup ey,h,s,a,b,c])):=p.sub (by simp) λx d=>by
 rcases aD.mp d with z|z
 ·rw[z];exact .inr hy
 ·exact .inl (by simp at z ⊢;grind)
theorem cutT'(xs:List D)(k:Nat):Mi.oI xs Y (Z (k:Int))=xs.take k:=by
 unfold Mi.oI;rw[HT.yd,HT.Bk,List.drop_zero,Nat.sub_zero];by_cases h:k<=xs.length
 ·rw[Nat.min_eq_left h]
 ·rw[Nat.min_eq_right (by lia),bR,bW (by lia)]
theorem mR{e:FE}{y:D}(he:∀S,e (rA fx ey h s a b c dd x3 x4) S=Z (y,S)):∀S,m2 (b2 dS) (dz (cX e cY)) (fQ (mV 1) (eE (mC (D.int 1))) eF) (rA fx ey h s a b c dd x3 x4) S=Z (.tup (y::[.tup ey,h,s,a,b,c]),S):=
 uD (xs:=[y]) (ys:=[.tup ey,h,s,a,b,c]) (λS=>by unfold dz cX;rw[he];rfl) (λ_=>rfl) (by simp)
theorem yh{k c:Nat}{xs:List D}{S:Sto}(a:c*xs.length<=k)(hx:∀x∈xs,Ok k S x):Ok k S (.tup (aM c xs).flatten):=.tup (by rw[lc];exact a) λx b=>hx x (qi b)
theorem LF(p:sZ fx ey h s a b c)(ho:Hnd o N):AK 50 (rA fx ey h s a b c dd x3 x4) o T 4 (cX (m2 (b2 dS) (dz (cX (mN (b1 jr) (cX (m2 (b2 de) (mV 1) (mC (D.int 0))) cY)) cY)) (fQ (mV 1) (eE (mC (D.int 1))) eF)) (cX (m2 (b2 dS) (dz (cX (m2 (b2 de) (m2 (b2 de) (mV 1) (mC (D.int 0))) (mC (D.int 0))) cY)) (fQ (mV 1) (eE (mC (D.int 1))) eF)) (cX (vp (mV 1) (m1 (b1 lO) (mC (D.int 1)))) (cX (m2 (b2 dS) (dz (cX (dz cY) cY)) (fQ (mV 1) (eE (mC (D.int 1))) eF)) cY)))):=by
 have j:∀{S:Sto},∀x∈fx,Ok 50 S x:=λx f=>(p.ok (.tup fx) (by simp)).of.2 x f;obtain⟨e,fr,rfl⟩:∃e fr,fx=e::fr:=by
  have:=p.f0;cases fx with
  |nil=>cases this
  |cons e fr=>exact⟨e,fr,O⟩
 have g:∀S,m2 (b2 de) (m2 (b2 de) (mV 1) (mC (D.int 0))) (mC (D.int 0)) (rA (e::fr) ey h s a b c dd x3 x4) S=Z (e,S):=λS=>by
  show de (.tup (e::fr)) (.int 0) S=_;exact ix_tup (i:=0) O
 refine cZ ho (z9 (m:=50) (pre:=[]) (post:=[.tup ey,h,s,a,b,c]) (xs:=e::fr) ho (λ_=>rfl) (λx f=>by cases f) (λx f=>p.ok x (by simp at f ⊢;grind)) j (by simp)) (cZ ho (ea ho (mR (y:=e) g) (p.tail (j e (by simp)))) (cZ ho (ea (d:=.tup [c,b,a,s,h,.tup ey,.tup (e::fr)]) ho (λ_=>rfl) (p.sub (by simp) λx f=>.inl (by simp at f ⊢;grind))) (cZ ho (ea ho (mR (y:=.tup []) λ_=>rfl) (p.tail (.tup (by simp) λx f=>by cases f))) ed)))
theorem LD(p:sZ fx ey h s a b (.int be))(ho:Hnd o N):AK 50 (rA fx ey h s a b (.int be) dd x3 x4) o T 3 (cX (m2 (b2 dS) (dz (cX (m2 (b2 kj) (m2 (b2 de) (mV 1) (mC (D.int 0))) (mC (D.int 7))) cY)) (fQ (mV 1) (eE (mC (D.int 1))) eF)) (cX (m2 (b2 dS) (dz (cX (m2 (b2 kj) (fQ (m2 (b2 de) (mV 1) (mC (D.int 0))) eF (eE (mC (D.int 1)))) (mC (D.int 6))) cY)) (fQ (mV 1) (eE (mC (D.int 1))) eF)) (cX (m2 (b2 dS) (fQ (mV 1) eF (eE (mC (D.int 6)))) (dz (cX (m2 (b2 gEq) (m2 (b2 de) (mV 1) (mC (D.int 6))) (mC (D.int 1))) cY))) cY))):=by
 have g:∀{S:Sto},∀x∈fx,Ok 50 S x:=λx e=>(p.ok (.tup fx) (by simp)).of.2 x e;have l:=p.f6;have f:=p.f0;have j:∀S,m2 (b2 kj) (m2 (b2 de) (mV 1) (mC (D.int 0))) (mC (D.int 7)) (rA fx ey h s a b (.int be) dd x3 x4) S=Z (.tup (aM 7 fx).flatten,S):=λS=>vm (c:=7) (S:=S) f (by lia) (by lia) (by lia);obtain⟨d,fr,rfl⟩:∃d fr,fx=d::fr:=by
  cases fx with
  |nil=>cases f
  |cons d fr=>exact⟨d,fr,O⟩
 have k:Mi.oI (d::fr) Y (Z 1)=[d]:=by
  have:=cutT' (d::fr) 1;simpa using this
 have i:∀S,m2 (b2 kj) (fQ (m2 (b2 de) (mV 1) (mC (D.int 0))) eF (eE (mC (D.int 1)))) (mC (D.int 6)) (rA (d::fr) ey h s a b (.int be) dd x3 x4) S=Z (.tup (aM 6 [d]).flatten,S):=λS=>by
  show kj (.tup (Mi.oI (d::fr) Y (Z 1))) (.int 6) S=_;rw[k];exact vm (c:=6) (S:=S) O (by lia) (by lia) (by simp)
 refine cZ ho (ea ho (mR j) (p.tail (yh (by lia) g))) (cZ ho (ea ho (mR i) (p.tail (yh (by simp) λx e=>by rw[cD.mp e];exact g d (by simp)))) (cZ ho (ea ho (uD (xs:=[.tup (d::fr),.tup ey,h,s,a,b]) (ys:=[.bl (be == 1)]) (λ_=>rfl) (λ_=>rfl) (by simp)) (p.sub (by simp) λx e=>?_)) ed));rcases aE.mp e with z|z
 ·exact .inl (by simp at z ⊢;grind)
 ·rw[cD.mp z];exact .inr (.shut O (by rw[bd]))
theorem LC(p:sZ fx ey h s a b c)(ho:Hnd o N):AK 50 (rA fx ey h s a b c dd x3 x4) o T 2 (cX (m2 (b2 dS) (m2 (b2 dS) (fQ (mV 1) eF (eE (mC (D.int 4)))) (dz (cX (mC (D.bl M)) cY))) (fQ (mV 1) (eE (mC (D.int 5))) eF)) (cX (m2 (b2 dS) (m2 (b2 dS) (fQ (mV 1) eF (eE (mC (D.int 1)))) (dz (cX (mN (b1 jr) (cX (m2 (b2 de) (mV 1) (mC (D.int 1))) cY)) cY))) (fQ (mV 1) (eE (mC (D.int 2))) eF)) cY)):=by
 have f:∀{S:Sto},∀x∈ey,Ok 50 S x:=λx e=>(p.ok (.tup ey) (by simp)).of.2 x e;refine cZ ho (ea (d:=.tup [.tup fx,.tup ey,h,s,.bl M,b,c]) ho (λ_=>rfl) (p.sub (by simp) λx e=>?_)) (cZ ho (z9 (m:=50) (pre:=[.tup fx]) (post:=[h,s,a,b,c]) (xs:=ey) ho (λ_=>rfl) (λx e=>p.ok x (by simp at e ⊢;grind)) (λx e=>p.ok x (by simp at e ⊢;grind)) f (by simp)) ed);by_cases z:x = .bl M
 ·rw[z];exact .inr (.shut O (by rw[bd]))
 ·exact .inl (by simp at e ⊢;grind)
end
inductive Lt (n c:Nat)(T:Sto):D×Sto->Prop
 |mk (o:Ob) (G:Sto) (L:List D) (q:Nat):Hnd o n->ClT (T++G)->T.length<=q->(T++G)[q]?=some (.lst L)->L.length=c->(∀x∈L,Ok 50 (o::(T++G)) x)->Lt n c T (.ref (q+1),o::(T++G))
theorem callL{m n c:Nat}{f:FN}{ds:List D}{o:Ob}{T:Sto}(hn:ds.length=m)(e:D.unds 0 ds=J)(h:W (f ds (o::T)) (Lt n c T)):W (c9 m f ds (o::T)) (Lt n c T):=by
 refine sI hn e (h.mono ?_);rintro p ⟨o',G,L,q,h1,h2,i,g,b,d⟩;unfold gc;split
 ·rename_i a;rw[bA1]at a;have:=a.1;rw[D.und,al,lC1]at this;lia
 ·exact .mk o' G L q h1 h2 i g b d
theorem AC{n:Nat}{o:Ob}{T:Sto}{fx ey:List D}{h s a b:D}{be:Int}(ho:Hnd o n)(hn:n<=2^37)(K:ClT T)(p:sZ fx ey h s a b (.int be)):W (c9 2 fP [.ref 0,.tup [.tup fx,.tup ey,h,s,a,b,.int be]] (o::T)) (Lt (n+30) 27 T):=by
 refine callL O (by rw[D.unds,D.und];simp) ?_;unfold fP;refine io ?_;unfold kw;refine eg (λr S=>S=o::T/\r=[Z (.ref 0),Z (.tup [.tup fx,.tup ey,h,s,a,b,.int be]),Z (.tup [.tup fx,.tup ey,h,s,a,b,.int be]),Y,Y]) ?_ ?_
 ·walk_at"w"
 rintro r S ⟨rfl,rfl⟩;refine eg (λr S=>∃m x3 o' G,r=rA fx ey h s a b (.int be) m x3 Y/\S=o'::(T++G)/\Hnd o' (n+30)/\ClT (T++G)/\Ok 50 (o'::(T++G)) m) ?_ ?_
 ·refine(FJ ho (by lia) K p.all).mono ?_;rintro⟨f,p⟩ ⟨h1,m,x3,o',G,h2,C,am,u⟩;dsimp only at h1 h2;subst h1;rw[h2];exact⟨O,m,x3,o',G,O,O,C,am,u⟩
 rintro r S ⟨m,x3,i,d,rfl,rfl,e,E,u⟩;refine eg (Pa 50 i (T++d) (Z (.ref 0)) (Z (.tup [.tup fx,.tup ey,h,s,a,b,.int be])) (Z m) x3 11) ?_ ?_
 ·have:=ED (k:=50) (x2:=Y) (y0:=Z (.ref 0)) (y1:=Z (.tup [.tup fx,.tup ey,h,s,a,b,.int be])) (y2:=Z m) (y3:=x3) [] (by rw[aK];exact E) e (LG p e u) (by lia);rw[aK]at this;exact this
 intro r S F;refine eg (Pa 50 i (T++d) (Z (.ref 0)) (Z (.tup [.tup fx,.tup ey,h,s,a,b,.int be])) (Z m) x3 15) (vo e (λ_=>LF p e) (by lia) F) ?_;intro r S F;refine eg (Pa 50 i (T++d) (Z (.ref 0)) (Z (.tup [.tup fx,.tup ey,h,s,a,b,.int be])) (Z m) x3 18) (vo e (λ_=>LD p e) (by lia) F) ?_;rintro r S ⟨G,L,q,h1,h2,N,R⟩;have H:=(gE1.mp h1).1;unfold dB;rw[dh];refine xb ?_;refine xb ?_;refine W.of (x:=(.ref (q+1),i::(T++d++G))) O ?_;refine W.of (x:=(.ref (i::(T++d++G)).length,(i::(T++d++G))++[.lst [.tup fx,.tup ey,h,s,a,b,.int be]])) O ?_;dsimp only[b2];refine(lW (xs:=L) (ys:=[.tup fx,.tup ey,h,s,a,b,.int be]) ?_ (by rw[db];rfl)).mpr ⟨dg (by simp;lia),?_⟩
 ·rw[bm,gC1,gL1 H];exact h1
 generalize A:[D.tup fx,D.tup ey,h,s,a,b,D.int be]=c;have v:∀{S:Sto},∀x∈c,Ok 50 S x:=λx j=>p.ok x (by rw[A];exact j);have U:c.length=7:=by rw[<- A];rfl
 have w:∀x∈L++c,Ok 50 (i::(T++d++G)) x:=λx j=>(aE.mp j).elim (R x) (v x);have P:ClT (T++d++G++[Ob.lst c]):=gD (o:=i) N λx j=>v x j;have Q:ClT (T++d++(G++[Ob.lst c,Ob.lst (L++c)])):=by
  have:=gD (o:=i) P (L:=L++c) λx j=>(w x j).on (n:=n+30) e
  rwa [show T++d++G++[Ob.lst c]++[Ob.lst (L++c)]=T++d++(G++[Ob.lst c,Ob.lst (L++c)]) by simp]at this
 have V:(i::(T++d++G)++[Ob.lst c])++[Ob.lst (L++c)]=i::(T++d++(G++[Ob.lst c,Ob.lst (L++c)])):=by simp
 dsimp only;rw[V];have l:=LC (dd:=m) (x3:=x3) (x4:=Z (.ref (q+1))) (T:=T++d) p e;unfold rA at l;rw[A]at l;refine(mm l (by lia) _ Q).mono ?_;rintro z ⟨G1,g,rfl,ao,X,I⟩;dsimp only;have B:T++d++(G++[Ob.lst c,Ob.lst (L++c)]++G1)++[Ob.lst g]=(T++d++G++[Ob.lst c])++(Ob.lst (L++c)::(G1++[Ob.lst g])):=by simp
 refine(lW (xs:=L++c) (ys:=g) ?_ ?_).mpr ⟨dg (by simp;lia),?_⟩
 ·rw[show(i::(T++d++G)++[Ob.lst c]).length=(T++d++G++[Ob.lst c]).length+1 by simp,gC1,B,db];rfl
 ·rw[ck,gC1,db];rfl
 refine dm.mpr ?_;have t:∀x∈L++c++g,Ok 50 (i::(T++d++(G++[Ob.lst c,Ob.lst (L++c)]++G1))) x:=λx j=>by
  rcases aE.mp j with z|z
  ·have:=(w x z).on (n:=n+30) (G:=[Ob.lst c,Ob.lst (L++c)]++G1) e
   rwa [show T++d++G++([Ob.lst c,Ob.lst (L++c)]++G1)=T++d++(G++[Ob.lst c,Ob.lst (L++c)]++G1) by simp]at this
  ·exact I x z
 have c3:=gD (o:=i) ao (L:=L++c++g) λx j=>(t x j).on (n:=n+30) e;have ar:i::(T++d++(G++[Ob.lst c,Ob.lst (L++c)]++G1)++[Ob.lst g])++[Ob.lst (L++c++g)]=i::(T++(d++(G++[Ob.lst c,Ob.lst (L++c)]++G1)++[Ob.lst g]++[Ob.lst (L++c++g)])):=by simp
 have y:T++d++(G++[Ob.lst c,Ob.lst (L++c)]++G1)++[Ob.lst g]++[Ob.lst (L++c++g)]=T++(d++(G++[Ob.lst c,Ob.lst (L++c)]++G1)++[Ob.lst g]++[Ob.lst (L++c++g)]):=by simp
 rw[ar];rw[show(i::(T++d++(G++[Ob.lst c,Ob.lst (L++c)]++G1)++[Ob.lst g])).length=(T++d++(G++[Ob.lst c,Ob.lst (L++c)]++G1)++[Ob.lst g]).length+1 from rfl];refine .mk _ _ (L++c++g) _ e (by rw[<- y];exact c3) (by first|(simp;done)|(simp;lia)) (by rw[<- y,db];rfl) (by simp;lia) λx j=>?_;have:=(t x j).on (n:=n+30) (G:=[Ob.lst g]++[Ob.lst (L++c++g)]) e
 rwa [<- aW,y]at this
theorem GS{ns:List Int}{j:Int}{S:Sto}{Q:D×Sto->Prop}(d:0<=j)(q:∀x:Int,Q (.int x,S)):W (c9 2 e3 [.rol (ns.map D.int),.int j] S) Q:=by
 refine jK O (by rw[D.unds,D.und,jQ];rfl) ?_;unfold e3
 refine io ?_;unfold jM
 walk_at"w";have c:((ns.map D.int).length:Int)=(ns.length:Int):=by simp
 rw[c];split
 ·rename_i a;rw [decide_eq_true_eq] at a;have b:pE (ns.map D.int) j=some (.int (ns[j.toNat]'(by omega))):=by
   unfold pE sX;rw[ak d,ak (by simpa using a)];simp[show j.toNat<ns.length by omega]
  refine W.of (x:=(.int (ns[j.toNat]'(by omega)),[])) ?_ ?_
  ·simp only[de,mK,xi,dj,oS1,b,oP1]
  ·exact⟨O,q _⟩
 ·exact⟨O,q _⟩
theorem v2{i j:Int}{S:Sto}{Q:D×Sto->Prop}(h:gh i j=M)(q:Q (.int (i*j),S)):W (gB (.int i) (.int j) S) Q:=by
 refine W.of ?_ q;simp only[gB];rw[ak h]
theorem v3{i j:Int}{S:Sto}{Q:D×Sto->Prop}(h:0<j)(q:Q (.int (i%j),S)):W (jZ (.int i) (.int j) S) Q:=by
 refine W.of ?_ q;simp only[jZ];rw[ak h]
theorem IZ{i:Int}{n:Nat}{S:Sto}{Q:D×Sto->Prop}(h:i.natAbs<2^64)(hn:n<=1000)(q:Q (.int (i^n),S)):W (gA (.int i) (.int (n:Nat)) S) Q:=by
 refine W.of ?_ q;simp only[gA];rw[ak ⟨by omega,by omega,h⟩,Int.toNat_natCast]
theorem Dd{S:Sto}{r:Ev}{Q:D×Sto->Prop}(q:∀ b:Int,0<b->Q (.int b,S)):
  W ((m2 (b2 gB) (m2 (b2 gB) (m2 (b2 gB) (m2 (b2 gB) (m2 (b2 gB) (m2 (b2 gA) (mC (D.int (10))) (mC (D.int (60)))) (m2 (b2 gA) (mC (D.int (10))) (mC (D.int (60))))) (m2 (b2 gA) (mC (D.int (10))) (mC (D.int (60))))) (m2 (b2 gA) (mC (D.int (10))) (mC (D.int (60))))) (m2 (b2 gA) (mC (D.int (10))) (mC (D.int (60))))) (m2 (b2 gA) (mC (D.int (10))) (mC (D.int (60))))) r S) Q:=by
 have a:(m2 (b2 gB) (m2 (b2 gB) (m2 (b2 gB) (m2 (b2 gB) (m2 (b2 gB) (m2 (b2 gA) (mC (D.int (10))) (mC (D.int (60)))) (m2 (b2 gA) (mC (D.int (10))) (mC (D.int (60))))) (m2 (b2 gA) (mC (D.int (10))) (mC (D.int (60))))) (m2 (b2 gA) (mC (D.int (10))) (mC (D.int (60))))) (m2 (b2 gA) (mC (D.int (10))) (mC (D.int (60))))) (m2 (b2 gA) (mC (D.int (10))) (mC (D.int (60))))) r S=Z (.int (10^60*10^60*10^60*10^60*10^60*10^60),S):=by kernel_rfl!
 exact W.of a (q _ (by decide+kernel))
theorem Gk(ns:List Int)(k:Nat)(hk:k<63):W (c9 2 fY [.rol (ns.map D.int),.int (k:Nat)] []) λp=>p.1 = .ref 0 /\ ∃o,p.2=[o]/\Hnd o 0:=by
 have a:W (fY [.rol (ns.map D.int),.int (k:Nat)] []) λp=>p.1 = .ref 0 /\ ∃g m:Int,p.2=[hnd g m 0]/\0<=m/\m<2147483647:=by
  unfold fY;refine io ?_;unfold mD;have hc:∀(j:Int) (S:Sto) (Q:D×Sto->Prop),0<=j->(∀x:Int,Q (.int x,S))->W (c9 2 e3 [.rol (ns.map D.int),.int j] S) Q:=λj S Q h q=>GS h q;have c:∀S,dX (.rol (ns.map D.int)) S=Z (.int ns.length,S):=λS=>by simp[dX,dj]
  generalize D.rol (ns.map D.int)=N at *
  refine eg (λr S=>∃x:Int,S=[]/\r=[Z N,Z (.int (k:Nat)),Z (.int x),Y,Y]) ?_ ?_
  ·((try walk_at"w");repeat(simp only[c,sr];try walk_at"w"))
   refine v3 (by split<;>omega) ?_;refine hc _ _ _ (Int.emod_nonneg _ (by split<;>omega)) λx=>?_;exact⟨x,O,O⟩
  rintro r S ⟨x,rfl,rfl⟩;refine eg (λr S=>∃m:Int,0<=m/\m<2147483647/\S=[]/\r=[Z N,Z (.int (k:Nat)),Z (.int x),Z (.int m),Y]) ?_ ?_
  ·walk_at"w";refine v3 (by decide) ?_;refine v2 (yY (by decide) (by decide)) ?_;refine v2 (vn (by omega) (by omega)) ?_;walk_at"w";refine v2 (vn (by decide) (by decide)) ?_;refine v3 (by decide) ?_;exact⟨_,Int.emod_nonneg _ (by decide),Int.emod_lt_of_pos _ (by decide),O,O⟩
  rintro r S ⟨m,f,m1,rfl,rfl⟩;refine eg (λr S=>∃b:Int,0<b/\S=[]/\r=[Z N,Z (.int (k:Nat)),Z (.int x),Z (.int m),Z (.int b)]) ?_ ?_
  ·rw[dI,dh];refine Dd λb l=>?_;walk_at"w";exact⟨b,l,O⟩
  rintro r S ⟨b,l,rfl,rfl⟩;walk_at"w";refine v3 l ?_;refine IZ (i:=10) (n:=18) (by decide) (by decide) ?_;walk_at"w";refine v2 (vn (by split<;>decide) (by split<;>decide)) ?_;walk_at"w";exact⟨_,m,O,f,m1⟩
 obtain⟨⟨d,S⟩,e,s,g,m,t,f,m1⟩:=a;dsimp only at s t;subst s;subst t;refine W.of (sH (n:=2) e O (by rw[D.unds,D.und,jQ];rfl) (by simp[D.und])) ?_;refine⟨by rw[D.sh];rfl,hnd g m 0,by simp[hnd,Ob.sh,D.shs,D.sh],g,m,0,O,f,m1,by omega,by omega⟩
theorem kI{k:Nat}{xs:List D}(a:xs.length<=k)(h:∀x∈xs,bd k x=M):bd k (.tup xs)=M:=by
 rw[bd,og,ah a,bA.mpr h];rfl
theorem DY{ns:List Nat}(h:ns.length<=50):bd 50 (.tup (nmD ns))=M:=kI (by rw[eQ];exact h) λx a=>by
 obtain⟨i,_,rfl⟩:=bZ.mp a;rw[bd]
theorem IT{w:dU}(h:w.length<=50)(hr:∀a∈w,a.length<=50):bd 50 (dW w)=M:=kI (by rw[lM1];exact h) λx b=>by
 obtain⟨a,c,rfl⟩:=bZ.mp b;refine kI (by rw[lM1];exact hr a c) λy d=>?_;obtain⟨p,_,rfl⟩:=bZ.mp d;rfl
theorem IS{x:AQ}(h:Jw x):bd 50 (fD x)=M:=by
 obtain⟨f,h1,h2,i,g⟩:=h;refine kI (by simp) λy c=>?_;rcases aD.mp c with e|e
 ·rw[e];exact IT (by lia) λa d=>by have:=h2 a d;lia
 ·rw[cD.mp e];refine kI (by simp) λz b=>?_;rcases aD.mp b with e|e
  ·rw[e];exact DY (by lia)
  ·rw[cD.mp e];exact DY (by lia)
theorem xr{ws ys:List D}(hw:∀w∈ws,w.und 0=M/\bd 50 w=M)(h:∀y∈ys,y∈ws)(b:ys.length<=50):(D.tup ys).und 0=M/\bd 50 (.tup ys)=M:=
 ⟨by rw[D.und,ic,bA];exact λy a=>(hw y (h y a)).1,kI b λy a=>(hw y (h y a)).2⟩
theorem Kw.prt{fs:List AQ}{ey hs d:List D}{c ch be:Nat}(x:Kw fs ey hs d c ch be):sZ (fs.map fD) ey (.tup hs) (.tup d) (.int (c:Nat)) (.int (ch:Nat)) (.int (be:Nat)):=by
 have h:=x.el;have j:=x.hl;have k:=x.sl;have i:=x.f6;refine⟨λy g=>?_,?_,by rw[lM1];exact i⟩
 ·simp only[aD,cC,or_false]at g;rcases g with e|e|e|e|e|e|e<;>rw[e]
  ·refine⟨?_,kI (by rw[lM1];lia) λz b=>?_⟩
   ·rw[D.und,ic,bA];intro z b;obtain⟨w,_,rfl⟩:=bZ.mp b;exact uq 0 w
   ·obtain⟨w,a,rfl⟩:=bZ.mp b;exact IS (x.f w a)
  ·exact xr (ws:=wEy) (by unfold wEy;intro w a;simp only[aD,cC,or_false]at a;rcases a with e|e|e|e<;>rw[e]<;>exact⟨O,by rw[bd]⟩) x.e (by lia)
  ·exact xr (ws:=wHa) (by unfold wHa;intro w a;simp only[aD,cC,or_false]at a;rcases a with e|e|e<;>rw[e]<;>exact⟨O,by rw[bd]⟩) x.h (by lia)
  ·exact xr (ws:=wSt) (by unfold wSt;intro w a;simp only[aD,cC,or_false]at a;rcases a with e|e|e|e|e<;>rw[e]<;>exact⟨O,by rw[bd]⟩) x.s (by lia)
  ·exact⟨O,by rw[bd]⟩
  ·exact⟨O,by rw[bd]⟩
  ·exact⟨O,by rw[bd]⟩
 ·have:=x.f0;cases fs with
  |nil=>cases this
  |cons f fs=>rfl
theorem Ik{b:Bool}{S:Sto}:gNe (.bl b) (.bl b) S=Z (.bl J,S):=by cases b<;>rfl
theorem IC{b:Bool}{S:Sto}:i3 S .bool (.bl b)=Z M:=rfl
theorem Gh{N k h d:D}{x4 a:Option D}{S:Sto}(b:d5 S)(hd:Ok 50 S d):W (pY [Z N,Z k,Z h,Z d,x4,a] S) λp=>p.1 = .nx/\p.2.2=S /\ ∃x4 a,p.2.1=[Z N,Z k,Z h,Z d,x4,a]:=by
 unfold pY;walk_at"w";refine⟨O,?_⟩;refine fv (λ_ r V=>V=S /\ ∃x4 a,r=[Z N,Z k,Z h,Z d,x4,a]) _ 0 _ _ ⟨O,_,_,O⟩ (λ_ _ _ _=>rfl) ?_ ?_
 ·rintro i z c r V ⟨rfl,x4,a,rfl⟩;unfold va;walk_at"w";refine wQ b hd.v hd.b ?_
  ((try walk_at"w");repeat(simp only[d3,IC];try walk_at"w"))
  refine se b hd.v hd.u hd.b ?_
  ((try walk_at"w");repeat(simp only[Ik];try walk_at"w"))
  exact⟨_,_,O⟩
 ·rintro r V ⟨rfl,x4,a,rfl⟩;exact⟨O,O,_,_,O⟩
theorem Ek(ns:List Int)(k:Nat)(hk:k<63):W (pX [Z (.rol (ns.map D.int)),Z (.int (k:Nat)),Y,Y,Y,Y] []) λp=>p.1 = .nx /\ ∃Q,p.2.1=Z (.rol (ns.map D.int))::Q/\Q.length=5:=by
 have v:=Gk ns k hk;generalize hN:D.rol (ns.map D.int)=N at *
 unfold pX;refine eg (λr S=>∃o,Hnd o 0/\S=[o]/\r=[Z N,Z (.int (k:Nat)),Z (.ref 0),Y,Y,Y]) ?_ ?_
 ·walk_at"w";refine v.mono λp aq=>?_;obtain⟨h1,o,h2,ao⟩:=aq;rw[h1];exact⟨o,ao,h2,O⟩
 rintro r S ⟨o,U,rfl,rfl⟩;have s0:HZ 0 [o] [o]:=⟨by simp,by simp,λi h1 h2=>rfl,⟨o,O,U⟩,by unfold d5;simp[U.und]⟩;walk_at"w";refine zX (km:=4) s0 (by decide) (by decide) (by decide) λfs ey hs ss mo ch be V x a a' l=>?_;obtain⟨o',rfl⟩:∃o',V=[o']:=by
  match V,l with
  |[o'],_=>exact⟨o',O⟩
 have E:Hnd o' (0+2000):=by
  obtain⟨o2,e2,h2⟩:=a.hand;cases e2;exact h2
 unfold eD;refine(AC E (by decide) O x.prt).mono ?_;rintro p ⟨o1,G1,L,q,ar,X,-,am,g2,B⟩;rw[a0]at X am B ⊢;walk_at"w";have hq:=(gE1.mp am).1;refine⟨O,?_⟩;rw[show(Int.toNat 6)=6 from rfl];refine ik (λi j r S=>∃e G x,S=e::(G1++G)/\Hnd e (2030+i*(2*9^3))/\ClT (G1++G)/\i<=6/\j.length=i/\(∀x∈j,Ok 50 (e::(G1++G)) x)/\r=[x,Z (.ref 0)]) (iL 0 6) 0 [] _ _ ⟨o1,[],Y,by rw[aK],by simpa using ar,by rw[aK];exact X,by lia,O,λx hx=>(by cases hx),O⟩ (λ_ _ _ _ _=>rfl) ?_ ?_
 ·rintro i d H j r S ⟨e,G,x,rfl,b,C,hi,g,c,rfl⟩;have u:=(gE1.mp H).1;rw[d0]at u;rw[bI]at *
  walk_at"w";refine IV 3 (fuel:=8) (by lia) (by lia) b (by lia) C λy o4 P s m T=>?_;rw[aW]at m T ⊢;refine⟨o4,G++P,_,O,s.more (by rw[Nat.add_mul];lia),m,by lia,by simp[g],λz t=>?_,O⟩;rcases aE.mp t with h|h
  ·have:=(c z h).on (n:=0) (G:=P) s
   rwa [aW]at this
  ·rw[cD.mp h];exact T
 ·rintro xs r S ⟨e,G,x,rfl,b,C,hi,g,c,rfl⟩;rw[a0]at g c;have R:xs.length<=6:=by rw[g];exact hi
  refine⟨dg (by lia),?_⟩
  try walk_at"w"
  have cA:ClT (G1++G++[Ob.lst xs]):=gD (o:=e) C c;have cB:ClT (G1++G++[Ob.lst xs]++[Ob.lst (L++xs)]):=gD (k:=50) (o:=e) cA λz t=>by
   rcases aE.mp t with h|h
   ·have:=(B z h).on (n:=0) (G:=G++[Ob.lst xs]) b
    rwa [<- aW]at this
   ·exact(c z h).on (n:=0) b
  rw[<- aW G1 G];refine(lW (xs:=L) (ys:=xs) ?_ ?_).mpr ⟨dg (by lia),?_⟩
  ·rw[gC1,aW,gL1 hq];exact am
  ·rw[gC1,<- lA1,db];rfl
  refine eI (xs:=L++xs) ?_ ?_
  ·rw[db];rfl
  have hS:=u0 b cB;have K:∀z∈L++xs,Ok 50 (e::(G1++G++[Ob.lst xs]++[Ob.lst (L++xs)])) z:=λz t=>by
   rcases aE.mp t with h|h
   ·have:=(B z h).on (n:=0) (G:=G++[Ob.lst xs]++[Ob.lst (L++xs)]) b;simpa using this
   ·have:=(c z h).on (n:=0) (G:=[Ob.lst xs]++[Ob.lst (L++xs)]) b;simpa using this
  have w:(e::(G1++G++[Ob.lst xs]++[Ob.lst (L++xs)]))[(e::(G1++G++[Ob.lst xs])).length]?=Z (.lst (L++xs)):=by rw[lC1,gC1,db];rfl
  generalize (e::(G1++G++[Ob.lst xs])).length=pl at *
  show W (iO _ _ _ _ _ (e::(G1++G++[Ob.lst xs]++[Ob.lst (L++xs)]))) _;generalize e::(G1++G++[Ob.lst xs]++[Ob.lst (L++xs)])=wq at *
  refine fv (λi r S=>S=wq /\ ∃x3 x4 A,r=[Z N,Z (.int (k:Nat)),Z (.ref 0),x3,x4,A]) _ 0 _ _ ⟨O,_,_,_,O⟩ ?_ ?_ ?_
  ·rintro i r S ⟨rfl,-⟩;exact hA w
  ·rintro i d H r S ⟨rfl,x3,x4,A,rfl⟩;refine⟨_,O,?_⟩;dsimp only[cv,cu];refine(Gh hS (K d (gM1 H))).mono ?_;rintro⟨f,r2,S2⟩ ⟨h1,h2,I,F,ao⟩;exact⟨h1,h2,_,I,F,ao⟩
  ·rintro r S ⟨rfl,x3,x4,A,rfl⟩;exact⟨O,_,O,O⟩
theorem truth(ns:List Int)(I:ns.length<=63):∃S,m_law [.rol (ns.map D.int)] []=Z (.bl M,S):=by
 have u:W (m_law [.rol (ns.map D.int)] []) λp=>p.1 = .bl M:=by
  unfold m_law;refine io ?_;unfold AA;have y:(D.rol (ns.map D.int)).und 0=M:=by simp[D.und,jQ]
  have z:=λk E=>Ek ns k E;generalize A:D.rol (ns.map D.int)=N at *
  have c:dX N []=Z (.int ns.length,[]):=by rw[<- A];simp[dX,dj]
  refine eg (λr S=>S=[]/\r=[Z N,Y,Y,Y,Y,Y]) ?_ ?_
  ·((try walk_at"w");repeat(simp only[sr,wN,c];try walk_at"w"))
   have F:∃t:Nat,t<=4/\(if(if(ns.length:Int)<4 then(ns.length:Int)else 4)>1 then(if(ns.length:Int)<4 then(ns.length:Int)else 4)else 1)=(t:Int):=by
    by_cases h1:(ns.length:Int)<4
    ·rw[ak h1];by_cases h2:(ns.length:Int)>1
     ·rw[ak h2];exact⟨ns.length,by omega,O⟩
     ·rw[aj h2];exact⟨1,by omega,O⟩
    ·rw[aj h1];exact⟨4,by omega,by decide⟩
   obtain⟨t,G,te⟩:=F;rw[te,Int.toNat_natCast];refine⟨fw (by omega),?_⟩;refine fv (λ_ r S=>S=[]/\r=[Z N,Y,Y,Y,Y,Y]) _ 0 _ _ ⟨O,O⟩ (λ_ _ _ _=>rfl) ?_ ?_
   ·rintro i d o r S ⟨rfl,rfl⟩;have b:=(gE1.mp o).1;rw [d0] at b;have j:d = .int (i:Nat):=by
     rw[k9,gP1,cf b]at o;exact(Option.some.inj o).symm
    subst j;walk_at"w";obtain⟨⟨f,r2,H⟩,B,v,w,a,l⟩:=z i (by omega);dsimp only at v a;subst v;subst a;obtain⟨n,m,q,s,g,C⟩:∃n m q s g,w=[n,m,q,s,g]:=by
     match w,l with
     |[n,m,q,s,g],_=>exact⟨_,_,_,_,_,O⟩
    subst C;refine W.of (x:=(.nx,[Z N,Y,Y,Y,Y,Y],[])) ?_ ⟨O,O,O⟩;unfold u9 oX;simp[fK,kS,D.und,y,B]
   ·rintro r S ⟨rfl,rfl⟩;exact⟨O,O,O⟩
  ·rintro r S ⟨rfl,rfl⟩;walk_at"w"
 obtain⟨⟨d,S⟩,e,h⟩:=u;dsimp only at h;exact⟨S,by rw[e,h]⟩
end Law
end
open PySem PySem.W PyProof.Rows
noncomputable def PySem.W.Fast.tw5776559606193622969:=()
noncomputable def PySem.W.Fast.tw17497216080358398397:=()
noncomputable def PySem.W.Fast.tw2496107043068507739:=()
noncomputable def PySem.W.Fast.tw15315162272269664733:=()
noncomputable def PySem.W.Fast.tw5779025289879299447:=()
noncomputable def PySem.W.Fast.tw6588711381076467420:=()
noncomputable def PySem.W.Fast.tw6193596264542012504:=()
noncomputable def PySem.W.Fast.tw13477334181809477362:=()
noncomputable def PySem.W.Fast.tw6780960878711609369:=()
noncomputable def PySem.W.Fast.tw12153722274117038557:=()
noncomputable def PySem.W.Fast.tw8343603431985311754:=()
noncomputable def PySem.W.Fast.tw12890744930668067579:=()
noncomputable def PySem.W.Fast.tw4094524689955387091:=()
noncomputable def PySem.W.Fast.tw3440542201608221347:=()
noncomputable def PySem.W.Fast.tw13045986415854599230:=()
noncomputable def PySem.W.Fast.tw5021744016473410490:=()
noncomputable def PySem.W.Fast.tw11146194815614001127:=()
noncomputable def PySem.W.Fast.tw14113803198144790182:=()
noncomputable def PySem.W.Fast.tw13269296520932462711:=()
noncomputable def PySem.W.Fast.tw4089475203082720858:=()
noncomputable def PySem.W.Fast.tw18112229959383946974:=()
noncomputable def PySem.W.Fast.tw1499240760856276905:=()
noncomputable def PySem.W.Fast.tw12163985274264438892:=()
noncomputable def PySem.W.Fast.tw14935603561493463578:=()
noncomputable def PySem.W.Fast.tw13253646059424420204:=()
noncomputable def PySem.W.Fast.tw1819050445274837428:=()
noncomputable def PySem.W.Fast.tw4794011938644683153:=()
noncomputable def PySem.W.Fast.tw4449812571944554523:=()
noncomputable def PySem.W.Fast.tw564081297982100249:=()
noncomputable def PySem.W.Fast.tw9396927330884054798:=()
noncomputable def PySem.W.Fast.tw14202604784924242229:=()
noncomputable def PySem.W.Fast.tw16010662647871963045:=()
noncomputable def PySem.W.Fast.tw4108237554349483041:=()
noncomputable def PySem.W.Fast.tw7287441593515076487:=()
noncomputable def PySem.W.Fast.tw2986658911203489802:=()
noncomputable def PySem.W.Fast.tw6099530072158256886:=()
noncomputable def PySem.W.Fast.tw16375024996182976606:=()
noncomputable def PySem.W.Fast.tw12228301129727878604:=()
noncomputable def PySem.W.Fast.tw3798107269943625039:=()
noncomputable def PySem.W.Fast.tw17456806451344647923:=()
noncomputable def PySem.W.Fast.tw993706292225094222:=()
noncomputable def PySem.W.Fast.tw12881359671602326109:=()
noncomputable def PySem.W.Fast.tw4041779585568587216:=()
noncomputable def PySem.W.Fast.tw5144961477020886311:=()
noncomputable def PySem.W.Fast.tw13374337697530458519:=()
noncomputable def PySem.W.Fast.tw12948442186367176632:=()
noncomputable def PySem.W.Fast.tw967805437016326565:=()
noncomputable def PySem.W.Fast.tw10366228079598702177:=()
noncomputable def PySem.W.Fast.tw14172083751813459229:=()
noncomputable def PySem.W.Fast.tw5773004873988583969:=()
noncomputable def PySem.W.Fast.tw7940703525642953113:=()
noncomputable def PySem.W.Fast.tw13789485245972445345:=()
noncomputable def PySem.W.Fast.tw11314177678943327524:=()
noncomputable def PySem.W.Fast.tw9440939823426445136:=()
noncomputable def PySem.W.Fast.tw7871203440205566974:=()
noncomputable def PySem.W.Fast.tw3084885887917888879:=()
noncomputable def PySem.W.Fast.tw6507134372662123698:=()
noncomputable def PySem.W.Fast.tw4447727351082099683:=()
noncomputable def PySem.W.Fast.tw18119355950206710094:=()
noncomputable def PySem.W.Fast.tw17768284956988988271:=()
noncomputable def PySem.W.Fast.tw9857783483389488108:=()
noncomputable def PySem.W.Fast.tw13563036012663250635:=()
noncomputable def PySem.W.Fast.tw4130906798791029857:=()
noncomputable def PySem.W.Fast.tw13846977733233980925:=()
set_option maxRecDepth 100000 in
set_option maxHeartbeats 0 in
theorem PySem.Challenge.cw_ringmeet_k54_errands_of_anything_holds : PySem.Challenge.rw_ringmeet_k54_errands_of_anything.Holds := by
 w_on;o_law;k_head;(case hw=>w_witness2)
 k_fill
 refine Mi.walk_m (l:=PySem.Challenge.rw_ringmeet_k54_errands_of_anything) (m:=Law.m_law) (k:=12) (x:="_law_script") rfl rfl ⟨rfl,by decide,by decide,rfl⟩ (fun w h Y=>PySem.W.kIn_of Y) Law.truth ?F
 case F=>
  intro w mg e h d G b;refine' Law.all_mk d G b ?a1 ?a2 ?a3 ?a4 ?a5 ?a6 ?a7 ?a8 ?a9 ?a10 ?a11 ?a12 ?a13 ?a14 ?a15 ?a16 ?a17 ?a18 ?a19 ?a20 ?a21 ?a22 ?a23 ?a24 ?a25 ?a26 ?a27 ?a28 ?a29 ?a30 ?a31 ?a32 ?a33 ?a34 ?a35 ?a36 ?a37 ?a38 ?a39 ?a40 ?a41 ?e_HANDS ?h1 ?e_MOST_BEATS ?e_MOST_CHALK ?e_MOST_DOORS ?e_MOST_FIELDS ?e_MOST_MOODS ?e_MOST_ROOMS ?e_PARTS ?h11 ?h12 ?h15 ?h18 ?h21 ?e_STEPS ?z
  all_goals try (refine' Mi.IN ?a ?l ?c ?k;(case a=>k_is);(case l=>k_is);(case c=>k_is);(case k=>k_is))
  (case e_HANDS=>k_is)
  (case h1=>k_is)
  (case e_MOST_BEATS=>k_is)
  (case e_MOST_CHALK=>k_is)
  (case e_MOST_DOORS=>k_is)
  (case e_MOST_FIELDS=>k_is)
  (case e_MOST_MOODS=>k_is)
  (case e_MOST_ROOMS=>k_is)
  (case e_PARTS=>k_is)
  (case h11=>k_is)
  (case h12=>k_is)
  (case h15=>k_is)
  (case h18=>k_is)
  (case h21=>k_is)
  (case e_STEPS=>k_is)
  (case z=>exact ⟨by k_is,by k_is,by k_is,by k_is,by k_is,by k_is,by k_is,by k_is,by k_is,by k_is,by k_is,by k_is,by k_is,by k_is,by k_is,trivial⟩)

