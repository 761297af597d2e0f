import PyProof.Rows.All
import Wide.All
import OpenK.AllK
import Wide.FinOn
import Lean
import PyProof.EqAt
import PyProof.EqKinds
import PyProof.TupleCall
import PySem.Challenge.RW_ringmeet_k39_whole_alike_ones_never_meet
set_option Elab.async false
set_option compiler.extract_closed false
set_option genSizeOf false
set_option bootstrap.genMatcherCode false
set_option linter.all false
set_option maxRecDepth 100000
set_option maxHeartbeats 4000000
open List renaming getElem?_eq_some_iff → gE1, getElem?_append_left → gL1, getElem?_eq_getElem → gG1, mem_of_getElem? → gM1, getElem?_set_ne → gS1, length_append → lA1, length_map → lM1, getElem?_cons_succ → gC1, mem_cons_of_mem → mC1, mem_cons_self → mS1, getElem?_map → gP1, getElem?_append_right → gR1, size_toArray → sT1, map_cons → mP1, length_cons → lC1, length_replicate → lR1, mem_append_right → mA1
open Option renaming bind_eq_some_iff → oB1, map_eq_some_iff → oM1, bind_some → oS1, map_some → oP1
open Nat renaming le_refl → nR1, lt_of_lt_of_le → nL1, ne_of_lt → nN1, ne_of_gt → nG1
open Bool renaming and_eq_true → bA1, false_eq_true → bF1
open Array renaming getElem?_eq_getElem → aG1, getElem?_toList → aT1
open PySem.W renaming Frag → Fg1, nsIn → wN1, keepIn → wK1, codeIn → wC1, fnOf → wF1, mg_of → wM1
open PySem.Heap renaming get?_push_of_some → hP1, get?_push_size → hS1, lt_size → hL1, size_push → hZ1, get?_update_ne → hU1, get?_update_self → hW1
open PySem renaming wpAny_bind → wB1, wpAny_pure → wP1, wpAny_setField_rec → wS1, wpAny_newObj_type → wO1, codeAny_builtin → wD1, wpAny_call_entry → wE1
open List renaming take_nil → aw, drop_nil → ay, mem_filter → aB, mem_range → aC, filterMap_cons → aE, mem_cons → aF, mem_append → aG, mem_append_left → aH, getElem_inj → aI, getElem?_set_self → aJ, mem_filterMap → aM, append_nil → aN, nodup_cons → aO, replicate → aP, length_take → aR, getElem?_replicate → aS, getElem?_take_of_lt → aT, take_sublist → aU, length_set → aV, reverse_cons → aW, length_singleton → aY, map_nil → aZ, find?_cons → bc, any_cons → bd, length_nil → bf, cons_append → bj, range' → bn, prefix_rfl → bo, nodup_nil → bp, getElem?_of_mem → bq, map_map → bu, prefix_append → bv, nodup_append → bx, all_eq_true → bA, mem_replicate → bC, lookup_cons → bD, append_assoc → bE, getD_eq_getElem?_getD → bH, not_mem_nil → bI, all_cons → bN, any_eq_true → bP, getElem_mem → bQ, zip_cons_cons → bR, cons_prefix_cons → bT, take_length → bU, ext_getElem? → bW, getElem?_eq_none → bX, findIdx?_eq_some_iff_getElem → bZ, foldl_cons → b4, contains_cons → b5, pairwise_cons → b6, pairwise_iff_getElem → b7, take_of_length_le → ca, pairwise_lt_range → cb, map_append → cc, mem_map → cf, take_succ → cg, foldl_append → ci, take_append_drop → cm, eraseIdx_eq_take_drop_succ → cq, getElem?_range → cr, mem_singleton → cv, range'_succ → cy, nodup_range → cA, length_range → cB, mem_of_mem_take → cC, set_cons_succ → cD, getElem?_zip_eq_some → cH, contains_iff_mem → cJ, forall_mem_nil → cK, map_congr_left → cM, all_append → cN, nil_append → cP, mem_zipIdx_iff_getElem? → cQ, pairwise_map → cR, getElem?_cons_zero → cS, set_cons_zero → cT, flatten_cons → cW, length_filter_le → cX, filter_append → cY, set_append_right → cZ, getElem?_concat_length → c5, getElem?_zipIdx → c6, range_succ → c9, filter_cons_of_pos → da, filter_cons_of_neg → db, mem_flatMap → de, idxOf_lt_length_of_mem → df, getElem_idxOf → dg
open Option renaming some → az, isSome_iff_exists → aQ, isSome_map → bg, getD_some → b0, join_some → cV
open Nat renaming lt_irrefl → aA, le_trans → aD, le_succ → aX, le_of_not_lt → a0, lt_trans → bh, zero_le → bi, add_assoc → bm, le_add_right → br, not_lt_zero → bw, lt_succ_self → bB, lt_of_le_of_lt → bF, le_of_succ_le → bG, succ_pos → bK, zero_add → bL, lt_or_ge → bS, lt_trichotomy → b8, lt_succ_of_lt → cj, mod_lt → ck, sub_self → cF, reduceAdd → cU, lt_succ_iff_lt_or_eq → c7, mul_le_mul_right → c8
open Array renaming length_toList → aK, forIn_toList → bV, toList_push → b9, getElem?_eq_none → cu, getD_eq_getD_getElem? → cE
open Bool renaming false_ne_true → aL, and_true → bJ, or_eq_true → bM, eq_iff_iff → bO, not_true → bY, not_eq_true → cG, not_false → cI, eq_false_iff → cO
open PySem renaming Value → di, Shared → dj, Addr → dk, Program → dn, Around → dq, World → dr, mainGlobals → dv, starEach → dw, sizeLine → dy, wpAny → dz, codeAny → dA, Heap → dB, FuncData → dD, Stmt → dE, Scope → dF
open Option renaming some → Z, none → Y
open Bool renaming true → M, false → J
theorem gu0(h0:True:=by repeat first|rfl|exact .inl rfl|assumption|apply Or.inr)(h1:True:=by decide)(h2:True:=by rfl)(h3:True:=by intro _;rfl)(h4:True:=by decide+kernel)(h5:True:=by assumption):True:=h0
namespace gu0
end gu0
open gu0 renaming _auto_1 → au0, _auto_2 → bu0, _auto_3 → cu0, _auto_4 → du0, _auto_5 → eu0, _auto_6 → fu0
theorem Mi.O{α}{a:α}:a=a:=rfl
open Mi (O)
open PySem renaming hashInt → aa, sysModules → Pt, intKind → Pu, bootBuiltins → Pv, model → PB, backTo → PC, wpAny_mono → PD, wpAny_Name → PF, wpAny_loadName_local → PH, wpAny_truthy_bool → PJ, wpAny_execs_nil → PM, swapsWith → PN, assign → PP, assignEach → PQ, Operator → PR, holding → PV, standAt → PX, wpAny_holding → PY, wpAny_standAt → PZ, swapsWithSole → P0, swappedStores → P1, wpAny_rule → P2, PassesOwn → P3, wpAny_passesOwn → P4, pyNext → P5, letOwnedTupleGo → P6, pyIter → P7, rawInt → P8, wpAny_pyNext_list_item → P9, wpAny_pyNext_list_end → Qa, foldedSetIterable → Qc, binaryOp → Qd, compareOp → Qe, CmpOp → Qf, behindInMarks → Qg, sizeLine_eq → Qh, cLine → Ql, Result → Qm, codeAny_mono → Qn, wpAny_Call_Name_kw → Qo, Keyword → Qp, NameKind → Qq, cellsFrom → Qs, mem_of_lookup → Qu, IsPart → QD, wpAny_field → QE, wpAny_callSpecial?_slot → QF, wpAny_typeOf → QJ, sliceBounds → QN, attributeBase → QP, backToKw → QQ, keywordEach → QR, valueAt → QV, atKey → QW, tupleKind_room_in1 → QX, SetTable → Q3, pushCells_keeps → Q6, compTurn → Q7, codeAny_of_tree → Q8, wpAny_askSetting → Q9, wpAny_of_eq → Ra, wpAny_seqItems → Re, firstArgMember → Rg, IsEnum → Rh, wpAny_attempt → Ri, wpAny_letGo → Rm, wpAny_isInstance → Rn, isSubtype_stop → Ro, IsZip → Rp, IsPair → Rq, wpAny_updateSeq_pair → Rs, wpAny_forIn_list → Rx, plainId_quiet → Ry, wpAny_specialOf → RB, wpAny_callSpecialIfBoundUnlessNone?_slot → RC, eqIsQuiet_byValue → RE, scanBound → RI, wpAny_setState_of → RP, wpAny_storeSet_of → RR, fits_of_scanBound → RT
open PySem.Value renaming int → ab, str → ae, none → Pp, bool → Pq, ref → Pr, type → Ps
open PyProof.Rows renaming AllBare → Pw, callWith_type1 → Qb, envOfC → Qr, slot_tuple_getitem → QH, subscriptTail → QL, IntsAre → QU, step_dedup → RH, SortKind → RJ, Keyed → RK
open PySem.Heap renaming get?_none_of_le → Px, SameBut → Pz
open Ne renaming symm → Py
open False renaming elim → PK
open PySem.W renaming kitOne → Qi, kia_one → Qj, cellsFrom_some → Qt
open True renaming intro → Qk
open PySem.F renaming slot_tuple_add → Qv, entry_tuple_add → Qw, args_tuple_add_2 → Qx, slot_tuple_iterator_next → Rc, slot_enumerate_next → Rj, slot_zip_next → Rr, plain_extend_loop → RX, slot_tuple_index → R5, type_tuple_index → R6
open Int renaming toNat_natCast → Qy, emod_nonneg → RY, emod_lt_of_pos → RZ
open PySem.Builtin.Slice renaming sliceAdjust → Qz, slicePlaces → QB
open PySem.Str renaming ofString → QG
open PySem.Builtin.Tuple renaming tupleItemsOf → QI, tupleExact → QK, tupleHashOf → QY
open PySem.Obj renaming mapSeq → QM
open PySem.SeqAt renaming EqAt → QO, RcAt → Rv
open PySem.Calls renaming callWith_builtin → QS, evalArgs_plain → QT
open PySem.SetTable renaming runEnd → QZ, leap → Q0, turns → Q1, bits → Q2, below → RL, insertAt → RM, Probe → RN, grown → RQ
open PySem.NameKind renaming cell → Q5
open PySem.Builtin.SmallTypes renaming nextOf → Rb, ownedTupleIsFree → Rk, ownedTupleHandOut → Rl
open PySem.Heap.SameBut renaming update → Rf
open PySem.Around renaming under_plainId → Rz
open Classical renaming byContradiction → RD, choose_spec → R7
open PySem.AutoSeq1 renaming wpAny_loadPart' → RF
open PySem.MeetsSeq renaming plain_index_loop → RG
open PySem.SetTable.probe renaming go → RO
open PyProof.Rows.F renaming entry_set_update_loop → RU, plain_set_update_loop → RV
open PySem.PassesOwn renaming never → R1
open Or renaming inl → R3, inr → R4
open Prod.mk renaming injEq → R8
def Mi.QA:=@if_false
def Mi.QC:=@if_true
def Mi.Q4:=@of_decide_eq_true
def Mi.Rt:=@or_false
def Mi.Ru:=@beq_self_eq_true
def Mi.RW:=@beq_iff_eq
def Mi.R0:=@beq_eq_false_iff_ne
def Mi.R9{α}{l:List α}{i:Nat}{a:α}:=(List.getElem?_eq_some_iff (l:=l) (i:=i) (a:=a)).mp
def Mi.Sa{α β}{x:Option α}{f:α->Option β}{b:β}:=(Option.bind_eq_some_iff (x:=x) (f:=f) (b:=b)).mp
def Mi.Sb{α β}{x:Option α}{f:α->β}{b:β}:=(Option.map_eq_some_iff (x:=x) (f:=f) (b:=b)).mp
open Mi (QA QC Q4 Rt Ru RW R0 R9 Sa Sb)
theorem Mi.am{p:Prop}[Decidable p]:(decide p=true)=p:=decide_eq_true_eq
theorem Mi.ak{c:Prop}{h:Decidable c}(a:c){α:Sort _}{t e:α}:ite c t e=t:=if_pos a
theorem Mi.aj{c:Prop}{h:Decidable c}(a:¬c){α:Sort _}{t e:α}:ite c t e=e:=if_neg a
theorem Mi.ai{p:Prop}[Decidable p]:¬p→decide p=false:=decide_eq_false
theorem Mi.ah{p:Prop}[Decidable p]:p→decide p=true:=decide_eq_true
open List renaming range → af
open Mi (am ak aj ai ah)
noncomputable section
namespace L2
open PySem PySem.Spec PyProof.Rows
abbrev Key:=Sum Int Str
noncomputable def q7:Key->di->Bool
 | .inl k,v=>Value.isInt k v
 | .inr x,v=>Value.isStrOf x v
def NF(w:dr):Key->Int
 | .inl k=>aa k
 | .inr x=>hashStr w x
theorem fg:∀{k:Key} {v:di},q7 k v=M->(∃i t,k=Sum.inl i/\v=ab i t)\/(∃x t,k=Sum.inr x/\v=ae x t)
 | .inl i,v,h=>by
  obtain⟨t,e⟩:=Value.isInt_shape (k:=i) (v:=v) h;exact .inl ⟨i,t,O,e⟩
 | .inr x,v,h=>by
  obtain⟨t,e⟩:=Value.isStrOf_shape (x:=x) (v:=v) h;exact .inr ⟨x,t,O,e⟩
theorem zB(i:Int)(t:Tok):q7 (.inl i) (.int i t)=M:=by simp[q7,Value.isInt]
theorem zA(x:Str)(t:Tok):q7 (.inr x) (.str x t)=M:=by simp[q7,Value.isStrOf]
theorem JO(a b:Int):decide ((Sum.inl a:Key)=Sum.inl b)=(a == b):=by
 by_cases e:a=b
 ·subst e;simp
 ·have h:¬ (Sum.inl a:Key)=Sum.inl b:=λq=>e (Sum.inl.inj q);rw[ai h];exact(R0.mpr e).symm
theorem JL(a b:Str):decide ((Sum.inr a:Key)=Sum.inr b)=decide (a=b):=by
 by_cases e:a=b
 ·subst e;simp
 ·have h:¬ (Sum.inr a:Key)=Sum.inr b:=λq=>e (Sum.inr.inj q);rw[ai h,ai e]
theorem JN(a:Int)(b:Str):decide ((Sum.inl a:Key)=Sum.inr b)=J:=ai (λq=>nomatch q)
theorem JM(a:Str)(b:Int):decide ((Sum.inr a:Key)=Sum.inl b)=J:=ai (λq=>nomatch q)
def e9(prog:dn)(w:dr):PySem.KeyKind prog w Key where
 is:=q7
 hash:=NF w
 inj:=λv a b ha hb=>by
  rcases fg ha with⟨i,t,rfl,rfl⟩|⟨x,t,rfl,rfl⟩
  ·rcases fg hb with⟨j,u,rfl,e⟩|⟨y,u,rfl,e⟩
   ·injection e with e1 _;rw[e1]
   ·exact nomatch e
  ·rcases fg hb with⟨j,u,rfl,e⟩|⟨y,u,rfl,e⟩
   ·exact nomatch e
   ·injection e with e1 _;rw[e1]
 byValue:=λk v h=>by
  rcases fg h with⟨i,t,rfl,rfl⟩|⟨x,t,rfl,rfl⟩<;>rfl
 pyHash:=λhv h=>by
  rcases fg hv with⟨i,t,rfl,rfl⟩|⟨x,t,rfl,rfl⟩
  ·exact wpAny_pyHash_int h
  ·exact wpAny_pyHash_str h
 eqBool:=λhu hv h=>by
  rcases fg hu with⟨i,t,rfl,rfl⟩|⟨x,t,rfl,rfl⟩
  ·rcases fg hv with⟨j,u,rfl,rfl⟩|⟨y,u,rfl,rfl⟩
   ·rw[JO]at h;exact wpAny_eqBool_int h
   ·rw[JN]at h;exact SeqAt.EqAt.int_str i t y u _ _ _ _ h
  ·rcases fg hv with⟨j,u,rfl,rfl⟩|⟨y,u,rfl,rfl⟩
   ·rw[JM]at h;exact SeqAt.EqAt.str_int x t j u _ _ _ _ h
   ·rw[JL]at h;exact wpAny_eqBool_str h
 «strs» :=λk x t v h=>by
  rcases fg h with⟨i,u,rfl,e⟩|⟨y,u,rfl,e⟩
  ·exact nomatch e
  ·injection e with e1 _;subst e1;cases v<;>rfl
theorem uD(prog:dn)(w:dr)(i:Int)(t:Tok):(e9 prog w).is (.inl i) (.int i t)=M:=zB i t
theorem uC(prog:dn)(w:dr)(x:Str)(t:Tok):(e9 prog w).is (.inr x) (.str x t)=M:=zA x t
inductive V where
 |non|bl (b:Bool)|int (i:Int)|str (x:Str)|byt (b:Array UInt8)|flt (b:UInt64)|ref (a:dk)|ty (n:String)
 deriving DecidableEq
def d4:V->di->Prop
 | .non,u=>u=Pp
 | .bl b,u=>u=Pq b
 | .int i,u=>∃t,u=ab i t
 | .str x,u=>∃t,u=ae x t
 | .byt b,u=>∃t,u=Value.bytes b t
 | .flt b,u=>∃t,u=Value.float b t
 | .ref a,u=>u=Pr a
 | .ty n,u=>u=Ps n
abbrev ee:List V->List di->Prop:=Paired d4
theorem ee.length{xs:List V}{a:List di}(r:ee xs a):xs.length=a.length:=Paired.length r
theorem ee.get:∀{xs:List V} {a:List di} {i:Nat} {x:V},ee xs a->xs[i]?=Z x -> ∃u,a[i]?=Z u/\d4 x u:=by
 intro xs a i x h e
 induction h generalizing i with
 |nil=>cases e
 |cons r t ih=>cases i with
  |zero=>cases e;exact⟨_,O,r⟩
  |succ i=>exact ih (i:=i) e
theorem ee.set{x:V}{u:di}(r:d4 x u):∀{xs:List V} {a:List di} (i:Nat),ee xs a->ee (xs.set i x) (a.set i u):=by
 intro xs a i h
 induction h generalizing i with
 |nil=>exact .nil
 |cons q t ih=>cases i with
  |zero=>exact .cons r t
  |succ i=>exact .cons q (ih i)
theorem ee.append:∀{xs ys:List V} {a ws:List di},ee xs a->ee ys ws->ee (xs++ys) (a++ws):=by
 intro xs ys a ws h s
 induction h with
 |nil=>exact s
 |cons r t ih=>exact .cons r ih
theorem ee.take:∀{xs:List V} {a:List di} (n:Nat),ee xs a->ee (xs.take n) (a.take n):=by
 intro xs a n h
 induction h generalizing n with
 |nil=>rw[aw,aw];exact .nil
 |cons r t ih=>cases n with
  |zero=>exact .nil
  |succ n=>exact .cons r (ih n)
theorem ee.drop:∀{xs:List V} {a:List di} (n:Nat),ee xs a->ee (xs.drop n) (a.drop n):=by
 intro xs a n h
 induction h generalizing n with
 |nil=>rw[ay,ay];exact .nil
 |cons r t ih=>cases n with
  |zero=>exact .cons r t
  |succ n=>exact ih n
def mY:Option V->Option di->Prop
 |some v,Z u=>d4 v u
 |none,Y=>True
 |_,_=>False
def KV{κ:Type}:List (κ×V)->List (κ×di)->Prop:=Paired λ(p:κ×V) (q:κ×di)=>p.1=q.1/\d4 p.2 q.2
def kV:Key->V
 | .inl i=>.int i
 | .inr x=>.str x
inductive HO where
 /-- a list -/
 |lst (xs:List V)
 /-- a tuple (never changes) -/
 |tup (xs:List V)
 /-- a dict whose keys are ints and texts; one whose keys are tuples of ints and texts (the empty one is both) -/
 |dK (kvs:List (Key×V))|dT (kvs:List (List Key×V))
 /-- a set of ints: its members, its size -/
 |set (S:Int->Bool) (n:Nat)
 /-- an instance of the class at C, its dict at dx, its attributes -/
 |ins (C dx:dk) (fs:List (Str×V))
 /-- the dict of the instance at x -/
 |own (x:dk)
 /-- the dict of an exception -/
 |xd (fs:List (Str×V))
 /-- a bound method, f of x -/
 |met (f x:dk)
 /-- a range object lo, lo + 1, .. below hi -/
 |rng (lo hi:Int)
 /-- a thing that is known to the object (the script; a dict while a loop walks it): read, never written while it is so -/
 |frz (o:Obj) (u:HO)
 /-- a code object's table -/
 |tbl (ps:Array di)
 /-- any other thing, by what is true of its one object (a def of one's own: SetO a S n := HO.ext λh => ..) -/
 |ext (φ:dB->Prop)
abbrev Hp:=dk->Option HO
noncomputable def upd(H:Hp)(a:dk)(o:HO):Hp:=λb=>if b=a then Z o else H b
theorem d9{H:Hp}{a:dk}{o:HO}:upd H a o a=Z o:=by unfold upd;rw[ak O]
theorem d6{H:Hp}{a b:dk}{o:HO}(h:b≠a):upd H a o b=H b:=by unfold upd;rw[aj h]
theorem LG{H:Hp}{a b:dk}{o u:HO}(h:H a=Z o)(h':H b=Z u)(d:o≠u):a≠b:=by
 intro e;subst e;rw[h]at h';exact d (Option.some.inj h')
theorem et{H:Hp}{a b:dk}{o:HO}(h:H a=Z o)(h':H b=Y):a≠b:=by
 intro e;subst e;rw[h]at h';cases h'
def ms(h:dB)(a:dk)(items:Array di):Prop:=∃o,h.get? a=Z o/\o.cls = .type "tuple" /\ ∃n,o.data = .seq items n/\o.dict=Y
theorem ms.tup{h:dB}{a:dk}{items:Array di}(x:ms h a items):IsTup h a items:=by
 obtain⟨o,e,c,n,d,_⟩:=x;exact⟨o,e,c,n,d⟩
theorem ms.lt{h:dB}{a:dk}{items:Array di}(x:ms h a items):a<h.objs.size:=x.tup.lt
theorem ms.new(h:dB)(items:Array di):ms (h.push {cls:=.type "tuple",data:=.seq items}) h.objs.size items:=⟨_,hS1 _ O,O,0,O,O⟩
section
variable(P:dn) (w:dr)
def eP(H:Hp)(h:dB)(a:dk):HO->Prop
 | .lst xs=>xs.length<=dy /\ ∃(its:List di) (n:Nat),ee xs its/\h.get? a=Z {cls:=.type "list",data:=.seq its.toArray n}
 | .tup xs=>xs.length<=dy /\ ∃its:List di,ee xs its/\ms h a its.toArray
 | .dK kvs=>kvs.length<=dy/\(a == Pt)=J /\ ∃vs,KV kvs vs/\h.DictOf (e9 P w) a vs
 | .dT kvs=>kvs.length<=dy/\(a == Pt)=false /\ ∃ xs:List (List Key×dk×di),
   Paired (λ(p:List Key×V) (q:List Key×dk×di)=>p.1=q.1/\H q.2.1=Z (.tup (p.1.map kV))/\d4 p.2 q.2.2) kvs xs /\
   ∃o es ep,h.get? a=Z o/\o.ExactDict/\o.data = .dict es ep/\es.toList=xs.map (entryOfKey (tupleKind (e9 P w)))/\(xs.map (·.1)).Nodup
 | .set S n=>h.SetOf (Pu P w) a S n
 | .ins C dx fs=>H dx=some (.own a)/\fs.length<=1000/\dx≠a/\h.get? a=some (PySem.W.instObj C dx) /\
   ∃mA,h.Ns1 dx mA/\(∀f,mY (fs.lookup f) (mA f))/\PySem.Within mA (fs.map (·.1))
 | .own _=>∃o,h.get? a=Z o
 | .xd fs=>∃mA,h.Ns1 a mA /\ ∀f,mY (fs.lookup f) (mA f)
 | .rng lo hi=>∃t u v,h.get? a=Z {cls:=.type "range",data:=.fields #[.int lo t,.int hi u,.int 1 v]}
 | .frz o u=>h.get? a=Z o/\eP H h a u
 | .tbl ps=>h.get? a=Z {cls:=.none,data:=.fields ps}
 | .met f x=>h.get? a=Z (PySem.W.methodObj (.ref f) (.ref x))
 | .ext φ=>φ h/\(∃o,h.get? a=Z o) /\ ∀h1 h2:dB,φ h1->(∀o,h1.get? a=Z o->h2.get? a=Z o)->φ h2
def lu(H:Hp)(h:dB):Prop:=∀a o,H a=Z o->eP P w H h a o
end
section
variable{P:dn}{w:dr}{H H':Hp}{h h':dB}{a:dk}{o:HO}
theorem eP.lt(x:eP P w H h a o):a<h.objs.size:=by
 cases o with
 |lst xs=>obtain⟨_,_,_,_,e⟩:=x;exact hL1 e
 |tup xs=>obtain⟨_,_,_,p⟩:=x;exact p.lt
 |dK kvs=>obtain⟨_,_,_,_,o,_,_,e,_⟩:=x;exact hL1 e
 |dT kvs=>obtain⟨_,_,_,_,o,_,_,e,_⟩:=x;exact hL1 e
 |set S n=>obtain⟨o,_,_,_,e,_⟩:=x;exact hL1 e
 |ins C dx fs=>obtain⟨_,_,_,e,_⟩:=x;exact hL1 e
 |own y=>obtain⟨_,e⟩:=x;exact hL1 e
 |xd fs=>obtain⟨_,⟨_,_,_,e,_⟩,_⟩:=x;exact hL1 e
 |rng lo hi=>obtain⟨_,_,_,e⟩:=x;exact hL1 e
 |frz b u=>obtain⟨e,_⟩:=x;exact hL1 e
 |tbl ps=>exact hL1 (show h.get? a=Z _ from x)
 |met f y=>exact hL1 (show h.get? a=Z _ from x)
 |ext φ=>obtain⟨_,⟨_,e⟩,_⟩:=x;exact hL1 e
theorem Paired.mapP{α β:Type}{F G:α->β->Prop}:∀{l₁:List α} {l₂:List β},Paired F l₁ l₂->(∀a b,F a b->G a b)->Paired G l₁ l₂:=by
 intro a b h f
 induction h with
 |nil=>exact .nil
 |cons r t ih=>exact .cons (f _ _ r) ih
theorem eP.stay(x:eP P w H h a o)(k:∀ b u,(b=a\/H b=Z (.own a))->h.get? b=Z u->h'.get? b=Z u)(ho:∀b,H b=Z (.own a)->H' b=Z (.own a))(ht:∀b xs,H b=Z (.tup xs)->H' b=Z (.tup xs)):eP P w H' h' a o:=by
 induction o with
 |lst xs=>obtain⟨z,i,n,r,e⟩:=x;exact⟨z,i,n,r,k _ _ (.inl O) e⟩
 |tup xs=>obtain⟨z,i,r,g,e,c⟩:=x;exact⟨z,i,r,g,k _ _ (.inl O) e,c⟩
 |dK kvs=>obtain⟨z,y,vs,r,g,es,ep,e,c⟩:=x;exact⟨z,y,vs,r,g,es,ep,k _ _ (.inl O) e,c⟩
 |dT kvs=>
  obtain⟨z,y,xs,r,g,es,ep,e,c⟩:=x;exact⟨z,y,xs,Paired.mapP r λp q z=>⟨z.1,ht _ _ z.2.1,z.2.2⟩,g,es,ep,k _ _ (.inl O) e,c⟩
 |set S n=>obtain⟨g,es,ep,t,e,c⟩:=x;exact⟨g,es,ep,t,k _ _ (.inl O) e,c⟩
 |ins C dx fs=>
  obtain⟨d,z,ne,e,mA,⟨j,es,ep,l,c⟩,r⟩:=x;exact⟨ho _ d,z,ne,k _ _ (.inl O) e,mA,⟨j,es,ep,k _ _ (.inr d) l,c⟩,r⟩
 |own y=>obtain⟨g,e⟩:=x;exact⟨g,k _ _ (.inl O) e⟩
 |xd fs=>obtain⟨mA,⟨j,es,ep,e,c⟩,r⟩:=x;exact⟨mA,⟨j,es,ep,k _ _ (.inl O) e,c⟩,r⟩
 |rng lo hi=>obtain⟨t,u,v,e⟩:=x;exact⟨t,u,v,k _ _ (.inl O) e⟩
 |frz g u ih=>obtain⟨e,q⟩:=x;exact⟨k _ _ (.inl O) e,ih q⟩
 |tbl ps=>
  have e:h.get? a=Z {cls:=.none,data:=.fields ps}:=x;show h'.get? a=Z {cls:=.none,data:=.fields ps};exact k a _ (.inl O) e
 |met f y=>
  have e:h.get? a=Z (PySem.W.methodObj (.ref f) (.ref y)):=x;show h'.get? a=Z (PySem.W.methodObj (.ref f) (.ref y));exact k a _ (.inl O) e
 |ext φ=>obtain⟨p,⟨o,e⟩,st⟩:=x;exact⟨st _ _ p λo q=>k _ _ (.inl O) q,⟨o,k _ _ (.inl O) e⟩,st⟩
theorem lu.lt(x:lu P w H h)(e:H a=Z o):a<h.objs.size:=(x a o e).lt
theorem lu.fresh(x:lu P w H h)(e:h.objs.size<=a):H a=Y:=by
 cases q:H a with
 |none=>rfl
 |some u=>exact absurd (nL1 (x.lt q) e) (aA _)
theorem lu.kept(x:lu P w H h)(k:∀b u,h.get? b=Z u->h'.get? b=Z u):lu P w H h':=λa o e=>
 (x a o e).stay (λb u _ q=>k b u q) (λ_ q=>q) λ_ _ q=>q
theorem lu.laid(x:lu P w H h)(k:∀b u,h.get? b=Z u->h'.get? b=Z u)(hp:h.objs.size<=a)(new:eP P w (upd H a o) h' a o):lu P w (upd H a o) h':=λb u e=>by
 have f:=x.fresh hp;by_cases d:b=a
 ·subst d;rw[d9]at e;cases e;exact new
 ·rw[d6 d]at e;exact(x b u e).stay (λc v _ q=>k c v q) (λc q=>by rw[d6 (et q f)];exact q) λc xs q=>by rw[d6 (et q f)];exact q
end
def Rd(H:Hp)(a:dk)(u:HO):Prop:=H a=Z u \/ ∃o,H a=Z (.frz o u)
theorem Rd.of{H:Hp}{a:dk}{u:HO}(h:H a=Z u):Rd H a u:=.inl h
theorem Rd.ok{P:dn}{w:dr}{H:Hp}{h:dB}{a:dk}{u:HO}(r:Rd H a u)(x:lu P w H h):eP P w H h a u:=by
 rcases r with r|⟨o,r⟩
 ·exact x a u r
 ·obtain⟨_,q⟩:=x a _ r;exact q
def KG:Option HO->Prop
 |some (.lst _)=>True
 |some (.dK _)=>True
 |some (.dT _)=>True
 |some (.set _ _)=>True
 |some (.ins _ _ _)=>True
 |some (.ext _)=>True
 |_=>False
section
variable{P:dn}{w:dr}{H:Hp}{h h':dB}{x e:dk}{o':HO}
theorem lu.write(ok:lu P w H h)(mu:KG (H x))(he:e=x\/H e=Z (.own x))(k:∀ b u,b≠e->h.get? b=Z u->h'.get? b=Z u)(i:∃ u,h'.get? e=Z u)(new:eP P w (upd H x o') h' x o'):lu P w (upd H x o') h':=λb u q=>by
 have d:∀c y,H c=Z (.own y)->c≠x:=λc y r z=>by subst z;rw[r]at mu;exact mu
 have f:∀c xs,H c=Z (.tup xs)->c≠x:=λc xs r z=>by subst z;rw[r]at mu;exact mu
 by_cases g:b=x
 ·subst g;rw[d9]at q;cases q;exact new
 ·rw[d6 g]at q;by_cases a:b=e
  ·have j:H b=some (.own x):=by
    rcases he with z|z
    ·exact absurd (a.trans z) g
    ·rw[a];exact z
   rw[q]at j;cases j;obtain⟨v,l⟩:=i;exact⟨v,by rw[a];exact l⟩
  ·refine(ok b u q).stay (λc v hc r=>k c v ?_ r) (λc r=>by rw[d6 (d c b r)];exact r) λc xs r=>by rw[d6 (f c xs r)];exact r
   rcases hc with rfl|hc
   ·exact a
   ·rintro rfl;rcases he with z|z
    ·exact d c b hc z
    ·rw[hc]at z;cases z;exact g O
end
structure Un (fs ex:List dk)(H H':Hp)(h h':dB):Prop where
 keep:∀b o,h.get? b=some o->H b=none->b∉fs->b∉ex->h'.get? b=some o
 slot:∀b o,h.get? b=some o->H b=none->b∈fs->b∉ex -> ∃sl,h'.get? b=some {o with slots:=sl}
 free:∀b o,h.get? b=some o->H b=none->b∉ex->H' b=none
 there:∀b o,h.get? b=some o->b∉ex -> ∃o',h'.get? b=some o'
 tups:∀b xs,H b=some (.tup xs)->H' b=some (.tup xs)
 frzs:∀b o u,H b=some (.frz o u)->H' b=some (.frz o u)
 tbls:∀b ps,H b=some (.tbl ps) -> ∃more,H' b=some (.tbl (ps++more))
section
variable{fs fs' ex ex':List dk}{H H1 H2:Hp}{h h1 h2 h':dB}{a x e:dk}{o:HO}
theorem Un.any(u:Un fs ex H H1 h h1){b:dk}{a:Obj}(q:h.get? b=Z a)(n:H b=Y)(hx:b∉ex):∃d,h1.get? b=Z {a with slots:=d}:=by
 by_cases c:b∈fs
 ·exact u.slot b a q n c hx
 ·exact⟨a.slots,u.keep b a q n c hx⟩
theorem Un.trans(a:Un fs ex H H1 h h1)(b:Un fs ex H1 H2 h1 h2):Un fs ex H H2 h h2 where
 keep:=λc e q n hc d=>b.keep c e (a.keep c e q n hc d) (a.free c e q n d) hc d
 slot:=λc e q n hc d=>by
  obtain⟨j,f⟩:=a.slot c e q n hc d;obtain⟨i,g⟩:=b.slot c _ f (a.free c e q n d) hc d;exact⟨i,g⟩
 free:=λc e q n d=>by
  obtain⟨o',f⟩:=a.there c e q d;exact b.free c o' f (a.free c e q n d) d
 there:=λc e q d=>by
  obtain⟨o',f⟩:=a.there c e q d;exact b.there c o' f d
 tups:=λc xs q=>b.tups c xs (a.tups c xs q)
 frzs:=λc e xs q=>b.frzs c e xs (a.frzs c e xs q)
 tbls:=λc ps q=>by
  obtain⟨m1,f⟩:=a.tbls c ps q;obtain⟨m2,g⟩:=b.tbls c _ f;exact⟨m1++m2,by rw[g,Array.append_assoc]⟩
theorem Un.kept(k:∀b u,h.get? b=Z u->h'.get? b=Z u):Un fs ex H H h h':=
 ⟨λb a q _ _ _=>k b a q,λb a q _ _ _=>⟨a.slots,k b a q⟩,λ_ _ _ n _=>n,λb a q _=>⟨a,k b a q⟩,λ_ _ q=>q,λ_ _ _ q=>q,λ_ ps q=>⟨#[],by rw[q];simp⟩⟩
theorem Un.refl:Un fs ex H H h h:=Un.kept λ_ _ q=>q
theorem Un.laid(k:∀b u,h.get? b=Z u->h'.get? b=Z u)(hp:h.objs.size<=a)(hn:H a=Y):Un fs ex H (upd H a o) h h' where
 keep:=λb u q _ _ _=>k b u q
 slot:=λb u q _ _ _=>⟨u.slots,k b u q⟩
 free:=λb u q n _=>by rw[d6 (nN1 (nL1 (hL1 q) hp))];exact n
 there:=λb u q _=>⟨u,k b u q⟩
 tups:=λb xs q=>by rw[d6 (et q hn)];exact q
 frzs:=λb u xs q=>by rw[d6 (et q hn)];exact q
 tbls:=λb ps q=>⟨#[],by rw[d6 (et q hn),q];simp⟩
theorem Un.write(mu:KG (H x))(he:e=x\/H e=Z (.own x))(k:∀b u,b≠e->h.get? b=Z u->h'.get? b=Z u)(c:∃u,h'.get? e=Z u):Un fs ex H (upd H x o) h h':=by
 have g:∀b,H b=Y->b≠x:=λb n z=>by subst z;rw[n]at mu;exact mu
 have f:∀b,H b=Y->b≠e:=λb n z=>by
  subst z;rcases he with r|r
  ·exact g b n r
  ·rw[n]at r;cases r
 have d:∀b u,H b=Z u -> ¬ KG (Z u)->b≠x:=λb u q nm z=>by subst z;rw[q]at mu;exact nm mu
 refine⟨λb u q n _ _=>k b u (f b n) q,λb u q n _ _=>⟨u.slots,k b u (f b n) q⟩,λb u q n _=>by rw[d6 (g b n)];exact n,λb u q _=>?_,
  λb xs q=>by rw[d6 (d b _ q λz=>z)];exact q,λb u xs q=>by rw[d6 (d b _ q λz=>z)];exact q,λb ps q=>⟨#[],by rw[d6 (d b _ q λz=>z),q];simp⟩⟩
 by_cases a:b=e
 ·subst a;exact c
 ·exact⟨u,k b u a q⟩
end
def trk(h:dB)(H:Hp):List dk:=(af h.objs.size).filter λa=>(H a).isSome
def s3(h:dB)(H:Hp):dB:=PySem.W.hideAll h (trk h H)
theorem zM(h:dB)(H:Hp):(s3 h H).objs.size=h.objs.size:=PySem.W.hideAll_size _ _
theorem CN{h:dB}{H:Hp}{b:dk}{o:Obj}(e:h.get? b=Z o)(n:H b=Y):(s3 h H).get? b=Z o:=
 PySem.W.hideAll_get _ e λa=>by
  have q:(H b).isSome=M:=(aB.mp a).2;rw[n]at q;simp at q
theorem Fi{h:dB}{H:Hp}{b:dk}{o:Obj}(e:(s3 h H).get? b=Z o):h.get? b=Z o/\H b=Y:=by
 have a:h.get? b=Z o:=PySem.W.of_hideAll (trk h H) e;refine⟨a,?_⟩;cases q:H b with
 |none=>rfl
 |some x=>
  have c:b∈trk h H:=aB.mpr ⟨aC.mpr (hL1 a),by simp[q]⟩;have z:(s3 h H).get? b=Y:=PySem.W.hideAll_none (trk h H) c;rw[z]at e;cases e
noncomputable def GL(g h:dB)(L:dk):List (dk×Obj):=(af h.objs.size).filterMap λa=>if a=L\/(g.get? a).isSome=M then Y else(h.get? a).map λo=>(a,o)
def rest(g h:dB)(L d:dk):List (dk×Obj):=(GL g h L).filter λp=>decide (p.1≠d)
structure Mod (K:Fg1)(mg:Str->Option di)(base:dB):Prop where
 kin:K.In base
 glob:base.Ns dv mg
 blt:∃mb,base.Ns builtinsNs mb /\ ∀x:Str,x≠"__name__"->mb x=Pv x
 nolimit:base.NoLimit
structure Cx where
 prog:dn
 w:dr
 K:Fg1
 mg:Str->Option di
 base:dB
 A:dq
 N:List Str
 s₀:dj
 H₀:Hp
 env:Env
 outer:List Env
 stack:List Env
 ex:List dk
 fn:Str->Bool
 calm:Bool
 pn:List (dk×Obj)
 xe:di->dj->Prop
def frs(l:List Env):List dk:=l.filterMap (·.frame)
abbrev Cx.fs(X:Cx):List dk:=frs X.outer
def Vis(sc:dF)(x:Str):Prop:=sc.names.lookup x=Z .local\/sc.names.lookup x=Z .cell\/sc.names.lookup x=Z .free
def vE(sc:dF)(x:Str):Prop:=sc.names.lookup x=Z .local\/sc.names.lookup x=Z .cell
def N6(env:Env)(h:dB)(m:Str->Option di)(x:Str)(u:di):Prop:=
 (env.kindOf x=Z .local/\m x=Z u)\/((env.kindOf x=Z .cell\/env.kindOf x=Z .free) /\ ∃c,env.cells.lookup x=Z c/\h.IsCell c (Z u))
structure Cx.Ok (X:Cx):Prop where
 mod:Mod X.K X.mg X.base
 kind:X.env.scope.kind = .function
 glob:X.env.globals=dv
 blt:X.env.builtins=builtinsNs
 above:X.s₀.heap.objs.size<=X.env.locals
 inj:∀x y c,X.env.cells.lookup x=some c->X.env.cells.lookup y=some c->x=y
 has:∀x,(X.env.kindOf x=some .cell\/X.env.kindOf x=some .free) -> ∃c,X.env.cells.lookup x=some c
 cab:∀x c,X.fn x=true->X.env.cells.lookup x=some c->X.s₀.heap.objs.size<=c
 hd:X.calm=true->X.A.handled=none
 frames:X.A.frames=some X.stack
 stk:X.stack=X.outer\/(X.stack=X.env::X.outer/\X.env.frame=some X.env.locals)
 exf:∀b∈X.ex,b≠X.env.locals /\ ∀x c,X.env.cells.lookup x=some c->c≠b
 bs:∀b o,X.base.get? b=some o->X.s₀.heap.get? b=some o/\X.H₀ b=none
 bsz:X.base.objs.size<=X.s₀.heap.objs.size
 noex:∀b o,X.base.get? b=some o->b∉X.ex
 exfs:∀b∈X.ex,b∉X.fs
 funs:X.s₀.heap.FunFrames X.base X.outer
 frf:∀b∈X.fs,X.H₀ b=none
structure Inv (X:Cx)(ag:List (dk×Obj))(σ:List (Option V))(H:Hp)(s:dj):Prop where
 ok:X.Ok
 os:s.os=X.s₀.os
 bare:Pw s.gens
 base:Un X.fs X.ex X.H₀ H X.s₀.heap s.heap
 loc:∃m,s.heap.Ns X.env.locals m /\ ∀(i:Nat) (x:Str) (v:V),X.N[i]?=some x->σ[i]?=some (some v)->Vis X.env.scope x -> ∃u,d4 v u/\N6 X.env s.heap m x u
 cell:∀x c,X.env.cells.lookup x=some c -> ∃v,s.heap.IsCell c v
 free:H X.env.locals=none
 freeC:∀x c,X.env.cells.lookup x=some c->H c=none
 pin:∀p∈X.pn++ag,s.heap.get? p.1=some p.2/\H p.1=none/\p.1≠X.env.locals/\p.1∉X.fs /\ ∀v,p.2.data ≠ .cell v
 hok:lu X.prog X.w H s.heap
 len:σ.length=X.N.length
variable{X:Cx}
section
variable{ag:List (dk×Obj)}{σ:List (Option V)}{H H':Hp}{s:dj}{h':dB}
theorem Cx.Ok.nofr(ok:X.Ok){b:dk}{o:Obj}(e:X.base.get? b=Z o):b∉X.fs:=λa=>by
 have:=(ok.funs.mem a).1;rw[e]at this;cases this
theorem Inv.bs(I:Inv X ag σ H s):∀b o,X.base.get? b=Z o->s.heap.get? b=Z o/\H b=Y:=λb o e=>
 ⟨I.base.keep b o (I.ok.bs b o e).1 (I.ok.bs b o e).2 (I.ok.nofr e) (I.ok.noex b o e),I.base.free b o (I.ok.bs b o e).1 (I.ok.bs b o e).2 (I.ok.noex b o e)⟩
theorem Inv.bk(I:Inv X ag σ H s):∀b o,X.base.get? b=Z o->s.heap.get? b=Z o:=λb o e=>(I.bs b o e).1
theorem Inv.mod(I:Inv X ag σ H s):Mod X.K X.mg X.base:=I.ok.mod
theorem Inv.kIn(I:Inv X ag σ H s):X.K.In s.heap:=I.ok.mod.kin.keeps I.bk
theorem Inv.lt(I:Inv X ag σ H s):X.env.locals<s.heap.objs.size:=let ⟨_,hn,_⟩:=I.loc;hn.lt
theorem Inv.sz(I:Inv X ag σ H s):X.s₀.heap.objs.size<=s.heap.objs.size:=aD I.ok.above (Nat.le_of_lt I.lt)
theorem Inv.nofs(I:Inv X ag σ H s){a:dk}(h:s.heap.objs.size<=a):a∉X.fs:=λb=>by
 obtain⟨_,o,c,_⟩:=I.ok.funs.mem b;exact absurd (nL1 (hL1 c) (aD I.sz h)) (aA _)
theorem Inv.cne(I:Inv X ag σ H s):∀x c,X.env.cells.lookup x=Z c->c≠X.env.locals:=λx c e z=>by
 obtain⟨v,o,d,f⟩:=I.cell x c e;obtain⟨m,⟨o',es,ep,b,a,_⟩,_⟩:=I.loc;rw[z,b]at d;cases d;rw[a]at f;cases f
theorem Inv.funs(I:Inv X ag σ H s):s.heap.FunFrames X.base X.outer:=by
 have all:∀(l:List Env),(∀b∈frs l,b∈X.fs)->X.s₀.heap.FunFrames X.base l->s.heap.FunFrames X.base l:=by
  intro l
  induction l with
  |nil=>intro _ _;trivial
  |cons n r ih=>
   intro f m;obtain⟨k,⟨L,o,a,i,j,g⟩,h⟩:=m;have d:L∈X.fs:=f L (by unfold frs;rw[aE,a];exact mS1);obtain⟨p,e⟩:=I.base.slot L o j (I.ok.frf L d) d λz=>I.ok.exfs L z d;exact⟨k,⟨L,_,a,i,e,g⟩,ih (λb c=>f b (by unfold frs;rw[aE,a];exact mC1 _ c)) h⟩
 exact all X.outer (λ_ c=>c) I.ok.funs
theorem Inv.stack(I:Inv X ag σ H s):s.heap.FunFrames X.base X.stack:=by
 rcases I.ok.stk with e|⟨e,b⟩
 ·rw[e];exact I.funs
 ·rw[e];obtain⟨m,a,_⟩:=I.loc;refine .cons (by rw[I.ok.kind];decide) b a ?_ I.funs;exact Px (aD I.ok.bsz I.ok.above)
theorem Inv.stkSub(I:Inv X ag σ H s):∀b∈frs X.stack,b∈X.env.locals::X.fs:=λb a=>by
 rcases I.ok.stk with e|⟨e,c⟩
 ·rw[e]at a;exact mC1 _ a
 ·rw[e]at a;unfold frs at a;rw[aE,c]at a;exact a
theorem Inv.stkFree(I:Inv X ag σ H s):∀b∈frs X.stack,H b=Y:=λb a=>by
 rcases aF.mp (I.stkSub b a)with e|a
 ·rw[e];exact I.free
 ·obtain⟨_,o,c,_⟩:=I.ok.funs.mem a;exact I.base.free b o c (I.ok.frf b a) λz=>I.ok.exfs b z a
theorem Inv.step{g':Array GenState}{t':Nat}{d':Drawn}{ch:List dk}(I:Inv X ag σ H s)(h:∀b∈ch,(b∈X.ex\/X.s₀.heap.objs.size<=b)/\b≠X.env.locals/\(∀x c,X.env.cells.lookup x=some c->c≠b) /\ ∀p∈X.pn++ag,p.1≠b)(keep:∀b o,b≠X.env.locals->b∉X.fs->b∉ch->s.heap.get? b=some o->H b=none->h'.get? b=some o)(slot:∀b o,b≠X.env.locals->b∈X.fs->b∉ch->s.heap.get? b=some o->H b=none -> ∃K,h'.get? b=some {o with slots:=K})(free:∀b o,b∉ch->s.heap.get? b=some o->H b=none->H' b=none)(w:∀b o,b∉ch->s.heap.get? b=some o -> ∃o',h'.get? b=some o')(E:∀b xs,H b=some (.tup xs)->H' b=some (.tup xs))(F:∀b o u,H b=some (.frz o u)->H' b=some (.frz o u))(D:∀b ps,H b=some (.tbl ps) -> ∃more,H' b=some (.tbl (ps++more)))(ns:∀m,s.heap.Ns X.env.locals m->h'.Ns X.env.locals m)(L:lu X.prog X.w H' h')(hg:Pw g'):
  Inv X ag σ H' {s with heap:=h',gens:=g',drawn:=d',toks:=t'}:=by
 have B:∀b o,X.s₀.heap.get? b=Z o->b≠X.env.locals:=λb o e=>nN1 (nL1 (hL1 e) I.ok.above);have t:∀b o,X.s₀.heap.get? b=Z o->b∉X.ex->b∉ch:=λb o e a y=>by
  rcases(h b y).1 with z|z
  ·exact a z
  ·exact absurd (nL1 (hL1 e) z) (aA _)
 have f:∀x c,X.env.cells.lookup x=Z c -> ∀v,s.heap.IsCell c v->h'.IsCell c v:=λx c e v ⟨o,A,G⟩=>by
  have g:c∉ch:=λz=>(h c z).2.2.1 x c e O;by_cases hc:c∈X.fs
  ·obtain⟨K,q⟩:=slot c o (I.cne x c e) hc g A (I.freeC x c e);exact⟨_,q,G⟩
  ·exact⟨o,keep c o (I.cne x c e) hc g A (I.freeC x c e),G⟩
 refine⟨I.ok,I.os,hg,⟨λb o e n y a=>?_,λb o e n y a=>?_,λb o e n a=>?_,λb o e a=>?_,λb xs e=>E b xs (I.base.tups b xs e),λb o xs e=>F b o xs (I.base.frzs b o xs e),λb ps e=>?_⟩,?_,λx c e=>?_,?_,λx c e=>?_,λp N=>?_,L,I.len⟩
 ·exact keep b o (B b o e) y (t b o e a) (I.base.keep b o e n y a) (I.base.free b o e n a)
 ·obtain⟨K,j⟩:=I.base.slot b o e n y a;obtain⟨ao,C⟩:=slot b _ (B b o e) y (t b o e a) j (I.base.free b o e n a);exact⟨ao,C⟩
 ·obtain⟨o',j⟩:=I.base.there b o e a;exact free b o' (t b o e a) j (I.base.free b o e n a)
 ·obtain⟨o',j⟩:=I.base.there b o e a;exact w b o' (t b o e a) j
 ·obtain⟨m1,j⟩:=I.base.tbls b ps e;obtain⟨m2,C⟩:=D b _ j;exact⟨m1++m2,by rw[C,Array.append_assoc]⟩
 ·obtain⟨m,av,Q⟩:=I.loc;refine⟨m,ns m av,λi x v j C P=>?_⟩;obtain⟨u,r,l⟩:=Q i x v j C P;refine⟨u,r,?_⟩;rcases l with l|⟨k,c,e,z⟩
  ·exact .inl l
  ·exact .inr ⟨k,c,e,f x c e _ z⟩
 ·obtain⟨v,z⟩:=I.cell x c e;exact⟨v,f x c e v z⟩
 ·obtain⟨m,⟨o,_,_,A,_⟩,_⟩:=I.loc;exact free _ o (λz=>(h _ z).2.1 O) A I.free
 ·obtain⟨v,o,A,G⟩:=I.cell x c e;exact free c o (λz=>(h c z).2.2.1 x c e O) A (I.freeC x c e)
 ·obtain⟨e,n,ne,aq,d⟩:=I.pin p N;have g:p.1∉ch:=λz=>(h p.1 z).2.2.2 p N O;exact⟨keep p.1 p.2 ne aq g e n,free p.1 p.2 g e n,ne,aq,d⟩
theorem Inv.un{t':Nat}(I:Inv X ag σ H s)(u:Un X.fs [] H H' s.heap h')(g:lu X.prog X.w H' h'):Inv X ag σ H' {s with heap:=h',toks:=t'}:=by
 obtain⟨m,⟨o,es,ep,h,r⟩,_⟩:=id I.loc;obtain⟨p,j⟩:=u.any h I.free (by simp);exact I.step (g':=s.gens) (d':=s.drawn) (ch:=[]) (λ_ z=>nomatch z) (λb o _ f _ e n=>u.keep b o e n f (by simp)) (λb o _ f _ e n=>u.slot b o e n f (by simp)) (λb o _ e n=>u.free b o e n (by simp)) (λb o _ e=>u.there b o e (by simp)) u.tups u.frzs u.tbls (λl k=>by
  obtain⟨o',d,c,a,i⟩:=k;rw[h]at a;cases a;exact⟨_,d,c,j,i⟩) g I.bare
theorem Inv.call{g':Array GenState}{t':Nat}{d':Drawn}{ch:List dk}(I:Inv X ag σ H s)(u:Un (frs X.stack) ch H H' s.heap h')(i:lu X.prog X.w H' h')(hg:Pw g')(a:∀b∈ch,(b∈X.ex\/X.s₀.heap.objs.size<=b)/\b≠X.env.locals/\(∀x c,X.env.cells.lookup x=some c->c≠b) /\ ∀p∈X.pn++ag,p.1≠b):
  Inv X ag σ H' {s with heap:=h',gens:=g',drawn:=d',toks:=t'}:=by
 obtain⟨m,⟨o,es,ep,j,r⟩,_⟩:=id I.loc;obtain⟨v,h⟩:=u.any j I.free λz=>(a _ z).2.1 O;exact I.step (ch:=ch) a (λb o h l hc e n=>u.keep b o e n (λz=>(aF.mp (I.stkSub b z)).elim h l) hc) (λb o _ _ hc e n=>u.any e n hc) (λb o hc e n=>u.free b o e n hc) (λb o hc e=>u.there b o e hc) u.tups u.frzs u.tbls (λt q=>by
  obtain⟨o',g,f,d,k⟩:=q;rw[j]at d;cases d;exact⟨_,g,f,h,k⟩) i hg
theorem Inv.turned{t':Nat}{it:dk}(I:Inv X ag σ H s)(k:∀ b o,b≠it->s.heap.get? b=Z o->h'.get? b=Z o)(hn:H it=Y)(d:it≠X.env.locals)(h1:it∈X.ex\/X.s₀.heap.objs.size<=it)(h2:∀x c,X.env.cells.lookup x=Z c->c≠it)(h:∀p∈X.pn++ag,p.1≠it):Inv X ag σ H {s with heap:=h',toks:=t'}:=by
 have a:∀b u,H b=Z u->b≠it:=λb u e z=>by rw[z,hn]at e;cases e
 refine I.step (g':=s.gens) (d':=s.drawn) (ch:=[it]) (λb f=>?_) (λb o _ _ hc e _=>k b o (λz=>hc (by simp[z])) e) (λb o _ _ hc e _=>⟨o.slots,k b o (λz=>hc (by simp[z])) e⟩) (λ_ _ _ _ n=>n)
  (λb o hc e=>⟨o,k b o (λz=>hc (by simp[z])) e⟩) (λ_ _ e=>e) (λ_ _ _ e=>e) (λb ps e=>⟨#[],by rw[e];simp⟩) (λm i=>?_) (λb u e=>?_) I.bare
 ·have e:b=it:=by simpa using f
  subst e;exact⟨h1,d,h2,h⟩
 ·obtain⟨o,es,ep,g,r⟩:=i;exact⟨o,es,ep,k _ o (Py d) g,r⟩
 ·refine(I.hok b u e).stay (λc v hc q=>k c v ?_ q) (λ_ q=>q) λ_ _ q=>q;rcases hc with z|z
  ·rw[z];exact a b u e
  ·exact a c _ z
theorem Inv.tok(I:Inv X ag σ H s)(t:Nat):Inv X ag σ H {s with toks:=t}:=I.un (h':=s.heap) (t':=t) Un.refl I.hok
theorem Inv.kept{t':Nat}(I:Inv X ag σ H s)(k:∀b u,s.heap.get? b=Z u->h'.get? b=Z u):Inv X ag σ H {s with heap:=h',toks:=t'}:=I.un (Un.kept k) (I.hok.kept k)
theorem Inv.laid{a:dk}{o:HO}{t':Nat}(I:Inv X ag σ H s)(k:∀ b u,s.heap.get? b=some u->h'.get? b=some u)(hp:s.heap.objs.size<=a)(new:eP X.prog X.w (upd H a o) h' a o):
  Inv X ag σ (upd H a o) {s with heap:=h',toks:=t'}:=I.un (Un.laid k hp (I.hok.fresh hp)) (I.hok.laid k hp new)
theorem Inv.write{x e:dk}{o:HO}{t':Nat}(I:Inv X ag σ H s)(mu:KG (H x))(he:e=x\/H e=Z (.own x))(k:∀ b u,b≠e->s.heap.get? b=Z u->h'.get? b=Z u)(a:∃ u,h'.get? e=Z u)(new:eP X.prog X.w (upd H x o) h' x o):Inv X ag σ (upd H x o) {s with heap:=h',toks:=t'}:=I.un (Un.write mu he k a) (I.hok.write mu he k a new)
theorem Inv.pins_of{a:List (dk×Obj)}(I:Inv X ag σ H s)(h:∀p∈a,s.heap.get? p.1=Z p.2/\H p.1=Y/\p.1≠X.env.locals/\p.1∉X.fs /\ ∀v,p.2.data ≠ .cell v):Inv X a σ H s:=
 ⟨I.ok,I.os,I.bare,I.base,I.loc,I.cell,I.free,I.freeC,λp b=>(aG.mp b).elim (λz=>I.pin p (aH _ z)) (h p),I.hok,I.len⟩
theorem uz{N:List Str}(hN:N.Nodup){i j:Nat}{x:Str}(a:N[i]?=Z x)(b:N[j]?=Z x):i=j:=by
 obtain⟨h1,c⟩:=R9 a;obtain⟨h2,d⟩:=R9 b;exact(aI hN).mp (c.trans d.symm)
theorem yV{aq:Model}{A:dq}{E:di->dj->Prop}{i:Nat}{x:Str}{v:V}{u:di}{Q:Unit->dj->Prop}(I:Inv X ag σ H s)(hN:X.N.Nodup)(hi:X.N[i]? = Z x)(hx:vE X.env.scope x)(r:d4 v u)(h:∀s',Inv X ag (σ.set i (Z v)) H s'->(∃a,Pz a s.heap s'.heap/\(a=X.env.locals\/X.env.cells.lookup x=Z a))->Q () s')(hf:autoParam (X.fn x=M\/X.env.scope.names.lookup x=Z .local) au0):dz aq A (storeName X.env x u) Q E s:=by
 obtain⟨m,W,hl⟩:=id I.loc;have N:(X.env.scope.kind == .class||(X.env.scope.kind == .module&&X.env.locals != X.env.globals))=J:=by rw[I.ok.kind];rfl
 have w:i<σ.length:=by rw[I.len];exact(R9 hi).1
 have cne:=I.cne;have tracked:∀{a:dk} {h':dB},(∃o,s.heap.get? a=Z o/\H a=Y)->Pz a s.heap h'->lu X.prog X.w H h':=λ{a h'} ha f b ob e=>by
  obtain⟨_,_,l⟩:=ha;refine(I.hok b ob e).stay (λc P hc q=>(f.2 c ?_).trans q) (λ_ q=>q) λ_ _ q=>q;rintro rfl;rcases hc with rfl|hc
  ·rw[l]at e;cases e
  ·rw[l]at hc;cases hc
 rcases hx with B|B
 ·refine wpAny_storeName_local B W (λh' T f=>?_) N;obtain⟨oL,_,_,hoL,_⟩:=id W;refine h _ ⟨I.ok,I.os,I.bare,⟨λb o e n F hx=>?_,λb o e n F hx=>?_,I.base.free,λb o e hx=>?_,I.base.tups,I.base.frzs,I.base.tbls⟩,⟨_,T,λj y R g t e3=>?_⟩,λy c e=>?_,I.free,I.freeC,λp wq=>?_,tracked ⟨oL,hoL,I.free⟩ f,by simpa using I.len⟩ ⟨_,f,.inl O⟩
  ·exact(f.2 b (nN1 (nL1 (hL1 e) I.ok.above))).trans (I.base.keep b o e n F hx)
  ·obtain⟨sl,g⟩:=I.base.slot b o e n F hx;exact⟨sl,(f.2 b (nN1 (nL1 (hL1 e) I.ok.above))).trans g⟩
  ·obtain⟨o',g⟩:=I.base.there b o e hx;exact⟨o',(f.2 b (nN1 (nL1 (hL1 e) I.ok.above))).trans g⟩
  ·by_cases D:j=i
   ·subst D;rw[hi]at g;cases g;rw[aJ w]at t;cases t;exact⟨u,r,.inl ⟨B,by simp⟩⟩
   ·rw[gS1 (Py D)]at t;obtain⟨au,S,q⟩:=hl j y R g t e3;refine⟨au,S,?_⟩;rcases q with⟨k,e⟩|⟨k,c,e,z⟩
    ·refine .inl ⟨k,?_⟩;have:y≠x:=λe=>D (uz hN g (e ▸ hi));simp[this,e]
    ·exact .inr ⟨k,c,e,z.sameBut f (cne y c e)⟩
  ·obtain⟨P,z⟩:=I.cell y c e;exact⟨P,z.sameBut f (cne y c e)⟩
  ·obtain⟨e,n,ne,U,d⟩:=I.pin p wq;exact⟨(f.2 p.1 ne).trans e,n,ne,U,d⟩
 ·have C:X.fn x=true:=by
   rcases hf with z|z
   ·exact z
   ·rw[z]at B;cases B
  obtain⟨c,hc⟩:=I.ok.has x (.inl B);obtain⟨P,z⟩:=I.cell x c hc;refine wpAny_storeName_cell I.ok.kind B hc z (λh' G f=>?_);obtain⟨oc,ao,K⟩:=id z;refine h {s with heap:=h'} ⟨I.ok,I.os,I.bare,⟨λb o e n F hx=>?_,λb o e n F hx=>?_,I.base.free,λb o e hx=>?_,I.base.tups,I.base.frzs,I.base.tbls⟩,⟨m,W.sameBut f (Py (cne x c hc)),λj y R g t e3=>?_⟩,λy av e=>?_,I.free,I.freeC,λp wq=>?_,tracked ⟨oc,ao,I.freeC x c hc⟩ f,by simpa using I.len⟩ ⟨c,f,.inr hc⟩
  ·exact(f.2 b (nN1 (nL1 (hL1 e) (I.ok.cab x c C hc)))).trans (I.base.keep b o e n F hx)
  ·obtain⟨sl,g⟩:=I.base.slot b o e n F hx;exact⟨sl,(f.2 b (nN1 (nL1 (hL1 e) (I.ok.cab x c C hc)))).trans g⟩
  ·obtain⟨o',g⟩:=I.base.there b o e hx;exact⟨o',(f.2 b (nN1 (nL1 (hL1 e) (I.ok.cab x c C hc)))).trans g⟩
  ·by_cases D:j=i
   ·subst D;rw[hi]at g;cases g;rw[aJ w]at t;cases t;exact⟨u,r,.inr ⟨.inl B,c,hc,G⟩⟩
   ·rw[gS1 (Py D)]at t;obtain⟨au,S,q⟩:=hl j y R g t e3;refine⟨au,S,?_⟩;rcases q with q|⟨k,av,e,z'⟩
    ·exact .inl q
    ·refine .inr ⟨k,av,e,z'.sameBut f ?_⟩;rintro rfl;exact D (uz hN g (I.ok.inj _ _ _ e hc ▸ hi))
  ·by_cases L:av=c
   ·subst L;exact⟨_,G⟩
   ·obtain⟨w2,z2⟩:=I.cell y av e;exact⟨w2,z2.sameBut f L⟩
  ·obtain⟨e,n,ne,U,d⟩:=I.pin p wq;refine⟨(f.2 p.1 ?_).trans e,n,ne,U,d⟩;intro q;rw[q,ao]at e;have q':oc=p.2:=Option.some.inj e;exact d P (by rw[<- q'];exact K)
theorem jA{aq:Model}{A:dq}{E:di->dj->Prop}{i:Nat}{x:Str}{v:V}{u:di}{Q:Unit->dj->Prop}(I:Inv X ag σ H s)(hN:X.N.Nodup)(hi:X.N[i]? = Z x)(hx:vE X.env.scope x)(r:d4 v u)(h:∀s',Inv X ag (σ.set i (Z v)) H s'->Q () s')(hf:autoParam (X.fn x=M\/X.env.scope.names.lookup x=Z .local) au0):dz aq A (storeName X.env x u) Q E s:=
 yV I hN hi hx r (λs' a _=>h s' a) hf
theorem Inv.call'{s':dj}{ch:List dk}(I:Inv X ag σ H s)(ho:s'.os=s.os)(u:Un (frs X.stack) ch H H' s.heap s'.heap)(d:lu X.prog X.w H' s'.heap)(hg:Pw s'.gens)(a:∀b∈ch,(b∈X.ex\/X.s₀.heap.objs.size<=b)/\b≠X.env.locals/\(∀x c,X.env.cells.lookup x=Z c->c≠b) /\ ∀p∈X.pn++ag,p.1≠b):Inv X ag σ H' s':=by
 obtain⟨h',h,f,g,o'⟩:=s';have e:o'=s.os:=ho;subst e;exact I.call (g':=h) (t':=g) (d':=f) u d hg a
end
abbrev XK:=di->Option dk->Hp->Prop
abbrev St:=List (Option V)
abbrev VK:=V->Hp->Prop
abbrev TE:=St->Hp->VK->Prop
abbrev TT:=St->Hp->(Bool->Hp->Prop)->Prop
abbrev TA:=St->Hp->(List V->Hp->Prop)->Prop
structure jx where
 nx:St->Hp->Prop
 rt:VK
 bk:St->Hp->Prop:=λ_ _=>False
 ct:St->Hp->Prop:=λ_ _=>False
abbrev TS:=jx->St->Hp->Prop
def EP(X:Cx)(ag:List (dk×Obj))(σ:St)(Q:VK)(u:di)(s':dj):Prop:=∃v H',Inv X ag σ H' s'/\d4 v u/\Q v H'
def TP(X:Cx)(ag:List (dk×Obj))(σ:St)(Q:Bool->Hp->Prop)(b:Bool)(s':dj):Prop:=∃H',Inv X ag σ H' s'/\Q b H'
def AP(X:Cx)(ag:List (dk×Obj))(σ:St)(Q:List V->Hp->Prop)(us:List di)(s':dj):Prop:=∃vs H',Inv X ag σ H' s'/\ee vs us/\Q vs H'
def SP(X:Cx)(ag:List (dk×Obj))(D:jx)(f:Flow)(s':dj):Prop:=
 match f with
 | .next=>∃ σ' H',Inv X ag σ' H' s'/\D.nx σ' H'
 | .brk=>∃ σ' H',Inv X ag σ' H' s'/\D.bk σ' H'
 | .cont=>∃ σ' H',Inv X ag σ' H' s'/\D.ct σ' H'
 | .ret u=>∃v σ' H',Inv X ag σ' H' s'/\d4 v u/\D.rt v H'
def PE(X:Cx)(e:Expr)(t:TE):Prop:=
 ∀(ag:List (dk×Obj)) (s:dj) (σ:St) (H:Hp) (Q:VK),Inv X ag σ H s->t σ H Q->dz (PB X.prog X.w) X.A (eval e X.env) (EP X ag σ Q) X.xe s
def PT(X:Cx)(e:Expr)(t:TT):Prop:=
 ∀(ag:List (dk×Obj)) (s:dj) (σ:St) (H:Hp) (Q:Bool->Hp->Prop),Inv X ag σ H s->t σ H Q->dz (PB X.prog X.w) X.A (isTrue e X.env (eval e X.env)) (TP X ag σ Q) X.xe s
def PW(X:Cx)(e:Expr)(t:TT):Prop:=
 ∀(whole:Sem di) (ag:List (dk×Obj)) (s:dj) (σ:St) (H:Hp) (Q:Bool->Hp->Prop),Inv X ag σ H s->t σ H Q->dz (PB X.prog X.w) X.A (isTrue e X.env whole) (TP X ag σ Q) X.xe s
theorem PW.pt{X:Cx}{e:Expr}{t:TT}(h:PW X e t):PT X e t:=h _
def PA(X:Cx)(es:List Expr)(t:TA):Prop:=
 ∀(pos:Pos) (ag:List (dk×Obj)) (s:dj) (σ:St) (H:Hp) (Q:List V->Hp->Prop),Inv X ag σ H s->t σ H Q->dz (PB X.prog X.w) X.A (spliced (PC pos (dw es X.env))) (AP X ag σ Q) X.xe s
def PS(X:Cx)(st:dE)(t:TS):Prop:=
 ∀(ag:List (dk×Obj)) (s:dj) (σ:St) (H:Hp) (D:jx),Inv X ag σ H s->t D σ H->dz (PB X.prog X.w) X.A (exec st X.env) (SP X ag D) X.xe s
def vI(X:Cx)(st:List dE)(t:TS):Prop:=
 ∀(ag:List (dk×Obj)) (s:dj) (σ:St) (H:Hp) (D:jx),Inv X ag σ H s->t D σ H->dz (PB X.prog X.w) X.A (execs st X.env) (SP X ag D) X.xe s
theorem fh{α:Type}{t:Sem α}{Q b:α->dj->Prop}{aq:Model}{A:dq}{E:di->dj->Prop}{s:dj}(h:dz aq A t Q E s)(c:∀a s,Q a s->b a s):dz aq A t b E s:=PD h c λ_ _ x=>x
section
theorem Pi{a b:Expr}{ta tb:TE}(ha:PE X a ta)(hb:PE X b tb){ag:List (dk×Obj)}{s:dj}{σ:St}{H:Hp}{R:V->V->Hp->Prop}(I:Inv X ag σ H s)(h:ta σ H fun x H1=>tb σ H1 fun y H2=>R x y H2){α:Type}{Q:α->dj->Prop}{f:di->di->Sem α}(hf:∀v u e x y H2,Inv X ag σ H2 e->d4 x v->d4 y u->R x y H2->dz (PB X.prog X.w) X.A (f v u) Q X.xe e):
  dz (PB X.prog X.w) X.A (eval a X.env) (λv d=>dz (PB X.prog X.w) X.A (eval b X.env) (λu c=>dz (PB X.prog X.w) X.A (f v u) Q X.xe c) X.xe d) X.xe s:=by
 refine fh (ha ag s σ H _ I h) λv m ⟨x,H1,j,i,l⟩=>?_;refine fh (hb ag m σ H1 _ j l) λu e ⟨y,H2,g,r2,k⟩=>?_;exact hf v u e x y H2 g i r2 k
def M7(i:Nat):TE:=fun σ H Q=>∃v,σ[i]?=Z (Z v)/\Q v H
def tC(v:V):TE:=λ_ H Q=>Q v H
theorem Ix {i:Nat}{x:Str}{pos:Pos}(hN:X.N[i]?=Z x)(hv:Vis X.env.scope x)(hd:autoParam ((x == ("__debug__":Str))=J) bu0)(hcd:autoParam ((x == ("__classdict__":Str))=J) bu0):PE X (.Name x pos) (M7 i):=by
 intro ag s σ H Q I h;obtain⟨v,e,h⟩:=h;obtain⟨m,f,g⟩:=I.loc;obtain⟨u,r,l⟩:=g i x v hN e hv;have b:EP X ag σ Q u s:=⟨v,H,I,r,h⟩;rcases l with⟨d,j⟩|⟨d,c,hc,a⟩
 ·exact PF (PH I.ok.kind d f j b) hd
 ·rcases d with d|d
  ·exact PF (wpAny_loadName_cell I.ok.kind d hc a b) hd
  ·exact PF (wpAny_loadName_free I.ok.kind d hc a b hcd) hd
theorem IE{i j pos}:PE X (.Constant (.int i) j pos) (tC (.int i)):=λ_ _ _ H _ I h=>wpAny_Constant_int ⟨.int i,H,I.tok _,⟨_,O⟩,h⟩
theorem Lx{b j pos}:PE X (.Constant (.bool b) j pos) (tC (.bl b)):=λ_ _ _ H _ I h=>Constant_bool ⟨.bl b,H,I,O,h⟩
theorem IC{j pos}:PE X (.Constant .none j pos) (tC .non):=λ_ _ _ H _ I h=>Constant_none ⟨.non,H,I,O,h⟩
theorem Iz{x j pos}:PE X (.Constant (.str x) j pos) (tC (.str x)):=λ_ _ _ H _ I h=>Calls.Constant_str ⟨.str x,H,I.tok _,⟨_,O⟩,h⟩
def Gl(X:Cx)(x:Str):Prop:=X.env.kindOf x=Z .globalImplicit
theorem xX {E:di->dj->Prop}{ag:List (dk×Obj)}{s:dj}{σ:St}{H:Hp}{x:Str}{u:di}{pos:Pos}{Q:di->dj->Prop}(I:Inv X ag σ H s)(hg:Gl X x)(hm:X.mg x=some u)(h:Q u s)
  (hd:autoParam ((x == ("__debug__":Str))=J) bu0):dz (PB X.prog X.w) X.A (eval (.Name x pos) X.env) Q E s:=
 Calls.Name_function_global I.ok.kind hg (Calls.loadGlobal_global (by rw[I.ok.glob];exact I.mod.glob.keeps I.bk) hm h) hd
theorem jQ {E:di->dj->Prop}{ag:List (dk×Obj)}{s:dj}{σ:St}{H:Hp}{x:Str}{u:di}{pos:Pos}{Q:di->dj->Prop}(I:Inv X ag σ H s)(hg:Gl X x)(hm:X.mg x=none)(hv:Pv x=some u)(h:Q u s)
  (hn:autoParam (x≠"__name__") bu0) (hd:autoParam ((x == ("__debug__":Str))=J) bu0):dz (PB X.prog X.w) X.A (eval (.Name x pos) X.env) Q E s:=by
 obtain⟨a,h1,h2⟩:=I.mod.blt;exact Calls.Name_function_global I.ok.kind hg (Calls.loadGlobal_builtin (by rw[I.ok.glob];exact I.mod.glob.keeps I.bk) hm (by rw[I.ok.blt];exact h1.keeps I.bk) ((h2 x hn).trans hv) h) hd
theorem E5 {x:Str}{v:V}{u:di}{pos:Pos}(hg:Gl X x)(hm:X.mg x=Z u)(r:d4 v u)(hd:autoParam ((x == ("__debug__":Str))=J) bu0):PE X (.Name x pos) (tC v):=
 λ_ _ _ H _ I h=>xX I hg hm ⟨v,H,I,r,h⟩ hd
theorem Fa {x:Str}{v:V}{u:di}{pos:Pos}(hg:Gl X x)(hm:X.mg x=Y)(hv:Pv x=Z u)(r:d4 v u)(hn:autoParam (x≠"__name__") bu0)(hd:autoParam ((x == ("__debug__":Str))=J) bu0):PE X (.Name x pos) (tC v):=
 λ_ _ _ H _ I h=>jQ I hg hm hv ⟨v,H,I,r,h⟩ hn hd
variable{a b:Expr}{ta tb:TE}{pos:Pos}
def tB(t:TE):TT:=fun σ H Q=>t σ H λx H1=>∃c,x = .bl c/\Q c H1
variable{tA tB':TT}{rest:List Expr}
def Nm(t u:TT):TT:=fun σ H Q=>t σ H λc H1=>if c=M then u σ H1 Q else Q J H1
def OA(t u:TT):TT:=fun σ H Q=>t σ H λc H1=>if c=M then Q M H1 else u σ H1 Q
def Nc(t:TT):TT:=fun σ H Q=>t σ H λc H1=>Q (!c) H1
theorem EM(ha:PT X a tA):PW X (.BoolOp .And [a] pos) tA:=by
 intro d ag s σ H Q I h;refine isTrue_and (fh (ha ag s σ H Q I h) λc b e=>?_);cases c with
 |true=>exact isTrue_and_nil e
 |false=>exact e
theorem Ic(ha:PT X a tA):PW X (.BoolOp .Or [a] pos) tA:=by
 intro d ag s σ H Q I h;refine isTrue_or (fh (ha ag s σ H Q I h) λc b e=>?_);cases c with
 |false=>exact isTrue_or_nil e
 |true=>exact e
theorem Ie(ha:PT X a tA)(hb:PW X (.BoolOp .And (b::rest) pos) tB'):PW X (.BoolOp .And (a::b::rest) pos) (Nm tA tB'):=by
 intro g ag s σ H Q I h;refine isTrue_and (fh (ha ag s σ H _ I h) λc f ⟨H1,d,e⟩=>?_);cases c with
 |true=>exact hb g ag f σ H1 Q d e
 |false=>exact⟨H1,d,e⟩
theorem Lp(ha:PT X a tA)(hb:PW X (.BoolOp .Or (b::rest) pos) tB'):PW X (.BoolOp .Or (a::b::rest) pos) (OA tA tB'):=by
 intro g ag s σ H Q I h;refine isTrue_or (fh (ha ag s σ H _ I h) λc f ⟨H1,d,e⟩=>?_);cases c with
 |true=>exact⟨H1,d,e⟩
 |false=>exact hb g ag f σ H1 Q d e
theorem Ih(ha:PT X a tA):PT X (.UnaryOp .Not a pos) (Nc tA):=by
 intro ag s σ H Q I h;exact isTrue_not (ha ag s σ H (λc H1=>Q (!c) H1) I h)
def Lb(ta tb:TE):TE:=fun σ H Q=>ta σ H λx H1=>∃c,x = .bl c/\if c=M then tb σ H1 Q else Q (.bl J) H1
def K4(ta:TE):TE:=fun σ H Q=>ta σ H λx H1=>∃c,x = .bl c/\Q (.bl (!c)) H1
theorem IA{op}{t:TE}(h:PE X a t):PE X (.BoolOp op [a] pos) t:=λag s σ H Q I b=>BoolOp_one (h ag s σ H Q I b)
theorem IH(ha:PE X a ta)(hb:PE X (.BoolOp .And (b::rest) pos) tb):PE X (.BoolOp .And (a::b::rest) pos) (Lb ta tb):=by
 intro ag s σ H Q I h;refine BoolOp_and (fh (ha ag s σ H _ I h) λv f ⟨x,H1,e,g,d⟩=>?_);obtain⟨c,rfl,d⟩:=d;cases g;refine PJ ?_;cases c with
 |true=>exact hb ag f σ H1 Q e d
 |false=>exact⟨.bl J,H1,e,O,d⟩
theorem IB(ha:PE X a ta):PE X (.UnaryOp .Not a pos) (K4 ta):=by
 intro ag s σ H Q I h;refine UnaryOp_ (fh (ha ag s σ H _ I h) λv f ⟨x,H1,e,d,b⟩=>?_);obtain⟨c,rfl,b⟩:=b;cases d;exact not_of (PJ ⟨.bl (!c),H1,e,O,b⟩)
def OC(t:TT)(ta tb:TE):TE:=fun σ H Q=>t σ H λc H1=>if c=M then ta σ H1 Q else tb σ H1 Q
theorem BM{c:Expr}(hc:PT X c tA)(ha:PE X a ta)(hb:PE X b tb):PE X (.IfExp c a b pos) (OC tA ta tb):=by
 intro ag s σ H Q I h;refine wpAny_IfExp (fh (hc ag s σ H _ I h) λd e ⟨H1,f,g⟩=>?_);cases d with
 |true=>exact ha ag e σ H1 Q f g
 |false=>exact hb ag e σ H1 Q f g
end
def mX(K:Fg1)(H:Hp)(a:dk)(xs:List V):Prop:=
 Rd H a (.lst xs) \/
  ∃(o:Obj) (its:Array di) (n:Nat),K.lookup a=Z o/\o.cls = .type "list"/\o.dict=Y/\o.data = .seq its n/\its.size<=dy/\ee xs its.toList
def kC(K:Fg1)(H:Hp)(a:dk)(xs:List V):Prop:=
 Rd H a (.tup xs) \/
  ∃(o:Obj) (its:Array di) (n:Nat),K.lookup a=Z o/\o.cls = .type "tuple"/\o.dict=Y/\o.data = .seq its n/\its.size<=dy/\ee xs its.toList
noncomputable def NY:di->Option V
 | .none=>Z .non
 | .bool b=>Z (.bl b)
 | .int i _=>Z (.int i)
 | .str x _=>Z (.str x)
 | .bytes b _=>Z (.byt b)
 | .float b _=>Z (.flt b)
 | .ref a=>Z (.ref a)
 | .type n=>Z (.ty n)
 |_=>Y
theorem d4.abs{x:V}{u:di}(r:d4 x u):NY u=Z x:=by
 cases x with
 |non=>cases r;rfl
 |bl _=>cases r;rfl
 |int _=>obtain⟨t,rfl⟩:=r;rfl
 |str _=>obtain⟨t,rfl⟩:=r;rfl
 |byt _=>obtain⟨t,rfl⟩:=r;rfl
 |flt _=>obtain⟨t,rfl⟩:=r;rfl
 |ref _=>cases r;rfl
 |ty _=>cases r;rfl
theorem d4.inj{x y:V}{u:di}(r:d4 x u)(q:d4 y u):x=y:=Option.some.inj (r.abs.symm.trans q.abs)
theorem ee.inj:∀{xs ys:List V} {a:List di},ee xs a->ee ys a->xs=ys:=by
 intro xs ys a h g
 induction h generalizing ys with
 |nil=>cases g;rfl
 |cons r t ih=>cases g with
  |cons b c=>rw[r.inj b,ih c]
section
variable{ag:List (dk×Obj)}{σ:St}{H:Hp}{s:dj}{a:dk}{xs ys:List V}
theorem mX.of{K:Fg1}(h:H a=Z (.lst xs)):mX K H a xs:=.inl (.inl h)
theorem kC.of{K:Fg1}(h:H a=Z (.tup xs)):kC K H a xs:=.inl (.inl h)
theorem Inv.list(I:Inv X ag σ H s)(h:mX X.K H a xs):∃b:List di,ee xs b/\PlainL s.heap a b.toArray/\xs.length<=dy:=by
 rcases h with h|⟨o,b,n,f,hc,d,c,g,r⟩
 ·obtain⟨z,b,n,r,e⟩:=h.ok I.hok;exact⟨b,r,⟨_,n,e,O,O,O⟩,z⟩
 ·refine⟨b.toList,r,⟨o,n,I.kIn a o f,hc,d,by simpa using c⟩,?_⟩;have e:=r.length;simp only[aK]at e;lia
theorem Inv.tuple(I:Inv X ag σ H s)(h:kC X.K H a xs):∃b:List di,ee xs b/\IsTup s.heap a b.toArray/\xs.length<=dy:=by
 rcases h with h|⟨o,b,n,d,hc,_,c,f,r⟩
 ·obtain⟨z,b,r,p⟩:=h.ok I.hok;exact⟨b,r,p.tup,z⟩
 ·refine⟨b.toList,r,⟨o,I.kIn a o d,hc,n,by simpa using c⟩,?_⟩;have e:=r.length;simp only[aK]at e;lia
theorem Inv.tupN(I:Inv X ag σ H s)(h:kC X.K H a xs):∃b:List di,ee xs b/\ms s.heap a b.toArray/\xs.length<=dy:=by
 rcases h with h|⟨o,b,n,f,hc,d,c,g,r⟩
 ·obtain⟨z,b,r,p⟩:=h.ok I.hok;exact⟨b,r,p,z⟩
 ·refine⟨b.toList,r,⟨o,I.kIn a o f,hc,n,by simpa using c,d⟩,?_⟩;have e:=r.length;simp only[aK]at e;lia
theorem Inv.list_inj(I:Inv X ag σ H s)(h:mX X.K H a xs)(h':mX X.K H a ys):xs=ys:=by
 obtain⟨b,r,⟨o,n,e,_,_,d⟩,_⟩:=I.list h;obtain⟨its',g,⟨o',j,f,_,_,c⟩,_⟩:=I.list h';rw[e]at f;cases f;rw[d]at c;injection c with i _;have:b=its':=by simpa using congrArg Array.toList i
 subst this;exact r.inj g
theorem Inv.tuple_inj(I:Inv X ag σ H s)(h:kC X.K H a xs)(h':kC X.K H a ys):xs=ys:=by
 obtain⟨b,r,⟨o,e,_,n,d⟩,_⟩:=I.tuple h;obtain⟨its',g,⟨o',f,_,j,c⟩,_⟩:=I.tuple h';rw[e]at f;cases f;rw[d]at c;injection c with i _;have:b=its':=by simpa using congrArg Array.toList i
 subst this;exact r.inj g
end
abbrev Cx.wish(X:Cx)(E:di->dj->Prop):Cx:={X with xe:=E}
abbrev Cx.nox(X:Cx):Cx:=X.wish λ_ _=>False
theorem Cx.Ok.wish{X:Cx}(ok:X.Ok)(E:di->dj->Prop):(X.wish E).Ok:=
 ⟨ok.mod,ok.kind,ok.glob,ok.blt,ok.above,ok.inj,ok.has,ok.cab,ok.hd,ok.frames,ok.stk,ok.exf,ok.bs,ok.bsz,ok.noex,ok.exfs,ok.funs,ok.frf⟩
theorem Cx.Ok.unwish{X:Cx}{E:di->dj->Prop}(ok:(X.wish E).Ok):X.Ok:=
 ⟨ok.mod,ok.kind,ok.glob,ok.blt,ok.above,ok.inj,ok.has,ok.cab,ok.hd,ok.frames,ok.stk,ok.exf,ok.bs,ok.bsz,ok.noex,ok.exfs,ok.funs,ok.frf⟩
section
variable{ag:List (dk×Obj)}{σ:St}{H:Hp}{s:dj}{E:di->dj->Prop}
theorem Inv.wish(I:Inv X ag σ H s)(E:di->dj->Prop):Inv (X.wish E) ag σ H s:=⟨I.ok.wish E,I.os,I.bare,I.base,I.loc,I.cell,I.free,I.freeC,I.pin,I.hok,I.len⟩
theorem Inv.unwish(I:Inv (X.wish E) ag σ H s):Inv X ag σ H s:=⟨I.ok.unwish,I.os,I.bare,I.base,I.loc,I.cell,I.free,I.freeC,I.pin,I.hok,I.len⟩
theorem SP.unwish{D:jx}{f:Flow}{s':dj}(h:SP (X.wish E) ag D f s'):SP X ag D f s':=by
 cases f with
 |next=>obtain⟨a,H',I,q⟩:=h;exact⟨a,H',I.unwish,q⟩
 |brk=>obtain⟨a,H',I,q⟩:=h;exact⟨a,H',I.unwish,q⟩
 |cont=>obtain⟨a,H',I,q⟩:=h;exact⟨a,H',I.unwish,q⟩
 |ret u=>obtain⟨v,a,H',I,r,q⟩:=h;exact⟨v,a,H',I.unwish,r,q⟩
theorem vI.nox{st:List dE}{t:TS}(h:vI X.nox st t):vI X st t:=λag s σ H D I a=>
 PD (h ag s σ H D (I.wish _) a) (λ_ _ q=>q.unwish) λ_ _ z=>PK z
end
section
variable{st:dE}{rest:List dE}{t u:TS}{e:Expr}{te:TE}{pos:Pos}
def K5:TS:=λD σ H=>D.nx σ H
def M9(t u:TS):TS:=λD σ H=>t {D with nx:=u D} σ H
theorem ER:vI X [] K5:=λ_ _ σ H _ I h=>PM ⟨σ,H,I,h⟩
theorem By(h1:PS X st t)(h2:vI X rest u):vI X (st::rest) (M9 t u):=by
 intro ag s σ H D I h;refine wpAny_execs_cons (fh (h1 ag s σ H {D with nx:=u D} I h) λf b q=>?_);cases f with
 |next=>
  obtain⟨a,H',c,q⟩:=q;exact h2 ag b a H' D c q
 |ret v=>exact q
 |brk=>exact q
 |cont=>exact q
theorem EQ(h1:PS X st t):vI X [st] t:=by
 intro ag s σ H D I h;refine wpAny_execs_cons (fh (h1 ag s σ H D I h) λf a q=>?_);cases f with
 |next=>exact PM q
 |ret v=>exact q
 |brk=>exact q
 |cont=>exact q
theorem Inv.quiet{ag:List (dk×Obj)}{σ:St}{H:Hp}{s:dj}(I:Inv X ag σ H s):interactive X.env=J:=by simp[interactive,I.ok.kind]
def K8(te:TE):TS:=λD σ H=>te σ H λ_ H1=>D.nx σ H1
theorem ES(he:PE X e te)(hs:autoParam (PN e Y pos.line X.env=pure J) cu0):PS X (.Expr e pos) (K8 te):=by
 intro ag s σ H D I h;exact wpAny_Expr_any (fh (he ag s σ H _ I h) λv c ⟨x,H1,a,d,b⟩=>⟨σ,H1,a,b⟩) I.quiet hs
def Na(te:TE):TS:=λD σ H=>te σ H D.rt
theorem Ij(he:PE X e te):PS X (.Return (Z e) pos) (Na te):=by
 intro ag s σ H D I h;exact wpAny_Return_some (fh (he ag s σ H _ I h) λv d ⟨x,H1,b,a,c⟩=>⟨x,σ,H1,b,a,c⟩)
def Ni(c:TT)(t u:TS):TS:=λD σ H=>c σ H λb H1=>if b=M then t D σ H1 else u D σ H1
theorem Lr{c:Expr}{a b:List dE}{tc:TT}(hc:PT X c tc)(ha:vI X a t)(hb:vI X b u):PS X (.If c a b pos) (Ni tc t u):=by
 intro ag s σ H D I h;refine wpAny_If (fh (hc ag s σ H _ I h) λd e ⟨H1,f,g⟩=>?_);cases d with
 |true=>exact ha ag e σ H1 D f g
 |false=>exact hb ag e σ H1 D f g
end
abbrev TG:=V->St->Hp->(St->Hp->Prop)->Prop
abbrev Hv:=List V->St->Hp->(St->Hp->Prop)->Prop
def PG(X:Cx)(target:Expr)(t:TG):Prop:=
 ∀(ag:List (dk×Obj)) (s:dj) (σ:St) (H:Hp) (v:V) (u:di) (Q:St->Hp->Prop),Inv X ag σ H s->d4 v u->t v σ H Q ->
  dz (PB X.prog X.w) X.A (PP target X.env u) (λ_ s'=>∃ σ' H',Inv X ag σ' H' s'/\Q σ' H') X.xe s
def KE(X:Cx)(ts:List Expr)(t:Hv):Prop:=
 ∀(ag:List (dk×Obj)) (s:dj) (σ:St) (H:Hp) (vs:List V) (us:List di) (Q:St->Hp->Prop),Inv X ag σ H s->ee vs us->t vs σ H Q ->
  dz (PB X.prog X.w) X.A (assignInOrder ((PQ ts X.env).map (·.2)) us) (λ_ s'=>∃ σ' H',Inv X ag σ' H' s'/\Q σ' H') X.xe s
abbrev KB:=V->V->V->Hp->(Hp->Prop)->Prop
def wU(X:Cx)(t:KB):Prop:=
 ∀(ag:List (dk×Obj)) (s:dj) (σ:St) (H:Hp) (o i v:V) (ov iv u:di) (Q:Hp->Prop),Inv X ag σ H s->d4 o ov->d4 i iv->d4 v u->t o i v H Q ->
  dz (PB X.prog X.w) X.A (setItem ov iv u) (λ_ s'=>∃H',Inv X ag σ H' s'/\Q H') X.xe s
abbrev N4:=V->V->Hp->VK->Prop
def M1(X:Cx)(op:PR)(t:N4):Prop:=
 ∀(ag:List (dk×Obj)) (s:dj) (σ:St) (H:Hp) (x y:V) (v u:di) (Q:VK),Inv X ag σ H s->d4 x v->d4 y u->t x y H Q ->
  dz (PB X.prog X.w) X.A (inplaceOp op v u) (EP X ag σ Q) X.xe s
section
variable{pos:Pos}
def yg(i:Nat):TG:=λv σ H Q=>Q (σ.set i (Z v)) H
theorem xE{i:Nat}{x:Str}(hN:X.N.Nodup)(hi:X.N[i]?=Z x)(hx:vE X.env.scope x)(hf:autoParam (X.fn x=M\/X.env.scope.names.lookup x=Z .local) au0):PG X (.Name x pos) (yg i):=by
 intro ag s σ H v u Q I r h;exact wpAny_assign_Name (jA I hN hi hx r (λs' a=>⟨_,H,a,h⟩) hf)
def NL:Hv:=λvs σ H Q=>vs=[]/\Q σ H
def L3(t:TG)(u:Hv):Hv:=λvs σ H Q=>∃v r,vs=v::r/\t v σ H fun σ' H'=>u r σ' H' Q
theorem E3:KE X [] NL:=by
 intro ag s σ H vs a Q I r h;obtain⟨e,h⟩:=h;subst e;cases r;exact assignInOrder_nil ⟨σ,H,I,h⟩
theorem BI{e:Expr}{es:List Expr}{t:TG}{u:Hv}(h1:PG X e t)(h2:KE X es u)(hs:autoParam ((PQ (e::es) X.env).map (·.2)=PP e X.env::(PQ es X.env).map (·.2)) cu0):KE X (e::es) (L3 t u):=by
 intro ag s σ H vs i Q I r h;obtain⟨v,j,b,h⟩:=h;subst b;cases r with
 |cons r g=>
  rw[hs];refine assignInOrder_cons (fh (h1 ag s σ H _ _ _ I r h) λ_ f ⟨a,H1,c,d⟩=>?_);exact h2 ag f a H1 _ _ Q c g d
def gTup(K:Fg1)(n:Nat)(t:Hv):TG:=λv σ H Q=>∃a xs,v = .ref a/\kC K H a xs/\xs.length=n/\t xs σ H Q
theorem Iv{es:List Expr}{k:Nat}{t:Hv}{n:Nat}(hc:X.calm=M)(h:KE X es t)(hn:autoParam ((PQ es X.env).length=n) cu0)(hst:autoParam ((PQ es X.env).findIdx? (·.1)=Y) cu0):PG X (.Tuple es k pos) (gTup X.K n t):=by
 intro ag s σ H v u Q I r c;obtain⟨a,xs,f,p,m,c⟩:=c;subst f;cases r;obtain⟨j,d,g,q⟩:=I.tuple p;refine assign_Tuple_tuple (I.ok.hd hc) g (by simp[hn,<- m,d.length]) hst λh' l=>?_;have i:Inv X ag σ H {s with heap:=h'}:=I.kept (t':=s.toks) λb o e=>l b o (nN1 (hL1 e)) e;exact h ag _ σ H xs _ Q i (by simpa using d) c
def gSub(to ti:TE)(t:KB):TG:=λv σ H Q=>to σ H λo H1=>ti σ H1 λi H2=>t o i v H2 λH3=>Q σ H3
theorem Iw{o i:Expr}{to c:TE}{t:KB}(ho:PE X o to)(hi:PE X i c)(hs:wU X t)(ha:autoParam (∀v,PP (.Subscript o i pos) X.env v=(do
   let a<-PV [v] (eval o X.env)
   let b<-PV [v,a] (eval i X.env)
   PX pos
   PV [v,a,b] (setItem a b v)
   release [v,a,b] [])) du0):PG X (.Subscript o i pos) (gSub to c t):=by
 intro ag s σ H v u Q I r h;rw[ha];refine wB1 (PY (fh (ho ag s σ H _ I h) λa m ⟨x,H1,f,e,j⟩=>?_));refine wB1 (PY (fh (hi ag m σ H1 _ f j) λb p ⟨y,H2,d,r2,g⟩=>?_));refine wB1 (PZ (wB1 (PY (fh (hs ag p σ H2 x y v a b u _ d e r2 r g) λ_ q ⟨l,k,n⟩=>?_))));exact wpAny_release ⟨σ,l,k,n⟩
def A3(te:TE)(g:TG):TS:=λD σ H=>te σ H λx H1=>g x σ H1 D.nx
theorem Ip{tg e:Expr}{te:TE}{g:TG}(he:PE X e te)(hg:PG X tg g)(hs:autoParam (P0 [tg] e pos.line X.env=pure J) cu0)(hw:autoParam (P1 [tg] e X.env=pure Y) cu0)(h1:autoParam ((PQ [tg] X.env).map (·.2)=[PP tg X.env]) cu0):PS X (.Assign [tg] e pos) (A3 te g):=by
 intro ag s σ H D I h;refine wpAny_Assign_stores (fh (he ag s σ H _ I h) λv d ⟨x,H1,b,a,c⟩=>?_) hs hw;rw[h1];exact fh (hg ag d σ H1 x v _ b a c) λ_ f q=>q
theorem Ii{i:Nat}{x:Str}{e:Expr}{te:TE}{pos':Pos}(hN:X.N.Nodup)(hi:X.N[i]? = some x)(hx:vE X.env.scope x)(he:PE X e te)(hs:autoParam (PN e (some (.Name x pos')) pos.line X.env=pure false) cu0)(hf:autoParam (X.fn x=true\/X.env.scope.names.lookup x=some .local) au0):
  PS X (.Assign [.Name x pos'] e pos) (A3 te (yg i)):=by
 intro ag s σ H D I h;refine wpAny_Assign_Name (fh (he ag s σ H _ I h) λv f ⟨y,H1,c,b,d⟩=>?_) hs;exact jA c hN hi hx b (λg a=>⟨_,H1,a,d⟩) hf
def Nb(i j:Nat)(ta:TA):TS:=λD σ H=>ta σ H λvs H1=>∃v w,vs=[v,w]/\D.nx ((σ.set i (Z v)).set j (Z w)) H1
theorem Ik{i j:Nat}{x y:Str}{a b:Expr}{ta:TA}{n l pt:Pos}{kt k2 pt2}(hc:X.calm=true)(hN:X.N.Nodup)(hi:X.N[i]? = some x)(C:X.N[j]? = some y)(k:i≠j)(hx:X.env.scope.names.lookup x=some .local)(hy:X.env.scope.names.lookup y=some .local)(ha:PA X [a,b] ta)(hw:P1 [.Tuple [.Name x n,.Name y l] kt pt] (.Tuple [a,b] k2 pt2) X.env=pure (some [x,y]))(hs:autoParam (P0 [.Tuple [.Name x n,.Name y l] kt pt] (.Tuple [a,b] k2 pt2) pos.line X.env=pure false) cu0):
  PS X (.Assign [.Tuple [.Name x n,.Name y l] kt pt] (.Tuple [a,b] k2 pt2) pos) (Nb i j ta):=by
 intro ag s σ H D I h;rw[exec_Assign_arm];refine wB1 (PZ ?_);rw[hs];refine wB1 (wP1 ?_);rw[aj (by decide)];refine wB1 (Tuple_ (fh (ha _ ag s σ H _ I h) λt d ⟨vs,H1,F,E,m⟩=>?_));obtain⟨v,w,z,m⟩:=m;subst z;obtain⟨c,u2,rfl,A,g⟩:∃c u2,t=[c,u2]/\d4 v c/\d4 w u2:=by
  cases E with
  |cons p q=>
   cases q with
   |cons ao B=>
    cases B;exact⟨_,_,O,p,ao⟩
 refine wO1 ?_ (by show 2<=dy;decide);have u:Inv X ag σ H1 {d with heap:=d.heap.push {cls:=.type "tuple",data:=.seq [c,u2].toArray}}:=F.kept (t':=d.toks) λb o e=>hP1 _ e;rw[hw];refine wB1 (wP1 ?_);show dz (PB X.prog X.w) X.A (do rule "assign.swapped-stores";let items<-unpackItems (.ref d.heap.objs.size) 2 Y;assignInOrder [λv=>bindName X.env y v,λv=>bindName X.env x v] items.reverse;pure Flow.next) _ _ _;refine wB1 (P2 (wB1 (unpackItems_tuple (items:= #[c,u2]) (I.ok.hd hc) (IsTup.new d.heap _) λh' f=>?_)));have G:=u.kept (h':=h') (t':=d.toks) λb o e=>f b o (nN1 (hL1 e)) e;show dz _ _ (assignInOrder [λv=>bindName X.env y v,λv=>bindName X.env x v] [u2,c] >>= λ_=>pure Flow.next) _ _ _;refine wB1 (assignInOrder_cons (wpAny_bindName (jA G hN C (.inl hy) g (λaq K=>?_) (.inr hy))));refine assignInOrder_cons (wpAny_bindName (jA K hN hi (.inl hx) A (λL r=>assignInOrder_nil (wP1 ?_)) (.inr hx)));rw[List.set_comm _ _ (Py k)]at r;exact⟨_,H1,r,m⟩
def Nl(i:Nat)(te:TE)(ti:N4):TS:=λD σ H=>∃x,σ[i]?=Z (Z x)/\te σ H λy H1=>ti x y H1 λz H2=>D.nx (σ.set i (Z z)) H2
theorem Io{i:Nat}{x:Str}{e:Expr}{te:TE}{op:PR}{n:N4}{pos':Pos}(hN:X.N.Nodup)(hi:X.N[i]? = some x)(hx:vE X.env.scope x)(he:PE X e te)(ho:M1 X op n)(hf:autoParam (X.fn x=true\/X.env.scope.names.lookup x=some .local) au0):
  PS X (.AugAssign (.Name x pos') op e pos) (Nl i te n):=by
 intro ag s σ H D I h;obtain⟨v,p,h⟩:=h;obtain⟨m,A,G⟩:=I.loc;have g:Vis X.env.scope x:=by rcases hx with k|k;exact .inl k;exact .inr (.inl k)
 obtain⟨u,r,l⟩:=G i x v hi p g;refine wpAny_AugAssign_Name ?_;have j:dz (PB X.prog X.w) X.A (eval e X.env) (λw f=>dz (PB X.prog X.w) X.A (inplaceOp op u w) (λr d=>dz (PB X.prog X.w) X.A (storeName X.env x r) (λ_=>SP X ag D .next) X.xe d) X.xe f) X.xe s:=by
  refine fh (he ag s σ H _ I h) λw E ⟨y,H1,B,t,F⟩=>?_;refine fh (ho ag E σ H1 v y u w _ B r t F) λz aq ⟨L,H2,o,r2,q⟩=>?_;exact jA o hN hi hx r2 (λK C=>⟨_,H2,C,q⟩) hf
 rcases l with⟨a,ao⟩|⟨a,c,hc,b⟩
 ·exact PH I.ok.kind a A ao j
 ·rcases a with a|a
  ·exact wpAny_loadName_cell I.ok.kind a hc b j
  ·rcases hx with k|k
   ·have:X.env.scope.names.lookup x=Z .free:=a;rw[k]at this;cases this
   ·have:X.env.scope.names.lookup x=Z .free:=a;rw[k]at this;cases this
noncomputable def AX(c:TT)(tb:TS):TS:=λD σ H=>∃W:Nat->St->Hp->Prop,(∃m,W m σ H) /\ ∀m σ H,W m σ H ->
 c σ H λb H1=>if b=M then∃N:St->Hp->Prop,(∀ σ' H',N σ' H' -> ∃m',m'<m/\W m' σ' H')/\tb {D with nx:=N,ct:=N,bk:=D.nx} σ H1 else D.nx σ H1
theorem Bz{c:Expr}{e:List dE}{tc:TT}{tb:TS}(hp:P3 (PB X.prog X.w) X.A X.env X.xe)(hc:PT X c tc)(hb:vI X e tb):PS X (.While c e [] pos) (AX tc tb):=by
 intro ag s σ H D I h;obtain⟨W,⟨x,w⟩,j⟩:=h;refine wpAny_While (codeAny_whileLoop (λn s'=>∃i H',Inv X ag i H' s'/\W n i H') ?_ x ⟨σ,H,I,w⟩);rintro n A ⟨d,H1,z,y⟩;refine P4 hp (fh (hc ag A d H1 _ z (j n d H1 y)) λb B ⟨H2,t,k⟩=>?_);cases b with
 |true=>
  obtain⟨N,u,k⟩:=k;rw[ak O];refine P4 hp (fh (hb ag B d H2 _ t k) λf C l=>?_);cases f with
  |next=>
   obtain⟨a,g,p,q⟩:=l;obtain⟨m,r,o⟩:=u a g q;exact⟨m,r,a,g,p,o⟩
  |cont=>
   obtain⟨a,g,p,q⟩:=l;obtain⟨m,r,o⟩:=u a g q;exact⟨m,r,a,g,p,o⟩
  |brk=>exact l
  |ret v=>exact l
 |false=>
  rw[aj aL];exact PM ⟨d,H2,t,k⟩
end
structure It where
 go:Nat->Hp->Prop
 yld:Nat->Hp->V->Hp->Prop
 stop:Nat->Hp->Prop
def kH(X:Cx)(ag:List (dk×Obj))(H:Hp)(b:dk):Prop:=
 H b=Y/\b≠X.env.locals/\b∉X.fs/\(b∈X.ex\/X.s₀.heap.objs.size<=b)/\(∀x c,X.env.cells.lookup x=Z c->c≠b) /\ ∀p∈X.pn++ag,p.1≠b
theorem Inv.fpOk{X:Cx}{ag:List (dk×Obj)}{σ:St}{H H':Hp}{s:dj}{b:dk}(I:Inv X ag σ H s)(hb:s.heap.objs.size<=b)(hn:H' b=Y):kH X ag H' b:=by
 refine⟨hn,nG1 (nL1 I.lt hb),I.nofs hb,.inr (aD I.sz hb),λx c e z=>?_,λp a z=>?_⟩
 ·obtain⟨v,q⟩:=I.cell x c e;exact absurd (nL1 q.lt (by rw[z];exact hb)) (aA _)
 ·exact absurd (nL1 (hL1 (I.pin p a).1) (by rw[z];exact hb)) (aA _)
structure wT (P:dn)(w:dr)(K:Fg1)(tg:Expr)(ao:It)(fp:List dk)(it:dk)(tn:Nat->dB->Prop):Prop where
 mem:it∈fp
 obj:∀i h,tn i h -> ∀b∈fp,∃o,h.get? b=some o /\ ∀v,o.data ≠ .cell v
 keep:∀i h h',tn i h->(∀b∈fp,∀o,h.get? b=some o->h'.get? b=some o)->tn i h'
 item:∀(X:Cx),X.prog=P->X.w=w->X.K=K->X.calm=true -> ∀(i:Nat) (ag:List (dk×Obj)) (s:dj) (σ:St) (H:Hp) (E:di->dj->Prop),Inv X ag σ H s->(∀b∈fp,kH X ag H b)->tn i s.heap->ao.go i H ->
  dz (PB P w) X.A (P5 (.ref it)) (λr s1=>∃u,r=some u /\
   dz (PB P w) X.A (P6 tg (.ref it) u) (λ_ s2=>∃x H',Inv X ag σ H' s2/\d4 x u/\ao.yld i H x H'/\tn (i+1) s2.heap /\ ∀b∈fp,H' b=none) E s1) E s
 done:∀(X:Cx),X.prog=P->X.w=w->X.K=K->X.calm=true -> ∀(i:Nat) (ag:List (dk×Obj)) (s:dj) (σ:St) (H:Hp) (E:di->dj->Prop),Inv X ag σ H s->(∀b∈fp,kH X ag H b)->tn i s.heap->ao.stop i H ->
  dz (PB P w) X.A (P5 (.ref it)) (λr s1=>r=none/\Inv X ag σ H s1) E s
 self:∀(A:dq) (i:Nat) (s:dj) (Q:di->dj->Prop) (E:di->dj->Prop),tn i s.heap->Q (.ref it) s->dz (PB P w) A (P7 (.ref it)) Q E s
abbrev TI:=St->Hp->(It->Hp->Prop)->Prop
def Os(X:Cx)(ag:List (dk×Obj))(σ:St)(tg:Expr)(R:It->Hp->Prop)(itv:di)(s2:dj):Prop:=
 ∃(it:dk) (fp:List dk) (tn:Nat->dB->Prop) (ao:It) (H':Hp),itv = .ref it/\Inv X ag σ H' s2/\wT X.prog X.w X.K tg ao fp it tn/\tn 0 s2.heap/\(∀b∈fp,kH X ag H' b)/\R ao H'
def PI(X:Cx)(tg iter:Expr)(wi:TI):Prop:=
 ∀(ag:List (dk×Obj)) (s:dj) (σ:St) (H:Hp) (R:It->Hp->Prop),Inv X ag σ H s->wi σ H R ->
  dz (PB X.prog X.w) X.A (eval iter X.env) (λv s1=>dz (PB X.prog X.w) X.A (P7 v) (Os X ag σ tg R) X.xe s1) X.xe s
theorem CQ {aq:Model}{A:dq}{E:di->dj->Prop}{s:dj}{tg:Expr}{it:dk}{u:di}{o:Obj}{n:String}{vs:Array di}{Q:Unit->dj->Prop}(ho:s.heap.get? it=some o)(hc:o.cls = .type n)(hd:o.data = .fields vs)
   (hn:["enumerate","zip","dict_itemiterator","dict_reverseitemiterator","odict_iterator","itertools.zip_longest","itertools.pairwise"].contains n=J) (a:Q () s):dz aq A (P6 tg (.ref it) u) Q E s:=by
 unfold P6;cases tg <;> first
   |exact wP1 a
   | (cases u<;>first
       |exact wP1 a
       | (refine wB1 (wpAny_load ho ?_)
          rw[hc,hd];show dz aq A (if(["enumerate","zip","dict_itemiterator","dict_reverseitemiterator","odict_iterator","itertools.zip_longest","itertools.pairwise"].contains n&&vs[0]? == Z (P8 _))=M then _ else _) Q E s;rw[aj (by intro h;rw[hn,Bool.false_and]at h;cases h)];exact wP1 a))
noncomputable def Ow(K:Fg1)(a:dk):It:=
 ⟨λi H=>∃xs x,mX K H a xs/\xs[i]?=Z x,λi H x H'=>H'=H /\ ∀xs,mX K H a xs->xs[i]?=Z x,λi H=>∃xs,mX K H a xs/\xs.length<=i⟩
noncomputable def Ov(K:Fg1)(a:dk):It:=
 ⟨λi H=>∃xs x,kC K H a xs/\xs[i]?=Z x,λi H x H'=>H'=H /\ ∀xs,kC K H a xs->xs[i]?=Z x,λi H=>∃xs,kC K H a xs/\xs.length<=i⟩
noncomputable def MC(lo:Int)(n:Nat):It:=⟨λi _=>i<n,λi H x H'=>H'=H/\x = .int (lo+i),λi _=>n<=i⟩
theorem yQ{P:dn}{w:dr}{K:Fg1}{tg:Expr}(a it:dk):wT P w K tg (Ow K a) [it] it (λi h=>h.IsListIter it a i) where
 mem:=by simp
 obj:=λi h st b f=>by
  have e:b=it:=by simpa using f
  subst e;obtain⟨o,e,c,d⟩:=st;exact⟨o,e,λv z=>by rw[d]at z;cases z⟩
 keep:=λi h h' st k=>st.at λo e=>k it (by simp) o e
 item:=by
  intro X l y m hc i ag s σ H E I j st B;subst l y m;obtain⟨xs,x,g,D⟩:=B;obtain⟨C,n,p,L⟩:=I.list g;obtain⟨u,ao,Q⟩:=n.get D;obtain⟨A,r,aq,t,q,F⟩:=j it (by simp);refine P9 st p.isList (x:=u) (by simpa using ao) λh' st' N=>?_;have av:Inv X ag σ H {s with heap:=h'}:=I.turned (t':=s.toks) (λb o f e=>(N.2 b f).trans e) A r t q F;obtain⟨o,e,c,d⟩:=id st';exact⟨u,O,CQ (s:={s with heap:=h'}) e c d (by decide) ⟨x,H,av,Q,⟨O,λys G=>by rw[I.list_inj G g];exact D⟩,st',λb f=>(j b f).1⟩⟩
 done:=by
  intro X l y m hc i ag s σ H E I j st B;subst l y m;obtain⟨xs,g,D⟩:=B;obtain⟨C,n,p,L⟩:=I.list g;obtain⟨A,r,aq,t,q,F⟩:=j it (by simp);have R:=n.length;exact Qa (I.ok.hd hc) st p.isList (by simp;lia) λh' eb=>⟨O,I.turned (t':=s.toks) (λb o f e=>eb b o f e) A r t q F⟩
 self:=λ_ _ _ _ _ st h=>wpAny_pyIter_listiter st h
theorem vP{P:dn}{w:dr}{K:Fg1}{tg:Expr}(a it:dk):wT P w K tg (Ov K a) [it] it (λi h=>h.IsTupleIter it a i) where
 mem:=by simp
 obj:=λi h st b f=>by
  have e:b=it:=by simpa using f
  subst e;obtain⟨o,e,c,d⟩:=st;exact⟨o,e,λv z=>by rw[d]at z;cases z⟩
 keep:=λi h h' st k=>st.at λo e=>k it (by simp) o e
 item:=by
  intro X m A n hc i ag s σ H E I l st C;subst m A n;obtain⟨xs,x,j,D⟩:=C;obtain⟨g,q,p,L⟩:=I.tuple j;obtain⟨u,ao,Q⟩:=q.get D;obtain⟨B,t,aq,y,r,F⟩:=l it (by simp);refine wpAny_pyNext_tuple_item st (show s.heap.IsTuple a g.toArray from p) (x:=u) (by simpa using ao) λh' st' N=>?_;have av:Inv X ag σ H {s with heap:=h'}:=I.turned (t':=s.toks) (λb o f e=>(N.2 b f).trans e) B t y r F;obtain⟨o,e,c,d⟩:=id st';exact⟨u,O,CQ (s:={s with heap:=h'}) e c d (by decide) ⟨x,H,av,Q,⟨O,λys G=>by rw[I.tuple_inj G j];exact D⟩,st',λb f=>(l b f).1⟩⟩
 done:=by
  intro X m A n hc i ag s σ H E I l st C;subst m A n;obtain⟨xs,j,D⟩:=C;obtain⟨g,q,p,L⟩:=I.tuple j;obtain⟨B,t,aq,y,r,F⟩:=l it (by simp);have R:=q.length;exact wpAny_pyNext_tuple_end (I.ok.hd hc) st (show s.heap.IsTuple a g.toArray from p) (by simp;lia) λh' eb=>⟨O,I.turned (t':=s.toks) (λb o f e=>eb b o f e) B t y r F⟩
 self:=λ_ _ _ _ _ st h=>wpAny_pyIter_tupleiter st h
theorem vQ{P:dn}{w:dr}{K:Fg1}{tg:Expr}(it:dk)(lo:Int)(n:Nat):wT P w K tg (MC lo n) [it] it (λi h=>IsRangeIter h it (lo+(i:Nat)*1) ((n:Int)-(i:Nat)) 1) where
 mem:=by simp
 obj:=λi h st b a=>by
  have e:b=it:=by simpa using a
  subst e;exact⟨_,st,λv z=>by
   have u:Data.fields _=Data.cell v:=z;cases u⟩
 keep:=λi h h' st k=>k it (by simp) _ st
 item:=by
  intro X d p g hc i ag s σ H E I c st l;subst d p g;obtain⟨r,f,A,j,m,q⟩:=c it (by simp);have W:=Walks.range (prog:=X.prog) (w:=X.w) (I.ok.hd hc) it lo 1 n;refine W.item i s _ _ l st λv h' tk B st' y=>?_;obtain⟨t,rfl⟩:=B;have x:Inv X ag σ H {s with heap:=h',toks:=tk}:=I.turned (λb o a e=>y b o (by simpa using a) e) r f j m q;refine⟨_,O,CQ (s:={s with heap:=h',toks:=tk}) (n:="range_iterator") st' O O (by decide) ⟨.int (lo+i),H,x,⟨t,?_⟩,⟨O,O⟩,st',λb a=>(c b a).1⟩⟩;rw[Int.mul_one]
 done:=by
  intro X d p g hc i ag s σ H E I c st l;subst d p g;obtain⟨r,f,A,j,m,q⟩:=c it (by simp);exact wpAny_pyNext_range_end (I.ok.hd hc) st (by have:n<=i:=l;lia) λh' eb=>⟨O,I.turned (t':=s.toks) (λb o a e=>eb b o a e) r f j m q⟩
 self:=λ_ _ _ _ _ st h=>wpAny_pyIter_rangeiter st h
section
variable{tg:Expr}
def LZ(K:Fg1)(tl:TE):TI:=fun σ H R=>tl σ H λx H1=>∃a,x = .ref a/\(∃xs,mX K H1 a xs)/\R (Ow K a) H1
def NK(K:Fg1)(tl:TE):TI:=fun σ H R=>tl σ H λx H1=>∃a,x = .ref a/\(∃xs,kC K H1 a xs)/\R (Ov K a) H1
theorem E1{l:Expr}{tl:TE}(k:PE X l tl):PI X tg l (LZ X.K tl):=by
 intro ag s σ H R I h;refine fh (k ag s σ H _ I h) λv d ⟨x,H1,c,f,g⟩=>?_;obtain⟨a,e,⟨xs,m⟩,q⟩:=g;subst e;cases f;obtain⟨i,n,p,r⟩:=c.list m;refine wpAny_pyIter_list p.isList ?_;refine⟨d.heap.objs.size,[d.heap.objs.size],_,_,H1,O,c.kept (t':=d.toks) λb o e=>hP1 _ e,yQ a _,⟨_,hS1 _ O,O,O⟩,λb j=>?_,q⟩;have e:b=d.heap.objs.size:=by simpa using j
 subst e;exact c.fpOk (nR1 _) (c.hok.fresh (nR1 _))
theorem Iu{l:Expr}{tl:TE}(k:PE X l tl):PI X tg l (NK X.K tl):=by
 intro ag s σ H R I h;refine fh (k ag s σ H _ I h) λv c ⟨x,H1,d,g,i⟩=>?_;obtain⟨a,e,⟨xs,m⟩,q⟩:=i;subst e;cases g;obtain⟨f,n,p,r⟩:=d.tuple m;refine wpAny_pyIter_tuple (show c.heap.IsTuple a f.toArray from p) ?_;refine⟨c.heap.objs.size,[c.heap.objs.size],_,_,H1,O,d.kept (t':=c.toks) λb o e=>hP1 _ e,vP a _,⟨_,hS1 _ O,O,O⟩,λb j=>?_,q⟩;have e:b=c.heap.objs.size:=by simpa using j
 subst e;exact d.fpOk (nR1 _) (d.hok.fresh (nR1 _))
theorem uk{ag:List (dk×Obj)}{σ:St}{H:Hp}{s:dj}{R:It->Hp->Prop}{E:di->dj->Prop}{lo hi:Int}{t u v:Tok}{tk:Nat}(I:Inv X ag σ H s)(h1: -(2^62)<=lo)(h2:lo<2^62)(g: -(2^62)<=hi)(c:hi<2^62)(q:R (MC lo (hi-lo).toNat) H):dz (PB X.prog X.w) X.A (P7 (.ref s.heap.objs.size)) (Os X ag σ tg R) E {s with heap:=s.heap.push {cls:=.type "range",data:=.fields #[.int lo t,.int hi u,.int 1 v]},toks:=tk}:=by
 refine wpAny_pyIter_range (IsRange.new ..) (small_one h1 h2 g c) ?_;have a:Inv X ag σ H {s with heap:=s.heap.push {cls:=.type "range",data:=.fields #[.int lo t,.int hi u,.int 1 v]},toks:=tk}:=I.kept λb o e=>hP1 _ e;refine⟨(s.heap.push {cls:=.type "range",data:=.fields #[.int lo t,.int hi u,.int 1 v]}).objs.size,[(s.heap.push {cls:=.type "range",data:=.fields #[.int lo t,.int hi u,.int 1 v]}).objs.size],_,_,H,O,
  a.kept (t':=tk) λb o e=>hP1 _ e,vQ _ lo (hi-lo).toNat,?_,λb f=>?_,q⟩
 ·have d:lo+((0:Nat):Int)*1=lo:=by simp
  have h:(((hi-lo).toNat:Nat):Int)-((0:Nat):Int)=Builtin.Range.rangeSize lo hi 1:=by rw[rangeSize_one];split<;>lia
  show IsRangeIter _ _ (lo+((0:Nat):Int)*1) ((((hi-lo).toNat:Nat):Int)-((0:Nat):Int)) 1;rw[d,h];exact hS1 _ O
 ·have e:b=(s.heap.push {cls:=.type "range",data:=.fields #[.int lo t,.int hi u,.int 1 v]}).objs.size:=by simpa using f
  subst e;exact a.fpOk (nR1 _) (a.hok.fresh (nR1 _))
def LY(ta:TA):TI:=fun σ H R=>ta σ H λvs H1=>∃j:Int,vs=[.int j] /\ -(2^62)<=j/\j<2^62/\R (MC 0 j.toNat) H1
def LX(ta:TA):TI:=fun σ H R=>ta σ H λvs H1=>∃i j:Int,vs=[.int i,.int j]/\(-(2^62)<=i/\i<2^62 /\ -(2^62)<=j/\j<2^62)/\R (MC i (j-i).toNat) H1
theorem zj {a:Expr}{ta:TA}{p pos:Pos}(hg:Gl X "range")(hm:X.mg "range"=Y)(ha:PA X [a] ta)(hs:autoParam (dw [a] X.env=[(J,eval a X.env)]) cu0):PI X tg (.Call (.Name "range" p) [a] [] pos) (LY ta):=by
 intro ag s σ H R I h;refine Call_ (jQ I hg hm boot_range (Qb (fh (ha pos ag s σ H _ I h) λi k ⟨vs,H1,d,c,b⟩=>?_) hs O));obtain⟨j,e,b,f,q⟩:=b;subst e;cases c with
 |cons r g=>
  cases g;obtain⟨t,rfl⟩:=r;exact call_range_1 (uk d (by lia) (by lia) b f (by simpa using q))
theorem zi {a b:Expr}{ta:TA}{p pos:Pos}(hg:Gl X "range")(hm:X.mg "range"=none)(ha:PA X [a,b] ta)(hs:autoParam (dw [a,b] X.env=[(false,eval a X.env),(false,eval b X.env)]) cu0)(hs2:autoParam (dw [b] X.env=[(false,eval b X.env)]) cu0):
  PI X tg (.Call (.Name "range" p) [a,b] [] pos) (LX ta):=by
 intro ag s σ H R I h;refine Call_ (jQ I hg hm boot_range (Qb (fh (ha pos ag s σ H _ I h) λo u ⟨vs,H1,l,f,c⟩=>?_) (by rw[hs,hs2]) (by rw[hs2];rfl)));obtain⟨i,j,e,⟨c,k,m,n⟩,q⟩:=c;subst e;cases f with
 |cons r d=>
  cases d with
  |cons g d=>
   cases d;obtain⟨t,rfl⟩:=r;obtain⟨v,rfl⟩:=g;exact call_range_2 (uk l c k m n q)
noncomputable def K7(wi:TI)(g:TG)(tb:TS):TS:=λD σ H=>wi σ H λao H1=>∃W:Nat->Nat->St->Hp->Prop,(∃m,W 0 m σ H1) /\ ∀i m σ H,W i m σ H ->
 (ao.stop i H/\D.nx σ H)\/(ao.go i H /\ ∃N:St->Hp->Prop,(∀ σ' H',N σ' H' -> ∃m',m'<m/\W (i+1) m' σ' H') /\ ∀x H',ao.yld i H x H'->g x σ H' fun σ2 H2=>tb {D with nx:=N,ct:=N,bk:=D.nx} σ2 H2)
def oH(fp:List dk)(h:dB):List (dk×Obj):=fp.filterMap λb=>(h.get? b).map λo=>(b,o)
theorem jh{fp:List dk}{h:dB}{b:dk}{o:Obj}(hb:b∈fp)(e:h.get? b=Z o):(b,o)∈oH fp h:=aM.mpr ⟨b,hb,by rw[e];rfl⟩
theorem zn{fp:List dk}{h:dB}{p:dk×Obj}(hp:p∈oH fp h):p.1∈fp/\h.get? p.1=Z p.2:=by
 obtain⟨b,a,e⟩:=aM.mp hp;cases q:h.get? b with
 |none=>rw[q]at e;cases e
 |some o=>
  rw[q]at e;have c:(b,o)=p:=Option.some.inj e;subst c;exact⟨a,q⟩
theorem Inv.pinned{ag:List (dk×Obj)}{σ:St}{H:Hp}{s:dj}{fp:List dk}(I:Inv X ag σ H s)(hf:∀b∈fp,kH X ag H b)(ho:∀b∈fp,∃o,s.heap.get? b=Z o /\ ∀v,o.data ≠ .cell v):Inv X (ag++oH fp s.heap) σ H s:=
 I.pins_of λp i=>(aG.mp i).elim (λz=>I.pin p (mA1 _ z)) λz=>by
  obtain⟨c,e⟩:=zn z;obtain⟨h,f,g,_⟩:=hf p.1 c;obtain⟨o,a,d⟩:=ho p.1 c;rw[e]at a;cases a;exact⟨e,h,f,g,d⟩
theorem Inv.unpinned{ag pl:List (dk×Obj)}{σ:St}{H:Hp}{s:dj}(I:Inv X (ag++pl) σ H s):Inv X ag σ H s:=I.pins_of λp a=>I.pin p (mA1 _ (aH _ a))
theorem Im{iter:Expr}{w:List dE}{U:TI}{g:TG}{tb:TS}{pos:Pos}(hp:P3 (PB X.prog X.w) X.A X.env X.xe)(hc:X.calm=M)(hi:PI X tg iter U)(hg:PG X tg g)(hb:vI X w tb)(hs:autoParam (∀x,Qc iter X.env x=pure x) du0):PS X (.For tg iter w [] pos) (K7 U g tb):=by
 intro ag s σ H D I h;refine wpAny_For (fh (hi ag s σ H _ I h) λv s1 h1=>fh h1 λitv s2 h2=>?_) hs;obtain⟨it,fp,au,ao,H2,e,I2,T,av,R,W,⟨m0,w0⟩,C⟩:=h2;subst e
 -- what stays M of the iterator's objects through the loop
 have c:∀{H':Hp},(∀b∈fp,H' b=Y) -> ∀b∈fp,kH X ag H' b:=λhn b hb=>⟨hn b hb,(R b hb).2⟩;refine codeAny_forLoop_any (λn s'=>∃i k H',Inv X ag k H' s'/\au i s'.heap/\(∀b∈fp,H' b=Y)/\W i n k H') ?_ m0 ⟨0,σ,H2,I2,av,λb hb=>(R b hb).1,w0⟩;rintro n Q ⟨i,l,F,S,z,A,w3⟩;rcases C i n l F w3 with⟨B,qn⟩|⟨go,N,hN,step⟩
 ·refine P4 hp (fh (T.done X O O O hc i ag Q l F X.xe S (c A) z B) λr s4 ⟨P,I4⟩=>?_);subst P;exact PM ⟨l,F,I4,qn⟩
 ·refine P4 hp (fh (T.item X rfl rfl rfl hc i ag Q l F X.xe S (c A) z go) fun r s4 ⟨u,P,h4⟩=>?_);subst P;refine P4 hp (fh h4 fun _ V ⟨x,wq,I5,r5,y5,y,G⟩=>?_);have aq:=I5.pinned (c G) (T.obj _ _ y);refine P4 hp (fh (hg _ V l wq x u _ aq r5 (step x wq y5)) fun _ s6 ⟨L,H6,I6,q6⟩=>?_);refine P4 hp (fh (hb _ s6 L H6 _ I6 q6) fun f K t=>?_);have q:∀ {a:St} {j:Hp},Inv X (ag++oH fp V.heap) a j K->N a j -> ∃ m,m<n /\ ∃ i k H',Inv X ag k H' K/\au i K.heap/\(∀ b∈fp,H' b=none)/\W i m k H':=fun {a j} p E=>by
   obtain⟨m',hm,w7⟩:=hN a j E;refine⟨m',hm,i+1,a,j,p.unpinned,T.keep _ _ _ y λb hb o e=>(p.pin (b,o) (mA1 _ (mA1 _ (jh hb e)))).1,λb hb=>?_,w7⟩;obtain⟨o,e,d⟩:=T.obj _ _ y b hb;exact(p.pin (b,o) (mA1 _ (mA1 _ (jh hb e)))).2.1
  cases f with
  |next=>obtain⟨a,j,p,E⟩:=t;exact q p E
  |cont=>obtain⟨a,j,p,E⟩:=t;exact q p E
  |brk=>obtain⟨a,j,p,t⟩:=t;exact⟨a,j,p.unpinned,t⟩
  |ret v=>obtain⟨x7,a,j,p,r7,t⟩:=t;exact⟨x7,a,j,p.unpinned,r7,t⟩
end
abbrev R2:=V->V->Hp->VK->Prop
def gE(X:Cx)(f:di->di->Sem di)(r:R2):Prop:=
 ∀(ag:List (dk×Obj)) (s:dj) (σ:St) (H:Hp) (x y:V) (v u:di) (Q:VK),Inv X ag σ H s->d4 x v->d4 y u->r x y H Q ->
  dz (PB X.prog X.w) X.A (f v u) (EP X ag σ Q) X.xe s
def eQ(X:Cx)(f:di)(r:List V->Hp->VK->Prop):Prop:=
 ∀(ag:List (dk×Obj)) (s:dj) (σ:St) (H:Hp) (xs:List V) (us:List di) (Q:VK),Inv X ag σ H s->ee xs us->r xs H Q ->
  dz (PB X.prog X.w) X.A (call f us) (EP X ag σ Q) X.xe s
def N3(X:Cx)(r:V->Hp->(Bool->Hp->Prop)->Prop):Prop:=
 ∀(ag:List (dk×Obj)) (s:dj) (σ:St) (H:Hp) (x:V) (v:di) (Q:Bool->Hp->Prop),Inv X ag σ H s->d4 x v->r x H Q ->
  dz (PB X.prog X.w) X.A (truthy v) (TP X ag σ Q) X.xe s
def K3(r:R2)(ta tb:TE):TE:=fun σ H Q=>ta σ H λx H1=>tb σ H1 λy H2=>r x y H2 Q
def rI(C:Int->Int->Prop)(g:Int->Int->V):R2:=λx y H Q=>∃i j,x = .int i/\y = .int j/\C i j/\Q (g i j) H
def G8(g:Int->Int->V):R2:=λx y H Q=>∃i j,x = .int i/\y = .int j/\Q (g i j) H
def rU(g:Int->V):V->Hp->VK->Prop:=λx H Q=>∃i,x = .int i/\Q (g i) H
section
variable{a b c:Expr}{ta tb tc:TE}{pos:Pos}
theorem Ko(ha:PE X a ta)(hb:PE X b tb){ag:List (dk×Obj)}{s:dj}{σ:St}{H:Hp}{R:V->V->Hp->Prop}(I:Inv X ag σ H s)(h:ta σ H fun x H1=>tb σ H1 fun y H2=>R x y H2){Q:di->dj->Prop}{f:di->di->Sem di}(hf:∀v u e x y H2,Inv X ag σ H2 e->d4 x v->d4 y u->R x y H2->dz (PB X.prog X.w) X.A (f v u) Q X.xe e):
  dz (PB X.prog X.w) X.A (eval a X.env) (λv d=>dz (PB X.prog X.w) X.A (eval b X.env) (λu c=>dz (PB X.prog X.w) X.A (f v u) Q X.xe c) X.xe d) X.xe s:=by
 refine fh (ha ag s σ H _ I h) λv m ⟨x,H1,j,i,l⟩=>?_;refine fh (hb ag m σ H1 _ j l) λu e ⟨y,H2,g,r2,k⟩=>?_;exact hf v u e x y H2 g i r2 k
theorem Lu{op:PR}{r:R2}(ho:gE X (Qd op) r)(ha:PE X a ta)(hb:PE X b tb):PE X (.BinOp a op b pos) (K3 r ta tb):=by
 intro ag s σ H Q I h;exact wpAny_BinOp (Ko ha hb I h λv u e x y H2 c d f q=>ho ag e σ H2 x y v u Q c d f q)
theorem MQ{f:di->di->Sem di}{C:Int->Int->Prop}{g:Int->Int->Int}(a:∀(i j:Int) (t u:Tok) (s:dj) (Q:di->dj->Prop) (E:di->dj->Prop),C i j->Q (.int (g i j) s.toks) {s with toks:=s.toks+1}->dz (PB X.prog X.w) X.A (f (.int i t) (.int j u)) Q E s):
  gE X f (rI C λi j=>.int (g i j)):=by
 intro ag s σ H x y v u Q I c d h;obtain⟨i,j,rfl,rfl,hc,q⟩:=h;obtain⟨t,rfl⟩:=c;obtain⟨b,rfl⟩:=d;exact a i j t b s _ _ hc ⟨.int (g i j),H,I.tok _,⟨_,O⟩,q⟩
theorem LB{f:di->di->Sem di}{g:Int->Int->Int}(a:∀(i j:Int) (t u:Tok) (s:dj) (Q:di->dj->Prop) (E:di->dj->Prop),Q (.int (g i j) s.toks) {s with toks:=s.toks+1}->dz (PB X.prog X.w) X.A (f (.int i t) (.int j u)) Q E s):
  gE X f (G8 λi j=>.int (g i j)):=by
 intro ag s σ H x y v u Q I c d h;obtain⟨i,j,rfl,rfl,q⟩:=h;obtain⟨t,rfl⟩:=c;obtain⟨b,rfl⟩:=d;exact a i j t b s _ _ ⟨.int (g i j),H,I.tok _,⟨_,O⟩,q⟩
theorem IQ{f:di->di->Sem di}{g:Int->Int->Bool}(a:∀(i j:Int) (t u:Tok) (s:dj) (Q:di->dj->Prop) (E:di->dj->Prop),Q (.bool (g i j)) s->dz (PB X.prog X.w) X.A (f (.int i t) (.int j u)) Q E s):
  gE X f (G8 λi j=>.bl (g i j)):=by
 intro ag s σ H x y v u Q I c d h;obtain⟨i,j,rfl,rfl,q⟩:=h;obtain⟨t,rfl⟩:=c;obtain⟨b,rfl⟩:=d;exact a i j t b s _ _ ⟨.bl (g i j),H,I,O,q⟩
def MF(i j:Int):Prop:=0<j/\j<1073741824
def MD(i j:Int):Prop:=0<=j/\j<=1000000/\i.natAbs<2^64
theorem IP:gE X (Qd .Add) (G8 λi j=>.int (i+j)):=LB λ_ _ _ _ _ _ _ q=>add_int q
theorem Ff:gE X (Qd .FloorDiv) (rI MF λi j=>.int (i/j)):=MQ λi j _ _ _ _ _ hc q=>by
 have h1:(0:Int)<j:=hc.1;have h2:j<1073741824:=hc.2;exact floordiv_int (by lia) (by rw[Int.fdiv_eq_ediv_of_nonneg i (by lia)];exact q) (.inl (PyProof.noPylong_small (by lia)))
theorem IL:gE X (Qd .Mod) (rI (λ_ j=>0<j) λi j=>.int (i%j)):=MQ λi j _ _ _ _ _ hc q=>by
 have h1:(0:Int)<j:=hc;exact mod_int' (by lia) (by rw[Int.fmod_eq_emod_of_nonneg i (by lia)];exact q)
theorem IK:gE X (Qd .Pow) (rI MD λi j=>.int (i^j.toNat)):=MQ λ_ _ _ _ _ _ _ hc q=>pow_int_small hc.1 hc.2.1 hc.2.2 q
theorem Gd:gE X (inplaceOp .Add) (G8 λi j=>.int (i+j)):=LB λ_ _ _ _ _ _ _ q=>iadd_int q
theorem C0{ag:List (dk×Obj)}{σ:St}{H:Hp}{s:dj}{Q:VK}{k k':Bool}(I:Inv X ag σ H s)(q:Q (.bl k) H)(e:k=k'):EP X ag σ Q (.bool k') s:=by
 subst e;exact⟨.bl k,H,I,O,q⟩
theorem Ly:gE X (Qe .LtE) (G8 λi j=>.bl (decide (i<=j))):=IQ λ_ _ _ _ _ _ _ q=>le_int q
theorem Lz:gE X (Qe .Gt) (G8 λi j=>.bl (decide (j<i))):=IQ λ_ _ _ _ _ _ _ q=>gt_int q
theorem LA:gE X (Qe .GtE) (G8 λi j=>.bl (decide (j<=i))):=IQ λ_ _ _ _ _ _ _ q=>ge_int q
theorem IM:gE X (Qe .Is) (λx y H Q=>y = .non/\Q (.bl (decide (x = .non))) H):=by
 intro ag s σ H x y v u Q I a b h;obtain⟨rfl,q⟩:=h;cases b;refine is_none_gen (C0 I q ?_);cases x<;>first
  |(cases a;rfl)
  |(obtain⟨t,rfl⟩:=a;rfl)
theorem Fe:gE X (Qe .IsNot) (λx y H Q=>y = .non/\Q (.bl (!decide (x = .non))) H):=by
 intro ag s σ H x y v u Q I a b h;obtain⟨rfl,q⟩:=h;cases b;refine isnot_none_gen (C0 I q ?_);cases x<;>first
  |(cases a;rfl)
  |(obtain⟨t,rfl⟩:=a;rfl)
theorem B4(b:Expr){op:Qf}(h:autoParam (op ≠ .In) bu0)(h2:autoParam (op ≠ .NotIn) bu0):Qg op b=J:=by
 have a:(op == CmpOp.In)=J:=by cases op<;>first|rfl|exact absurd rfl h
 have c:(op == CmpOp.NotIn)=J:=by cases op<;>first|rfl|exact absurd rfl h2
 cases b<;>simp[Qg,a,c]
theorem E8{op:Qf}{r:R2}(ho:gE X (Qe op) r)(ha:PE X a ta)(hb:PE X b tb)(hm:Qg op b=J):PE X (.Compare a [op] [b] pos) (K3 r ta tb):=by
 intro ag s σ H Q I h;exact wpAny_Compare1 (Ko ha hb I h λv u e x y H2 c d f q=>ho ag e σ H2 x y v u Q c d f q) hm
def KZ(t:TE):TT:=fun σ H Q=>t σ H λx H'=>∃k,x = .bl k/\Q k H'
theorem EO{op:Qf}{r:R2}(ho:gE X (Qe op) r)(ha:PE X a ta)(hb:PE X b tb)(hm:Qg op b=J):PT X (.Compare a [op] [b] pos) (KZ (K3 r ta tb)):=by
 intro ag s σ H Q I h;refine wpAny_isTrue_Compare1 (fh (ha ag s σ H _ I h) λv o ⟨x,H1,g,f,l⟩=>fh (hb ag o σ H1 _ g l) λu q ⟨y,H2,d,r2,i⟩=>
  fh (ho ag q σ H2 x y v u _ d f r2 i) λc t ⟨z,n,m,j,k,e,p⟩=>?_) hm
 subst e;cases j;exact PJ ⟨n,m,p⟩
def A2(r r':R2)(ta tb tc:TE):TE:=fun σ H Q=>ta σ H λx H1=>tb σ H1 λy H2=>r x y H2 λz H3=>∃k,z = .bl k /\
 (if k=M then tc σ H3 λw' H4=>r' y w' H4 Q else Q (.bl J) H3)
theorem BO{op op':Qf}{r g:R2}(ho:gE X (Qe op) r)(ho':gE X (Qe op') g)(ha:PE X a ta)(hb:PE X b tb)(hc:PE X c tc)(hm:lastMarks [op,op'] [b,c]=J:=by with_unfolding_all rfl):PE X (.Compare a [op,op'] [b,c] pos) (A2 r g ta tb tc):=by
 intro ag s σ H Q I h;refine Compare_chain (fh (ha ag s σ H _ I h) λv B ⟨x,H1,w,o,G⟩=>chain_link (fh (hb ag B σ H1 _ w G) λu ao ⟨y,H2,l,r2,m⟩=>
  fh (ho ag ao σ H2 x y v u _ l o r2 m) λd n ⟨z,i,j,p,k,e,f⟩=>?_)) hm
 subst e;cases p;refine PJ ?_;cases k with
 |false=>exact ite_ff ⟨.bl J,i,j,O,f⟩
 |true=>exact ite_tt (chain_last (fh (hc ag n σ i _ j f) λD C ⟨t,q,F,A,E⟩=>ho' ag C σ q y t u D Q F r2 A E))
def GT(K:Fg1)(x:V)(H:Hp)(k:Bool):Prop:=
 match x with
 | .non=>k=J
 | .bl b=>k=b
 | .int i=>k=(i != 0)
 | .str y=>y.length<=dy/\k=((y.length:Int) != 0)
 | .byt y=>y.size<=dy/\k=((y.size:Int) != 0)
 | .ref p=>(∃xs,mX K H p xs/\k = !xs.isEmpty)\/(∃xs,kC K H p xs/\k = !xs.isEmpty) \/ ∃kvs,H p=Z (.dK kvs)/\k = !kvs.isEmpty
 |_=>False
theorem wp{κ:Type}{kvs:List (κ×V)}{vs:List (κ×di)}(r:KV kvs vs):(!vs.isEmpty) = !kvs.isEmpty:=by
 cases r<;>rfl
theorem pd{xs:List V}{its:List di}(r:ee xs its):(!its.toArray.isEmpty) = !xs.isEmpty:=by
 cases r<;>simp
theorem mK:(dy:Nat)<2^63:=by rw[Qh];decide
theorem HJ:N3 X (λx H Q=>∃k,GT X.K x H k/\Q k H):=by
 intro ag s σ H x v Q I d h;obtain⟨k,e,q⟩:=h;have u:=mK;have o:dy=16777216:=Qh;cases x with
 |non=>
  cases d;have a:k=J:=e;subst a;exact truthy_none ⟨H,I,q⟩
 |bl b=>
  cases d;have a:k=b:=e;subst a;exact PJ ⟨H,I,q⟩
 |int i=>
  obtain⟨t,rfl⟩:=d;have a:k=(i != 0):=e;subst a;exact PySem.P.truthy_int ⟨H,I,q⟩
 |str y=>
  obtain⟨t,rfl⟩:=d;obtain⟨n,a⟩:y.length<=dy/\k=((y.length:Int) != 0):=e;subst a;exact PySem.P.truthy_str (by lia) ⟨H,I.tok _,q⟩
 |byt y=>
  obtain⟨t,rfl⟩:=d;obtain⟨n,a⟩:y.size<=dy/\k=((y.size:Int) != 0):=e;subst a;exact PySem.W.truthy_bytes (by lia) ⟨H,I.tok _,q⟩
 |ref p=>
  cases d;have a:(∃xs,mX X.K H p xs/\k = !xs.isEmpty)\/(∃xs,kC X.K H p xs/\k = !xs.isEmpty) \/ ∃kvs,H p=Z (.dK kvs)/\k = !kvs.isEmpty:=e;rcases a with⟨xs,f,a⟩|⟨xs,f,a⟩|⟨kvs,f,a⟩
  ·subst a;obtain⟨g,r,pl,j⟩:=I.list f;have c:=r.length;exact wpAny_truthy_list pl.isList (by simp only[sT1];lia) ⟨H,I.tok _,by rw[pd r];exact q⟩
  ·subst a;obtain⟨g,r,pl,j⟩:=I.tuple f;have c:=r.length;exact truthy_tuple pl (by simp only[sT1];lia) ⟨H,I.tok _,by rw[pd r];exact q⟩
  ·subst a;obtain⟨j,l,vs,r,m⟩:kvs.length<=dy/\(p == Pt)=false /\ ∃vs,KV kvs vs/\s.heap.DictOf (e9 X.prog X.w) p vs:=I.hok p _ f;have c:kvs.length=vs.length:=Paired.length r;exact wpAny_truthy_dict l m (by lia) ⟨H,I.tok _,by rw[wp r];exact q⟩
 |_=>exact(show False from e).elim
theorem Bx(ha:PE X a ta)(he:∀ b,isTrue a X.env b=(do let v<-b;PX a.pos;PV [v] (truthy v))):
  PT X a (fun σ H Q=>ta σ H λx H'=>∃k,GT X.K x H' k/\Q k H'):=by
 intro ag s σ H Q I h;exact isTrue_plain (fh (ha ag s σ H _ I h) λv f ⟨x,H1,d,c,e⟩=>HJ ag f σ H1 x v Q d c e) (he _)
theorem wb:gE X (Qd .Add) (λx y H Q=>∃i j,x = .str i/\y = .str j/\i.length+j.length<=dy/\Q (.str (i++j)) H):=by
 intro ag s σ H x y v u Q I b d h;obtain⟨i,j,rfl,rfl,c,q⟩:=h;obtain⟨t,rfl⟩:=b;obtain⟨a,rfl⟩:=d;exact add_str (λa tk=>⟨.str (i++j),H,I.tok _,⟨_,O⟩,q⟩) c
theorem iR{x:V}{a:List di}(r:ee [x] a):∃u,a=[u]/\d4 x u:=by
 cases r with
 |cons b r2=>cases r2;exact⟨_,O,b⟩
theorem AK{x y:V}{a:List di}(r:ee [x,y] a):∃u w',a=[u,w']/\d4 x u/\d4 y w':=by
 cases r with
 |cons b r2=>
  cases r2 with
  |cons c d=>cases d;exact⟨_,_,O,b,c⟩
theorem Ai(hc:X.calm=M):eQ X (.builtin "max") (λxs H Q=>∃i j,xs=[.int i,.int j]/\Q (.int (if j>i then j else i)) H):=by
 intro ag s σ H xs b Q I r h;obtain⟨i,j,rfl,q⟩:=h;obtain⟨u,c,rfl,⟨t,rfl⟩,⟨d,rfl⟩⟩:=AK r;refine max_two_ints (I.ok.hd hc) λh' tk k=>⟨_,H,I.kept k,?_,q⟩;by_cases a:j>i
 ·rw[ak a,ak a];exact⟨_,O⟩
 ·rw[aj a,aj a];exact⟨_,O⟩
theorem Ah(hc:X.calm=M):eQ X (.builtin "min") (λxs H Q=>∃i j,xs=[.int i,.int j]/\Q (.int (if j<i then j else i)) H):=by
 intro ag s σ H xs b Q I r h;obtain⟨i,j,rfl,q⟩:=h;obtain⟨u,c,rfl,⟨t,rfl⟩,⟨d,rfl⟩⟩:=AK r;refine min_two_ints (I.ok.hd hc) λh' tk k=>⟨_,H,I.kept k,?_,q⟩;by_cases a:j<i
 ·rw[ak a,ak a];exact⟨_,O⟩
 ·rw[aj a,aj a];exact⟨_,O⟩
theorem rF:eQ X (.type "int") (λxs H Q=>(∃i,xs=[.int i]/\Q (.int i) H) \/ ∃k,xs=[.bl k]/\Q (.int (if k then 1 else 0)) H):=by
 intro ag s σ H xs b Q I r h;rcases h with⟨i,rfl,q⟩|⟨k,rfl,q⟩
 ·obtain⟨u,rfl,t,rfl⟩:=iR r;exact call_int_int ⟨.int i,H,I,⟨_,O⟩,q⟩
 ·obtain⟨u,rfl,a⟩:=iR r;cases a;exact call_int_bool ⟨.int (if k then 1 else 0),H,I.tok _,⟨_,O⟩,q⟩
end
structure KF (h:dB)(x dx C:dk)(mA:Str->Option di):Prop where
 obj:h.get? x=some (PySem.W.instObj C dx)
 ns:h.Ns1 dx mA
 ne:dx≠x
theorem zy{h:dB}{dx:dk}{mA:Str->Option di}(n:h.Ns1 dx mA):∃c,h.get? dx=Z c /\ ∀name,PySem.W.lookIn name c=Z (mA name):=by
 obtain⟨o,es,ep,g,d,i,_,k⟩:=n;refine⟨o,g,λname=>?_⟩;have e:=k name;unfold nsFind findBy at e;rw[<- Array.find?_toList]at e;unfold PySem.W.lookIn;rw[d];dsimp only;split
 ·rename_i y q;rw[q]at e;exact congrArg Z e
 ·rename_i q;rw [q] at e;have a:es.toList.any (·.refKey)=false:=by
   rw[List.any_eq_false];intro y j;obtain⟨z,t,b⟩:=i y (Array.mem_toList_iff.mp j);simp[DictEntry.refKey,b]
  have f:¬ es.toList.any (·.refKey)=M:=by rw[a];exact aL
  rw[aj f];exact congrArg Z e
theorem KF.look{h:dB}{x dx C:dk}{mA:Str->Option di}(I:KF h x dx C mA):∃a,PySem.W.InstAt h x (PySem.W.instObj C dx) C (Z a) /\ ∀name,PySem.W.lookIn name a=Z (mA name):=
 let ⟨a,ho,hl⟩:=zy I.ns
 ⟨a,⟨I.obj,O,O,ho⟩,hl⟩
section
variable{prog:dn}{w:dr}{A:dq}{E:di->dj->Prop}{s:dj}{K:Fg1}{x dx C f:dk}{mA:Str->Option di}{name:Str}{v:di}
end
theorem mY.some_of{v:V}{o:Option di}(r:mY (Z v) o):∃u,o=Z u/\d4 v u:=by
 cases o with
 |none=>exact(show False from r).elim
 |some u=>exact⟨u,O,r⟩
section
variable{P:dn}{w:dr}{H H':Hp}{h h':dB}{a C dx:dk}{fs fs':List (Str×V)}
theorem Ge(b:lu P w H h)(e:H a=Z (.ins C dx fs)):∃mA,KF h a dx C mA/\(∀f,mY (fs.lookup f) (mA f))/\PySem.Within mA (fs.map (·.1))/\fs.length<=1000/\H dx=Z (.own a):=by
 obtain⟨d,z,ne,c,mA,n,r,q⟩:=(show eP P w H h a (.ins C dx fs)from b a _ e);exact⟨mA,⟨c,n,ne⟩,r,q,z,d⟩
end
structure Oa (K:Fg1)(C:dk):Prop where
 pg:PySem.W.plainGet K C Str.empty=true
 hd:PySem.W.hasDictIn K C=true
 po:PySem.W.plainOver K C=true
 sa:PySem.W.findIn K (.ref C) "__setattr__"=some (some (.builtin "object.__setattr__"))
theorem Oa.get{K:Fg1}{C:dk}(c:Oa K C)(f:Str):PySem.W.plainGet K C f=M:=c.pg
section
variable{ag:List (dk×Obj)}{σ:St}{H:Hp}{s:dj}{a C dx:dk}{fs:List (Str×V)}{f:Str}{v:V}{A:dq}{E:di->dj->Prop}
end
section
variable{o e value:Expr}{f:Str}{pos pos' tpos:Pos}{ta tv:TE}
end
section
variable{ag:List (dk×Obj)}{σ:St}{H:Hp}{s:dj}{A:dq}{E:di->dj->Prop}{Q:di->dj->Prop}{c:di}{b:Bool}
inductive nN (K:Fg1)(H:Hp):V->di->Prop where
 |non:nN K H .non (.type "NoneType")
 |bl (x:Bool):nN K H (.bl x) (.type "bool")
 |int (i:Int):nN K H (.int i) (.type "int")
 |str (x:Str):nN K H (.str x) (.type "str")
 |flt (x:UInt64):nN K H (.flt x) (.type "float")
 |lst {a:dk} {xs:List V} (e:H a=some (.lst xs)):nN K H (.ref a) (.type "list")
 |frz {a:dk} {o:Obj} {xs:List V} (e:H a=some (.frz o (.lst xs))):nN K H (.ref a) (.type "list")
 |tup {a:dk} {xs:List V} (e:H a=some (.tup xs)):nN K H (.ref a) (.type "tuple")
 |dK {a:dk} {kvs:List (Key×V)} (e:H a=some (.dK kvs)):nN K H (.ref a) (.type "dict")
 |dT {a:dk} {kvs:List (List Key×V)} (e:H a=some (.dT kvs)):nN K H (.ref a) (.type "dict")
 | ins {a C dx:dk} {fs:List (Str×V)} (e:H a=some (.ins C dx fs)) (cl:Oa K C) (ha:PySem.W.findIn K (.ref C) "__class__"=some (some (.builtin "object.__class__")))
   (hn:PySem.W.specialIn K (.builtin "object.__class__") "__get__"=some (some (.builtin "getset_descriptor.__get__"))) (htk:PySem.W.takesIn K (.builtin "object.__class__")=some true)
   (hm:PySem.W.mroIn K C (.type "object")=some true):nN K H (.ref a) (.ref C)
theorem i6{x:V}{u t:di}(I:Inv X ag σ H s)(d:d4 x u)(ty:nN X.K H x t)(e:Qi X.K t c=some b)(h:∀ tk,Q (.bool b) {s with toks:=tk}):
  dz (PB X.prog X.w) A (call (.builtin "isinstance") [u,c]) Q E s:=by
 cases ty with
 |non=>cases(show u=Pp from d);exact Qj PySem.W.kitx_none I.kIn Qk e (λz=>nomatch z) h
 |bl y=>cases(show u=Pq y from d);exact Qj PySem.W.kitx_bool I.kIn Qk e (λz=>nomatch z) h
 |int i=>obtain⟨t,q⟩:=(show∃t,u=ab i t from d);cases q;exact Qj PySem.W.kitx_int I.kIn Qk e (λz=>nomatch z) h
 |str y=>obtain⟨t,q⟩:=(show∃t,u=ae y t from d);cases q;exact Qj PySem.W.kitx_str I.kIn Qk e (λz=>nomatch z) h
 |flt y=>obtain⟨t,q⟩:=(show∃t,u=Value.float y t from d);cases q;exact Qj PySem.W.kitx_float I.kIn Qk e (λz=>nomatch z) h
 | @lst a xs f=>
  cases(show u=Pr a from d);obtain⟨_,_,n,_,h1⟩:=(show eP X.prog X.w H s.heap a (.lst xs)from I.hok a _ f);exact Qj PySem.W.kitx_list I.kIn ⟨_,h1,O⟩ e (λz=>nomatch z) h
 | @frz a r xs f=>
  cases(show u=Pr a from d);obtain⟨_,_,_,n,_,h1⟩:=(show eP X.prog X.w H s.heap a (.frz r (.lst xs))from I.hok a _ f);exact Qj PySem.W.kitx_list I.kIn ⟨_,h1,O⟩ e (λz=>nomatch z) h
 | @tup a xs f=>
  cases(show u=Pr a from d);obtain⟨_,_,_,p⟩:=(show eP X.prog X.w H s.heap a (.tup xs)from I.hok a _ f);obtain⟨o,h1,h2,_⟩:=p;exact Qj PySem.W.kitx_tuple I.kIn ⟨o,h1,h2⟩ e (λz=>nomatch z) h
 | @dK a kvs f=>
  cases(show u=Pr a from d);obtain⟨_,_,vs,_,p⟩:=(show eP X.prog X.w H s.heap a (.dK kvs)from I.hok a _ f);obtain⟨o,es,ep,h1,h2,_⟩:=p;exact Qj PySem.W.kitx_dict I.kIn ⟨o,h1,h2.1⟩ e (λz=>nomatch z) h
 | @dT a kvs f=>
  cases(show u=Pr a from d);obtain⟨_,_,xs,_,o,es,ep,h1,h2,_⟩:=(show eP X.prog X.w H s.heap a (.dT kvs)from I.hok a _ f);exact Qj PySem.W.kitx_dict I.kIn ⟨o,h1,h2.1⟩ e (λz=>nomatch z) h
 | @ins a C dx fs f j k l g m=>
  cases(show u=Pr a from d);obtain⟨mA,av,_⟩:=Ge I.hok f;obtain⟨v,ao,_⟩:=av.look;exact Qj (PySem.W.kitx_own (j.get _) j.hd k l g m) I.kIn ao e (λz=>nomatch z) h
end
structure fQ (k:Nat)(A:dq):Prop where
 hd:A.handled=none
 dp:A.depth+3*k+5<recursionLimit
 un:A.units+16*k+200<Ql
 gd:A.guards=some []
theorem fQ.mono{j k:Nat}{A:dq}(r:fQ k A)(h:j<=k):fQ j A:=⟨r.hd,by have:=r.dp;lia,by have:=r.un;lia,r.gd⟩
theorem fQ.deeper{k:Nat}{A:dq}(r:fQ (k+1) A)(env:Env):fQ k (A.deeper env):=
 ⟨r.hd,by have:=r.dp;show A.depth+1+3*k+5<_;lia,by have:=r.un;show A.units+3+16*k+200<_;lia,r.gd⟩
theorem fQ.depth{k:Nat}{A:dq}(r:fQ k A):A.depth<recursionLimit:=by have:=r.dp;lia
theorem fQ.units{k:Nat}{A:dq}(r:fQ k A):A.units+64<Ql:=by have:=r.un;lia
def Nd:TA:=λ_ H Q=>Q [] H
def La(ta:TE)(tr:TA):TA:=fun σ H Q=>ta σ H λx H1=>tr σ H1 λxs H2=>Q (x::xs) H2
section
variable{e:Expr}{es:List Expr}{te:TE}{t:TA}{pos:Pos}
theorem lh:PA X [] Nd:=λ_ _ _ _ H Q I h=>Calls.spliced_nil ⟨[],H,I,.nil,h⟩
theorem iE(ha:PE X e te)(hr:PA X es t)(hs:autoParam (dw (e::es) X.env=(J,eval e X.env)::dw es X.env) cu0):PA X (e::es) (La te t):=by
 intro pos ag s σ H Q I h;rw[hs];show dz _ _ (spliced ((J,eval e X.env)::PC pos (dw es X.env))) _ _ s;refine Calls.spliced_cons (fh (ha ag s σ H _ I h) λu g ⟨x,H1,c,b,f⟩=>?_);exact fh (hr pos ag g σ H1 _ c f) λi j ⟨xs,H2,a,r2,d⟩=>⟨x::xs,H2,a,.cons b r2,d⟩
def M8(t:TA):TE:=fun σ H Q=>t σ H λxs H1=>xs.length<=dy /\ ∀p,H1 p=Y->Q (.ref p) (upd H1 p (.tup xs))
def Nh(t:TA):TE:=fun σ H Q=>t σ H λxs H1=>xs.length<=dy /\ ∀p,H1 p=Y->Q (.ref p) (upd H1 p (.lst xs))
theorem Iy{x1}(h:PA X es t):PE X (.Tuple es x1 pos) (M8 t):=by
 intro ag s σ H Q I g;refine wpAny_Tuple_spliced (fh (h pos ag s σ H _ I g) λd a ⟨xs,H1,c,r,z,q⟩=>⟨by rw[<- r.length];exact z,?_⟩);have f:H1 a.heap.objs.size=Y:=c.hok.fresh (nR1 _);refine⟨.ref a.heap.objs.size,upd H1 a.heap.objs.size (.tup xs),c.laid (t':=a.toks) (λb u e=>hP1 _ e) (nR1 _) ?_,O,q _ f⟩;exact⟨z,d,r,⟨_,hS1 _ O,O,_,O,O⟩⟩
theorem ID(h:PA X es t):PE X (.List es pos) (Nh t):=by
 intro ag s σ H Q I g;refine wpAny_List_spliced (fh (h pos ag s σ H _ I g) λd a ⟨xs,H1,c,r,z,q⟩=>⟨by rw[<- r.length];exact z,?_⟩);have f:H1 a.heap.objs.size=Y:=c.hok.fresh (nR1 _);refine⟨.ref a.heap.objs.size,upd H1 a.heap.objs.size (.lst xs),c.laid (t':=a.toks) (λb u e=>hP1 _ e) (nR1 _) ?_,O,q _ f⟩;exact⟨z,d,0,r,hS1 _ O⟩
end
abbrev Sp:=List V->Hp->VK->XK->Prop
abbrev Ap:=List Env->Hp->dj->XK->di->dj->Prop
structure GX (P:dn)(w:dr)(K:Fg1)(mg:Str->Option di)(base:dB)(A:dq)(outer:List Env)(s:dj)(H:Hp):Prop where
 frames:A.frames=some outer
 mod:Mod K mg base
 bs:∀b o,base.get? b=some o->s.heap.get? b=some o/\H b=none
 bsz:base.objs.size<=s.heap.objs.size
 funs:s.heap.FunFrames base outer
 frf:∀b∈frs outer,H b=none
 hok:lu P w H s.heap
 bare:Pw s.gens
def CE(outer:List Env)(P:dn)(w:dr)(H:Hp)(s:dj)(Q:VK)(u:di)(s':dj):Prop:=
 ∃v H',s'.os=s.os/\Pw s'.gens/\Un (frs outer) [] H H' s.heap s'.heap/\lu P w H' s'.heap/\d4 v u/\Q v H'
def CR(CX:Ap)(outer:List Env)(P:dn)(w:dr)(H:Hp)(s:dj)(Q:VK)(E:XK)(r:Qm)(s':dj):Prop:=
 match r with
 | .ok (.ret u)=>CE outer P w H s Q u s'
 | .ok _=>False
 | .error e=>CX outer H s E e s'
structure j6 (P:dn)(w:dr)(K:Fg1)(mg:Str->Option di)(base:dB)(CX:Ap)(k:Nat)(f:dk)(fd:dD)(ps:List Str)(sp:Sp):Prop where
 len:∀vs H Q E,sp vs H Q E->vs.length=ps.length
 run:∀(A:dq) (outer:List Env) (s:dj) (H:Hp) (args:Args) (us:List di) (vs:List V) (Q:VK) (E:XK),fQ k A->GX P w K mg base A outer s H->BindsTo s fd args (ps.zip us)->ee vs us->sp vs H Q E ->
  dA (PB P w) A (.call (.ref f) args) (CR CX outer P w H s Q E) s
theorem j6.imp{P:dn}{w:dr}{K:Fg1}{mg:Str->Option di}{base:dB}{CX:Ap}{k:Nat}{f:dk}{fd:dD}{ps:List Str}{sp sp':Sp}(F:j6 P w K mg base CX k f fd ps sp)(h:∀vs H Q E,sp' vs H Q E->sp vs H Q E):j6 P w K mg base CX k f fd ps sp':=
 ⟨λvs H Q E q=>F.len vs H Q E (h _ _ _ _ q),λA a s H b c vs Q E j g e i d=>F.run A a s H b c vs Q E j g e i (h _ _ _ _ d)⟩
section
variable{ag:List (dk×Obj)}{σ:St}{H:Hp}{s s':dj}
theorem Inv.env0(I:Inv X ag σ H s):GX X.prog X.w X.K X.mg X.base X.A X.stack s H:=
 ⟨I.ok.frames,I.ok.mod,I.bs,aD I.ok.bsz I.sz,I.stack,I.stkFree,I.hok,I.bare⟩
theorem Inv.after{Q:VK}{u:di}(I:Inv X ag σ H s)(h:CE X.stack X.prog X.w H s Q u s'):EP X ag σ Q u s':=by
 obtain⟨v,H',i,a,un,e,r,q⟩:=h;obtain⟨f,g,d,t,c⟩:=s';obtain rfl:c=s.os:=i;exact⟨v,H',I.call (h':=f) (g':=g) (d':=d) (t':=t) (ch:=[]) un e a (λb z=>absurd z (by simp)),r,q⟩
end
def G5(sp:Sp)(dvs:List V)(E:XK)(t:TA):TE:=fun σ H Q=>t σ H λvs H1=>sp (vs++dvs) H1 Q E
def k9(K:Fg1)(fd:dD)(ps:List Str)(ds:List di):Prop:=
 ∀(s:dj) (us:List di),K.In s.heap->(us++ds).length=ps.length->BindsTo s fd ⟨us,[]⟩ (ps.zip (us++ds))
theorem k9.all{K:Fg1}{fd:dD}{ps:List Str}(h:∀a:List di,a.length=ps.length->bindArgs fd ⟨a,[]⟩=pure (ps.zip a)):k9 K fd ps []:=λs a _ b=>by
 rw[aN]at b ⊢;exact .of_eq (h a b)
def tQ(CX:Ap)(X:Cx)(E:XK):Prop:=∀(ag:List (dk×Obj)) (σ:St) (H:Hp) (s:dj) (e:di) (s':dj),Inv X ag σ H s->CX X.stack H s E e s'->X.xe e s'
section
variable{CX:Ap}{k:Nat}{f C:dk}{fd:dD}{ps:List Str}{sp:Sp}{dvs:List V}{ds:List di}{E:XK}{x m:Str}{p pos apos:Pos}{e o:Expr}{es:List Expr}{ta:TE}{t:TA}
theorem Bt{ag:List (dk×Obj)}{σ:St}{H:Hp}{s:dj}{Q:VK}{a:List di}{vs:List V}(F:j6 X.prog X.w X.K X.mg X.base CX k f fd ps sp)(hr:fQ k X.A)(hb:k9 X.K fd ps ds)(hd:ee dvs ds)(hx:tQ CX X E)(I:Inv X ag σ H s)(r:ee vs a)(h:sp (vs++dvs) H Q E):dz (PB X.prog X.w) X.A (call (.ref f) a) (EP X ag σ Q) X.xe s:=by
 have r2:ee (vs++dvs) (a++ds):=r.append hd;have d:(a++ds).length=ps.length:=by rw[<- r2.length];exact F.len _ _ _ _ h
 refine wpAny_call (Qn (F.run X.A X.stack s H ⟨a,[]⟩ (a++ds) (vs++dvs) Q E hr I.env0 (hb s a I.kIn d) r2 h) λr s' b=>?_);cases r with
 |error e=>exact hx ag σ H s e s' I b
 |ok c=>
  cases c with
  |ret u=>exact I.after b
  |next=>exact PK b
  |brk=>exact PK b
  |cont=>exact PK b
theorem E9 (F:j6 X.prog X.w X.K X.mg X.base CX k f fd ps sp)(hr:fQ k X.A)(hg:Gl X x)(hm:X.mg x=some (.ref f))(hk:wK1 X.K (.ref f)=true)(hb:k9 X.K fd ps ds)(hd:ee dvs ds)(hx:tQ CX X E)
  (ha:PA X (e::es) t) (hdb:autoParam ((x == ("__debug__":Str))=J) bu0) (he:autoParam (dw (e::es) X.env=(J,eval e X.env)::dw es X.env) cu0) (hpl:autoParam ((PC pos (dw es X.env)).any (·.1)=J) cu0):
  PE X (.Call (.Name x p) (e::es) [] pos) (G5 sp dvs E t):=by
 intro ag s σ H Q I h;refine Qo (xX I hg hm ?_ hdb);refine PySem.W.callWith_K (h₀:=X.base) I.ok.mod.kin hk (fh (ha pos ag s σ H _ I h) λb c ⟨vs,H1,a,r,q⟩=>⟨a.kIn,?_⟩) he hpl;exact Bt F hr hb hd hx a r q
end
section
variable{CX:Ap}{k:Nat}{f C:dk}{fd:dD}{ps ks:List Str}{sp:Sp}{E:XK}{x m:Str}{p pos apos kpos:Pos}{e o:Expr}{es:List Expr}{kws:List Qp}{te ta:TE}{t tk:TA}{nm:Option Str}
variable{g:List di->List di->List di}{gV:List V->List V->List V}
end
structure gR (N P:List Str)(sc:dF):Prop where
 kind:sc.kind = .function
 co:sc.isCoroutine=false
 gen:sc.isGenerator=false
 nd:N.Nodup
 pre:N.take P.length=P
 par:∀x∈P,sc.names.lookup x=some .local\/sc.names.lookup x=some .cell
 nofree:∀y∈sc.names,y.2 ≠ .free
theorem rH{kindOf:Str->Option Qq}{x:Str}:∀{binds:List (Str×di)} {m:Str->Option di},(∀v,(x,v)∉binds)->bindL kindOf binds m x=m x
 |[],_,_=>rfl
 |(n,v)::r,m,h=>by
  unfold bindL;rw[rH λw a=>h w (mC1 _ a)];split
  ·have:x≠n:=by rintro rfl;exact h v mS1
   simp[this]
  ·rfl
theorem rK{kindOf:Str->Option Qq}{x:Str}:∀{binds:List (Str×di)} {m:Str->Option di},(∀v,(x,v)∉binds)->bindC kindOf binds m x=m x
 |[],_,_=>rfl
 |(n,v)::r,m,h=>by
  unfold bindC;rw[rK λw a=>h w (mC1 _ a)];split
  ·rfl
  ·have:x≠n:=by rintro rfl;exact h v mS1
   simp[this]
theorem rJ{kindOf:Str->Option Qq}{x:Str}{v:di}:∀ {P:List Str} {vs:List di} {i:Nat} {m:Str->Option di},P.Nodup->P[i]? = some x->vs[i]? = some v->kindOf x=some .local ->
  bindL kindOf (P.zip vs) m x=Z v
 |[],_,_,_,_,h,_,_=>by simp at h
 |_::_,[],_,_,_,_,h,_=>by simp at h
 |p::P,w::vs,0,m,nd,h1,h2,hk=>by
  simp at h1 h2;subst h1;subst h2;show bindL kindOf ((p,w)::P.zip vs) m p=_;unfold bindL;rw[rH λv a=>(aO.mp nd).1 (List.of_mem_zip a).1,ak hk];simp
 |p::P,w::vs,i+1,m,nd,h1,h2,hk=>by
  show bindL kindOf ((p,w)::P.zip vs) m x=_;unfold bindL;exact rJ (i:=i) (aO.mp nd).2 (by simpa using h1) (by simpa using h2) hk
theorem rL{kindOf:Str->Option Qq}{x:Str}{v:di}:∀ {P:List Str} {vs:List di} {i:Nat} {m:Str->Option di},P.Nodup->P[i]? = some x->vs[i]? = some v->kindOf x≠some .local ->
  bindC kindOf (P.zip vs) m x=Z v
 |[],_,_,_,_,h,_,_=>by simp at h
 |_::_,[],_,_,_,_,h,_=>by simp at h
 |p::P,w::vs,0,m,nd,h1,h2,hk=>by
  simp at h1 h2;subst h1;subst h2;show bindC kindOf ((p,w)::P.zip vs) m p=_;unfold bindC;rw[rK λv a=>(aO.mp nd).1 (List.of_mem_zip a).1,aj hk];simp
 |p::P,w::vs,i+1,m,nd,h1,h2,hk=>by
  show bindC kindOf ((p,w)::P.zip vs) m x=_;unfold bindC;exact rL (i:=i) (aO.mp nd).2 (by simpa using h1) (by simpa using h2) hk
def jB(N:List Str)(vs:List V):St:=vs.map Z++aP (N.length-vs.length) Y
noncomputable def nM(CX:Ap)(P:dn)(w:dr)(K:Fg1)(mg:Str->Option di)(base:dB)(N:List Str)(qual:Str)(scope:dF)(f:dk)(cd:di)(A:dq)(outer:List Env)(s:dj)(H:Hp)(E:XK):Cx where
 prog:=P
 w:=w
 K:=K
 mg:=mg
 base:=base
 A:=A.deeper (Qr qual scope s.heap.objs.size f cd)
 N:=N
 s₀:=s
 H₀:=H
 env:=Qr qual scope s.heap.objs.size f cd
 outer:=outer
 stack:=Qr qual scope s.heap.objs.size f cd::outer
 ex:=[]
 calm:=M
 fn:=λ_=>M
 pn:=[]
 xe:=λe s'=>dz (PB P w) (A.deeper (Qr qual scope s.heap.objs.size f cd)) (leaving (Qr qual scope s.heap.objs.size f cd) e) (λ_ s''=>CX outer H s E e s'') (λe' s''=>CX outer H s E e' s'') s'
theorem vn{a:dF}{n:Nat}{x:Str}(h:a.names.lookup x=Z .cell):∃c,(Qs n a.names []).lookup x=Z c:=by
 have q:=Qt a.names n [] (.inl h);exact aQ.mp q
theorem zF{CX:Ap}{P:dn}{w:dr}{K:Fg1}{mg:Str->Option di}{base:dB}{N ps:List Str}{g:Str}{scope:dF}{f:dk}{B:di}{A:dq}{d:List Env}{s s1:dj}{H:Hp}{E:XK}{C:List di}{vs:List V}(S:gR N ps scope)(hd:A.handled=none)(j:GX P w K mg base A d s H)(aq:vs.length=ps.length)(r:ee vs C)(x:InCallC s s.heap.objs.size (bindL (Qr g scope s.heap.objs.size f B).kindOf (ps.zip C) fun _=>none) (Qs (s.heap.objs.size+1) scope.names []) (bindC (Qr g scope s.heap.objs.size f B).kindOf (ps.zip C) fun _=>none) s1):
  Inv (nM CX P w K mg base N g scope f B A d s H E) [] (jB N vs) H s1:=by
 have ao:ps.length<=N.length:=by have:=congrArg List.length S.pre;rw[aR]at this;lia
 obtain⟨h1,tk,rfl,D⟩:=x.done;have l:∀b:dk,b∉(nM CX P w K mg base N g scope f B A d s H E).ex:=λb z=>absurd (show b∈([]:List dk)from z) (by simp);refine⟨⟨j.mod,S.kind,O,O,nR1 _,λy z c h1 h2=>?_,λy m=>?_,λy c _ h=>?_,λ_=>hd,Around.frames_deeper j.frames,.inr ⟨O,O⟩,λb z=>absurd z (l b),j.bs,j.bsz,λb _ _=>l b,λb z=>absurd z (l b),j.funs,j.frf⟩,
  rfl,j.bare,Un.kept D,⟨_,x.toInCall.ns,λi y v h1 h2 L=>?_⟩,λy c h=>⟨_,x.cell y c h⟩,j.hok.fresh (nR1 _),λy c h=>?_,λp t=>absurd (show p∈([]:List (dk×Obj))from t) (by simp),j.hok.kept D,?_⟩
 ·exact name_of_addr x.apart (Qu h1) (Qu h2)
 ·have m:scope.names.lookup y=Z .cell\/scope.names.lookup y=Z .free:=m;rcases m with m|m
  ·exact vn m
  ·exact absurd O (S.nofree _ (Qu m))
 ·exact Nat.le_of_lt (x.above y c (Qu h))
 ·have hi:i<vs.length:=by
   unfold jB at h2;by_cases hi:i<vs.length
   ·exact hi
   ·rw[gR1 (by simpa using hi)]at h2;rw[aS]at h2;split at h2<;>cases h2
  have I:vs[i]?=Z v:=by
   unfold jB at h2;rw[gL1 (by simpa using hi),gP1]at h2;cases e:vs[i]? with
   |none=>rw[e]at h2;cases h2
   |some a=>rw[e]at h2;cases h2;rfl
  obtain⟨u,F,G⟩:=r.get I;have t:ps[i]?=Z y:=by
   rw[<- S.pre,aT (by lia)];exact h1
  have o:ps.Nodup:=by rw[<- S.pre];exact S.nd.sublist (aU _ _)
  refine⟨u,G,?_⟩;rcases S.par y (gM1 t)with k|k
  ·exact .inl ⟨k,rJ o t F k⟩
  ·obtain⟨c,e⟩:=vn (n:=s.heap.objs.size+1) k;refine .inr ⟨.inl k,c,e,?_⟩;have q:=x.cell y c e;rw[rL o t F (by show scope.names.lookup y≠_;rw[k];decide)]at q;exact q
 ·exact j.hok.fresh (Nat.le_of_lt (x.above y c (Qu h)))
 ·unfold jB;show _=N.length;rw[lA1,lM1,lR1];lia
theorem L5{CX:Ap}{P:dn}{w:dr}{K:Fg1}{mg:Str->Option di}{base:dB}{k:Nat}{f:dk}{name c:Str}{params:Arguments}{g:List dE}{scope:dF}{L kV p aq d ct wq:di}{av od:Option dk}{G:Array (Option di)}{N ps:List Str}{sp:Sp}(lk:K.lookup f=some ⟨wq,od,.func (wF1 name c params g scope L kV p aq av d ct),G⟩)(hcd:wC1 K d c=true)(S:gR N ps scope)(len:∀vs H Q E,sp vs H Q E->vs.length=ps.length)(j:∀(A:dq) (a:List Env) (s:dj) (H:Hp) (vs:List V) (Q:VK) (E:XK),fQ k (A.deeper (Qr c scope s.heap.objs.size f d))->sp vs H Q E ->
   ∃t,vI (nM CX P w K mg base N c scope f d A a s H E) g t/\t {nx:=λ_ H'=>Q .non H',rt:=Q} (jB N vs) H):
  j6 P w K mg base CX (k+1) f (wF1 name c params g scope L kV p aq av d ct) ps sp:=by
 refine⟨len,λA a s H R U vs Q E F m hb r z=>?_⟩;have hl:=len _ _ _ _ z;have T:K.In s.heap:=m.mod.kin.keeps λb o e=>(m.bs b o e).1;have D:s.heap.NoLimit:=m.mod.nolimit.keeps λb o e=>(m.bs b o e).1;have i:∀y∈ps.zip U,scope.names.lookup y.1=Z .local\/(scope.names.lookup y.1=Z .cell/\((Qs (s.heap.objs.size+1) scope.names []).lookup y.1).isSome=M):=λ⟨n,v⟩ au=>by
  rcases S.par n (List.of_mem_zip au).1 with q|q
  ·exact .inl q
  ·exact .inr ⟨q,Qt _ _ _ (.inl q)⟩
 refine codeAny_call_function F.depth (T _ _ lk) O S.co S.gen O (PySem.W.codeRec_of T hcd) (hb _ _ _ _ ?_);refine wpAny_newFunctionEnv_cells S.kind i λenv X s1 x=>?_;subst X;refine⟨D.keeps x.toInCall.keep,codeAny_func ?_⟩;obtain⟨t,ht,hq⟩:=j A a s H vs Q E (F.deeper _) z;have I:Inv (nM CX P w K mg base N c scope f d A a s H E) [] (jB N vs) H s1:=zF S F.hd m hl r x;refine PD (ht [] s1 (jB N vs) H _ I hq) (λW s' l=>?_) λe s' l=>l;have B:∀{h:St} {H':Hp} {v:V} {u:di},Inv (nM CX P w K mg base N c scope f d A a s H E) [] h H' s'->d4 v u->Q v H'->CE a P w H s Q u s':=
  λ{h H' v u} ao C q=>⟨v,H',ao.os,ao.bare,ao.base,ao.hok,C,q⟩
 cases W with
 |ret u=>
  obtain⟨v,h,H',ao,C,q⟩:=l;exact B ao C q
 |next=>
  obtain⟨h,H',ao,q⟩:=l;exact B (v:=V.non) (u:=Pp) ao O q
 |brk=>
  obtain⟨_,_,_,q⟩:=l;exact PK q
 |cont=>
  obtain⟨_,_,_,q⟩:=l;exact PK q
section
variable{x:Str}{p pos:Pos}{e:Expr}{es:List Expr}{t:TA}{id T:String}{r:List V->Hp->VK->Prop}
def Oe(r:List V->Hp->VK->Prop)(t:TA):TE:=fun σ H Q=>t σ H λvs H1=>r vs H1 Q
theorem lM (hc:eQ X (.builtin id) r)(hg:Gl X x)(hm:X.mg x=none)(hv:Pv x=some (.builtin id))(ha:PA X (e::es) t)(hn:autoParam (x≠"__name__") bu0)(hdb:autoParam ((x == ("__debug__":Str))=false) bu0)
  (he:autoParam (dw (e::es) X.env=(J,eval e X.env)::dw es X.env) cu0) (hpl:autoParam ((PC pos (dw es X.env)).any (·.1)=J) cu0):PE X (.Call (.Name x p) (e::es) [] pos) (Oe r t):=by
 intro ag s σ H Q I h;refine Qo (jQ I hg hm hv ?_ hn hdb);exact PyProof.Rows.callWith_builtin1 (fh (ha pos ag s σ H _ I h) λa f ⟨vs,H1,c,b,d⟩=>hc ag f σ H1 vs a Q c b d) he hpl
theorem kj (hc:eQ X (.type T) r)(hg:Gl X x)(hm:X.mg x=none)(hv:Pv x=some (.type T))(ha:PA X (e::es) t)(hn:autoParam (x≠"__name__") bu0)(hdb:autoParam ((x == ("__debug__":Str))=false) bu0)
  (he:autoParam (dw (e::es) X.env=(J,eval e X.env)::dw es X.env) cu0) (hpl:autoParam ((PC pos (dw es X.env)).any (·.1)=J) cu0):PE X (.Call (.Name x p) (e::es) [] pos) (Oe r t):=by
 intro ag s σ H Q I h;refine Qo (jQ I hg hm hv ?_ hn hdb);exact Qb (fh (ha pos ag s σ H _ I h) λa f ⟨vs,H1,c,b,d⟩=>hc ag f σ H1 vs a Q c b d) he hpl
end
end L2
namespace HT
open PySem PyProof.Rows
section
open PySem.SeqAt
open PySem.AutoSeq1 (wpAny_loadPart')
open PySem.MeetsSeq PySem.MeetsSeq2 PySem.MeetsSeq3
end
section
variable{prog:dn}{w:dr}{A:dq}{E:di->dj->Prop}{s:dj}
theorem GB {t b:dk}{vs ws:List di}{Q:di->dj->Prop}(ht:IsTup s.heap t vs.toArray)(hb:IsTup s.heap b ws.toArray)(hv:vs≠[])
  (h1:ws=[]->Q (.ref t) s) (h2:ws≠[]->Q (.ref s.heap.objs.size) {s with heap:=s.heap.push {cls:=.type "tuple",data:=.seq (vs++ws).toArray}})
  (hsz:vs.length+ws.length<=dy):dz (PB prog w) A (Qd .Add (.ref t) (.ref b)) Q E s:=by
 obtain⟨⟨cls,p,data,o⟩,i,hc,n,l⟩:=id ht;obtain⟨⟨m,c,j,f⟩,a,g,k,d⟩:=id hb;simp only at hc l g d;subst hc l g d;have e:vs.toArray++ws.toArray=(vs++ws).toArray:=by simp
 by_cases h:ws=[]
 ·exact concat_meets ⟨_,i,rfl⟩ ⟨_,a,rfl⟩ noFill_tuple_add seq_tuple_add Qv Qw (Qx _ _)
   (tuple_addW1 t b vs.toArray ws.toArray n k p c o f (by simpa using hv) (by simp[h])) ⟨i,a,h1 h⟩
 ·refine concat_meets ⟨_,i,rfl⟩ ⟨_,a,rfl⟩ noFill_tuple_add seq_tuple_add Qv Qw (Qx _ _)
   (tuple_addW2 t b vs.toArray ws.toArray n k p c o f (by simpa using hv) (by simpa using h) (by rw[sT1,sT1];exact hsz)) ⟨i,a,?_⟩
  rw[e];exact h2 h
noncomputable def sIx(n d:Nat):Option Int->Nat
 |none=>d
 |some v=>if v<0 then(v+(n:Int)).toNat else min v.toNat n
theorem ud(n d:Nat):sIx n d Y=d:=rfl
theorem xu(n d k:Nat):sIx n d (Z (k:Int))=min k n:=by
 show(if(k:Int)<0 then((k:Int)+(n:Int)).toNat else min (k:Int).toNat n)=min k n;rw[aj (by lia),Qy]
theorem H7(n d:Nat)(hd:d<=n)(o:Option Int):sIx n d o<=n:=by
 cases o with
 |none=>exact hd
 |some v=>
  show(if v<0 then(v+(n:Int)).toNat else min v.toNat n)<=n;by_cases a:v<0
  ·rw[ak a];lia
  ·rw[aj a];exact Nat.min_le_right _ _
theorem yw(v:Int)(n d:Nat):(if v<0 then max (v+(n:Int)) 0 else min v (n:Int))=((sIx n d (Z v):Nat):Int):=by
 show(if v<0 then max (v+(n:Int)) 0 else min v (n:Int))=(((if v<0 then(v+(n:Int)).toNat else min v.toNat n):Nat):Int);by_cases a:v<0
 ·simp only[ak a];lia
 ·simp only[aj a];lia
theorem wO(lo hi:Option Int)(n:Nat):Qz lo hi 1 (n:Int)=(((sIx n 0 lo:Nat):Int),((sIx n n hi:Nat):Int)):=by
 have h1:¬ ((1:Int)<0):=by lia
 unfold Qz;simp only[h1,QA];refine Prod.ext ?_ ?_
 ·cases lo with
  |none=>rfl
  |some v=>exact yw v n 0
 ·cases hi with
  |none=>rfl
  |some v=>exact yw v n n
theorem v7(i j:Nat):QB (i:Int) (j:Int) 1=j-i:=by
 unfold QB;have h1:(1:Int)>0:=by lia
 simp only[h1,QC,Int.ediv_one];split<;>lia
theorem ou{v:di}{o:Option Int}{Q:Option Int->dj->Prop}(p:QD v o)(h:Q o s):dz (PB prog w) A (Builtin.Slice.slicePartIndex v) Q E s:=by
 cases p with
 |none=>exact slicePart_none h
 |int i t=>exact slicePart_int h
theorem iT{sl:dk}{d c:di}{lo hi:Option Int}{n:Nat}{Q:Int×Int×Nat->dj->Prop}(hs:s.heap.IsSliceOf sl d c .none)(pl:QD d lo)(f:QD c hi)(h:Q (((sIx n 0 lo:Nat):Int),1,sIx n n hi-sIx n 0 lo) s):dz (PB prog w) A (Builtin.Slice.sliceApplied (.ref sl) (pure (n:Int))) Q E s:=by
 obtain⟨g,a,e,b⟩:=id hs;unfold Builtin.Slice.sliceApplied Builtin.Slice.sliceFields;refine wB1 (wB1 (QE a b (x:=d) O (wB1 (QE a b (x:=c) O (wB1 (QE a b (x:=.none) O (wP1 ?_)))))));refine wB1 (slicePart_none ?_);show dz _ _ (if((1:Int) == 0)=M then _ else _) _ _ s;rw[aj (by decide)];refine wB1 (ou pl (wB1 (ou f (wB1 (wP1 ?_)))));show dz _ _ (match Qz lo hi 1 (n:Int)with|(lo,hi)=>pure (lo,(1:Int),QB lo hi 1)) _ _ s;rw[wO lo hi n];show dz _ _ (pure (((sIx n 0 lo:Nat):Int),(1:Int),QB ((sIx n 0 lo:Nat):Int) ((sIx n n hi:Nat):Int) 1)) _ _ s;rw[v7];exact wP1 h
theorem BG(xs:Array di)(i k:Nat):((af k).filterMap λ(m:Nat)=>xs[((i:Int)+(m:Int)*1).toNat]?).toArray=((xs.toList.drop i).take k).toArray:=by
 have e:(λ(m:Nat)=>xs[((i:Int)+(m:Int)*1).toNat]?)=λm=>xs[i+m]?:=by
  funext m
  have:((i:Int)+(m:Int)*1).toNat=i+m:=by lia
  rw[this]
 rw[e];have:=pick_run xs i k;rw[List.filterMap_map]at this;have a:((λx=>xs[x]?)∘λx=>i+x)=λm=>xs[i+m]?:=rfl;rw[a]at this;rw[this]
theorem lZ {t sl:dk}{items:Array di}{g f:di}{lo hi:Option Int}{Q:di->dj->Prop}(ht:IsTup s.heap t items)(hs:s.heap.IsSliceOf sl g f .none)(pl:QD g lo)(j:QD f hi)
  (hw:¬ (sIx items.size 0 lo=0/\sIx items.size items.size hi=items.size))
  (h:Q (.ref s.heap.objs.size) {s with heap:=s.heap.push {cls:=.type "tuple",data:=.seq ((items.toList.drop (sIx items.size 0 lo)).take (sIx items.size items.size hi-sIx items.size 0 lo)).toArray}})
  (hsz:items.size<=dy):dz (PB prog w) A (getItem (.ref t) (.ref sl)) Q E s:=by
 have a:sizeOk (.seq ((items.toList.drop (sIx items.size 0 lo)).take (sIx items.size items.size hi-sIx items.size 0 lo)).toArray):=by
  show((items.toList.drop (sIx items.size 0 lo)).take (sIx items.size items.size hi-sIx items.size 0 lo)).toArray.size<=dy;rw[sT1,aR,List.length_drop,aK];omega
 have o:sIx items.size items.size hi<=items.size:=H7 _ _ (nR1 _) hi;obtain⟨k,b,c,i⟩:=id hs;have d:s.TypeIs (.ref sl) "slice":=⟨k,b,c⟩;unfold getItem
 try with_reducible refine PY ?_
 first|refine wB1 (wP1 ?_)|skip
 refine wB1 (wpAny_sequenceKey ht.typeIs (by decide) ?_);refine wB1 (QF (name:=QG "__getitem__") ht.typeIs QH
  (wE1 QH ht.typeIs entry_tuple_getitem ?_ (args_tuple_getitem _ _)))
 show dz _ _ (QI (.ref t) >>= _) _ _ s;refine wB1 (tupleItemsOf_ ht ?_);refine wB1 (QJ d ?_);rw[ak (by decide)];refine wB1 (iT hs pl j ?_);have e:¬ ((((sIx items.size 0 lo:Nat):Int) == 0&&(1:Int) == 1&&(sIx items.size items.size hi-sIx items.size 0 lo) == items.size)=M):=by
  intro q;rw[bA1,bA1]at q;have n:((sIx items.size 0 lo:Nat):Int)=0:=eq_of_beq q.1.1;have l:sIx items.size items.size hi-sIx items.size 0 lo=items.size:=eq_of_beq q.2;exact hw ⟨by omega,by omega⟩
 show dz _ _ (if(((sIx items.size 0 lo:Nat):Int) == 0&&(1:Int) == 1&&(sIx items.size items.size hi-sIx items.size 0 lo) == items.size)=M then _ else _) _ _ s;rw[aj e,BG]
 first
  |exact wB1 (m:=QK _) (wO1 (wP1 ⟨_,rfl,wP1 h⟩) a)
  |exact wB1 (m:=QK _) (wO1 (wB1 (wP1 (wP1 ⟨_,rfl,wP1 h⟩))) a)
  |exact wB1 (wB1 (m:=QK _) (wO1 (wP1 (wP1 ⟨_,rfl,wP1 h⟩)) a))
  |exact wB1 (wB1 (m:=QK _) (wO1 (wP1 ⟨_,rfl,wP1 h⟩) a))
end
end HT
namespace L2
open PySem PySem.Spec PyProof.Rows
abbrev TO:=St->Hp->(Option Int->Hp->Prop)->Prop
def PO(X:Cx)(e:Option Expr)(t:TO):Prop:=
 ∀(ag:List (dk×Obj)) (s:dj) (σ:St) (H:Hp) (Q:Option Int->Hp->Prop),Inv X ag σ H s->t σ H Q ->
  dz (PB X.prog X.w) X.A (evalPart e X.env) (λu s'=>∃o H',Inv X ag σ H' s'/\QD u o/\Q o H') X.xe s
def Es:TO:=λ_ H Q=>Q Y H
def K2(t:TE):TO:=fun σ H Q=>t σ H λx H1=>∃i,x = .int i/\Q (Z i) H1
variable{X:Cx}
section
variable{e:Expr}{te:TE}{lo hi:Option Expr}{tl th:TO}{pos p2:Pos}
theorem EX:PO X Y Es:=by
 intro ag s σ H Q I h;rw[evalPart_none];exact wP1 ⟨Y,H,I,.none,h⟩
theorem EW(h:PE X e te):PO X (Z e) (K2 te):=by
 intro ag s σ H Q I d;rw[evalPart_some];refine fh (h ag s σ H _ I d) λu f ⟨x,H1,b,a,c⟩=>?_;obtain⟨i,rfl,q⟩:=c;obtain⟨t,rfl⟩:=a;exact⟨Z i,H1,b,.int i t,q⟩
def D8(X:Cx)(r:V->Option Int->Option Int->Hp->VK->Prop):Prop:=
 ∀(ag:List (dk×Obj)) (s:dj) (σ:St) (H:Hp) (x:V) (v vl vu:di) (lo hi:Option Int) (sl:dk) (Q:VK),Inv X ag σ H s->d4 x v->s.heap.IsSliceOf sl vl vu .none->QD vl lo->QD vu hi->r x lo hi H Q ->
  ∃T id,typeLookup (.type T) "__getitem__"=pure (Z (.builtin id))/\s.TypeIs v T/\dz (PB X.prog X.w) X.A (getItem v (.ref sl)) (EP X ag σ Q) X.xe s
theorem D8.or{r b:V->Option Int->Option Int->Hp->VK->Prop}(h:D8 X r)(h':D8 X b):D8 X (λx lo hi H Q=>r x lo hi H Q\/b x lo hi H Q):=by
 intro ag s σ H x v e d lo hi g Q I a c pl f q;rcases q with q|q
 ·exact h ag s σ H x v e d lo hi g Q I a c pl f q
 ·exact h' ag s σ H x v e d lo hi g Q I a c pl f q
def Oz(r:V->Option Int->Option Int->Hp->VK->Prop)(te:TE)(tl th:TO):TE:=fun σ H Q=>te σ H λx H1=>tl σ H1 λl H2=>th σ H2 λu H3=>r x l u H3 Q
theorem BK{r:V->Option Int->Option Int->Hp->VK->Prop}(hr:D8 X r)(he:PE X e te)(C:PO X lo tl)(m:PO X hi th):PE X (.Subscript e (.Slice lo hi Y p2) pos) (Oz r te tl th):=by
 intro ag s σ H Q I h;refine Subscript_ (fh (he ag s σ H _ I h) λv w ⟨x,H1,o,n,A⟩=>?_);refine wpAny_Slice (fh (C ag w σ H1 _ o A) λd D ⟨l,H2,g,pl,i⟩=>fh (m ag D σ H2 _ g i) λc a ⟨u,f,p,k,j⟩=>?_);rw[evalPart_none];refine wP1 ?_;have z:Inv X ag σ f {a with heap:=a.heap.push {cls:=.type "slice",data:=.fields #[d,c,.none]}}:=p.kept (t':=a.toks) λb E q=>hP1 _ q;obtain⟨T,id,t,y,B⟩:=hr ag {a with heap:=a.heap.push {cls:=.type "slice",data:=.fields #[d,c,.none]}} σ f x v d c l u a.heap.objs.size Q z n (Heap.IsSliceOf.new ..) pl k j;show dz (PB X.prog X.w) X.A (QL e (.Slice lo hi Y p2) v (.ref a.heap.objs.size)) (EP X ag σ Q) X.xe {a with heap:=a.heap.push {cls:=.type "slice",data:=.fields #[d,c,.none]}};exact tail_any (ops:=[.ref a.heap.objs.size,v]) y t B (by with_unfolding_all rfl)
def vf(xs:List V)(lo hi:Option Int):List V:=(xs.drop (HT.sIx xs.length 0 lo)).take (HT.sIx xs.length xs.length hi-HT.sIx xs.length 0 lo)
theorem nq(xs:List V)(lo hi:Option Int):(vf xs lo hi).length<=xs.length:=by
 unfold vf;rw[aR,List.length_drop];lia
def Nr(K:Fg1):V->Option Int->Option Int->Hp->VK->Prop:=λx lo hi H Q=>∃a xs,x = .ref a/\kC K H a xs /\
 ¬ (HT.sIx xs.length 0 lo=0/\HT.sIx xs.length xs.length hi=xs.length) /\ ∀p,H p=Y->Q (.ref p) (upd H p (.tup (vf xs lo hi)))
theorem HX:D8 X (Nr X.K):=by
 intro ag s σ H x v n m lo hi p Q I g i pl l h;obtain⟨a,xs,rfl,k,j,q⟩:=h;cases g;obtain⟨d,r,f,e⟩:=I.tuple k;have c:d.toArray.size=xs.length:=by rw[sT1];exact r.length.symm
 refine⟨"tuple",_,PyProof.Rows.slot_tuple_getitem.lookup,f.typeIs,?_⟩;refine HT.lZ f i pl l (by rw[c];exact j) ?_ (by rw[c];exact e);rw[c];refine⟨.ref s.heap.objs.size,_,I.laid (t':=s.toks) (o:=.tup (vf xs lo hi)) (λb t q=>hP1 _ q) (nR1 _) ?_,O,q _ (I.hok.fresh (nR1 _))⟩;exact⟨aD (nq xs lo hi) e,_,(r.drop (HT.sIx xs.length 0 lo)).take (HT.sIx xs.length xs.length hi-HT.sIx xs.length 0 lo),ms.new _ _⟩
def Lo(K:Fg1):R2:=λx y H Q=>∃a b xs ys,x = .ref a/\y = .ref b/\kC K H a xs/\kC K H b ys/\xs≠[]/\xs.length+ys.length<=dy /\
 (ys=[]->Q (.ref a) H)/\(ys≠[] -> ∀p,H p=Y->Q (.ref p) (upd H p (.tup (xs++ys))))
theorem ee.nil_iff{xs:List V}{a:List di}(r:ee xs a):a=[]↔xs=[]:=by
 cases r with
 |nil=>simp
 |cons _ _=>simp
theorem Fg:gE X (Qd .Add) (Lo X.K):=by
 intro ag s σ H x y v u Q I f p h;obtain⟨a,b,xs,ys,rfl,rfl,k,m,n,e,i,g⟩:=h;cases f;cases p;obtain⟨j,c,l,_⟩:=I.tuple k;obtain⟨d,r2,p2,_⟩:=I.tuple m;refine HT.GB l p2 (λz=>n (c.nil_iff.mp z)) (λz=>⟨.ref a,H,I,O,i (r2.nil_iff.mp z)⟩) (λz=>?_) (by rw[<- c.length,<- r2.length];exact e);refine⟨.ref s.heap.objs.size,_,I.laid (t':=s.toks) (o:=.tup (xs++ys)) (λb r q=>hP1 _ q) (nR1 _) ?_,O,g (λw=>z (r2.nil_iff.mpr w)) _ (I.hok.fresh (nR1 _))⟩;exact⟨by rw[lA1];exact e,_,c.append r2,ms.new _ _⟩
end
noncomputable def zE(n:Nat)(i:Int):Option Nat:=if 0<=i then(if i<n then Z i.toNat else Y)else if-(n:Int)<=i then Z (i+n).toNat else Y
def wM{α:Type}(xs:List α)(i:Int):Option α:=(zE xs.length i).bind λj=>xs[j]?
theorem sV{n:Nat}{i:Int}{j:Nat}(h:zE n i=Z j):seqIndex? i n=Z j/\j<n /\ -(n:Int)<=i/\i<n:=by
 unfold zE at h;by_cases a:0<=i
 ·rw[ak a]at h;by_cases h1:i<n
  ·rw[ak h1]at h;have e:i.toNat=j:=Option.some.inj h;exact⟨by rw[seqIndex_of a h1,e],by lia,by lia,h1⟩
  ·rw[aj h1]at h;cases h
 ·rw[aj a]at h;by_cases h1: -(n:Int)<=i
  ·rw[ak h1]at h;have e:(i+n).toNat=j:=Option.some.inj h;exact⟨by rw[seqIndex_neg (by lia) h1,e],by lia,h1,by lia⟩
  ·rw[aj h1]at h;cases h
theorem yF{α:Type}{xs:List α}{i:Int}{v:α}(h:wM xs i=Z v):∃j,seqIndex? i xs.length=Z j/\xs[j]?=Z v/\j<xs.length /\ -(xs.length:Int)<=i/\i<xs.length:=by
 unfold wM at h;cases e:zE xs.length i with
 |none=>rw[e]at h;cases h
 |some j=>
  rw[e]at h;obtain⟨h1,h2,b,a⟩:=sV e;exact⟨j,h1,h,h2,b,a⟩
def oa(b:Expr):Prop:=∀o i,subscripted b J o i=operate [o,i] (getItem o i)
def Hw(X:Cx)(r:R2):Prop:=
 ∀(value slice:Expr) (ag:List (dk×Obj)) (s:dj) (σ:St) (H:Hp) (x y:V) (v u:di) (Q:VK),Inv X ag σ H s->d4 x v->d4 y u->r x y H Q ->
  subscripted slice J v u=operate [v,u] (getItem v u)->dz (PB X.prog X.w) X.A (QL value slice v u) (EP X ag σ Q) X.xe s
def DY(X:Cx)(id:String)(r:V->List V->Hp->VK->Prop):Prop:=
 ∀(ag:List (dk×Obj)) (s:dj) (σ:St) (H:Hp) (x:V) (xs:List V) (v:di) (us:List di) (Q:VK),Inv X ag σ H s->d4 x v->ee xs us->r x xs H Q ->
  dz (PB X.prog X.w) X.A (call (.builtin id) (v::us)) (EP X ag σ Q) X.xe s
section
variable{a b:Expr}{ta tb:TE}{pos:Pos}
theorem Lv{r:R2}(hr:Hw X r)(ha:PE X a ta)(hb:PE X b tb)(hs:oa b):PE X (.Subscript a b pos) (K3 r ta tb):=by
 intro ag s σ H Q I h;exact Subscript_ (Ko ha hb I h λv u e x y H2 c d f q=>hr a b ag e σ H2 x y v u Q c d f q (hs _ _))
def Nw(K:Fg1):R2:=λx y H Q=>∃p xs i v,x = .ref p/\y = .int i/\mX K H p xs/\wM xs i=Z v/\Q v H
def Nu(K:Fg1):R2:=λx y H Q=>∃p xs i v,x = .ref p/\y = .int i/\kC K H p xs/\wM xs i=Z v/\Q v H
theorem F7:Hw X (Nw X.K):=by
 intro value e ag s σ H x y v u Q I m C h f;obtain⟨p,xs,i,z,rfl,rfl,B,n,q⟩:=h;cases m;obtain⟨t,rfl⟩:=C;obtain⟨c,r,pl,E⟩:=I.list B;obtain⟨j,h1,h2,D,l,o⟩:=yF n;obtain⟨w,k,b⟩:=r.get h2;have A:=r.length;have F:=mK;have a:EP X ag σ Q w s:=⟨z,H,I,b,q⟩;by_cases g:0<=i
 ·have d:i.toNat=j:=by
   rw[seqIndex_of g o]at h1;exact Option.some.inj h1
  exact item_listR pl.isList g (by lia) (by rw[d];simpa using k) a f
 ·have d:(i+(c.toArray.size:Int)).toNat=j:=by
   rw[seqIndex_neg (by lia) l]at h1;rw[sT1,<- A];exact Option.some.inj h1
  exact subscriptTail_builtinR (x:=w) pl.isList.typeIs slot_list_getitem.lookup
   (wpAny_getItem_list_neg (Q:=λr s'=>r=w/\EP X ag σ Q r s') pl.isList (by lia) (by rw[sT1]<;>lia) (by lia) (by rw[d];simpa using k) ⟨O,a⟩) f
theorem JR:Hw X (Nu X.K):=by
 intro value c ag s σ H x y v u Q I d n h e;obtain⟨p,xs,i,z,rfl,rfl,m,g,q⟩:=h;cases d;obtain⟨t,rfl⟩:=n;obtain⟨f,r,pl,B⟩:=I.tuple m;obtain⟨j,h1,h2,A,o,C⟩:=yF g;obtain⟨w,k,a⟩:=r.get h2;have l:=r.length;have D:=mK;have b:EP X ag σ Q w s:=⟨z,H,I,a,q⟩;exact subscriptTail_builtinR (x:=w) pl.typeIs slot_tuple_getitem.lookup
  (getItem_tuple (j:=j) (Q:=λr s'=>r=w/\EP X ag σ Q r s') pl (by lia) (by lia) (by rw[sT1,<- l];exact h1) (by simpa using k) ⟨O,b⟩) e
theorem wm(its:List di)(n j:Nat)(u:di):QM (·.setIfInBounds j u) {cls:=.type "list",data:=.seq its.toArray n}={cls:=.type "list",data:=.seq (its.set j u).toArray n}:=by
 simp[QM]
theorem Inv.lst{ag:List (dk×Obj)}{σ:St}{H:Hp}{s:dj}{p:dk}{xs:List V}(I:Inv X ag σ H s)(h:H p=some (.lst xs)):
  ∃(its:List di) (n:Nat),ee xs its/\s.heap.get? p=Z {cls:=.type "list",data:=.seq its.toArray n}/\xs.length<=dy:=by
 obtain⟨z,its,n,r,e⟩:=I.hok p _ h;exact⟨its,n,r,e,z⟩
theorem Inv.lstUpd {ag:List (dk×Obj)}{σ:St}{H:Hp}{s:dj}{p:dk}{xs ys:List V}{its its':List di}{n a:Nat}{f:Obj->Obj}(I:Inv X ag σ H s)(h:H p=some (.lst xs))
  (ho:s.heap.get? p=Z {cls:=.type "list",data:=.seq its.toArray n}) (hf:f {cls:=.type "list",data:=.seq its.toArray n}={cls:=.type "list",data:=.seq its'.toArray a}) (r:ee ys its') (hz:ys.length<=dy) (t:Nat):
  Inv X ag σ (upd H p (.lst ys)) {s with heap:=s.heap.update p f,toks:=t}:=by
 have e:(s.heap.update p f).get? p=Z {cls:=.type "list",data:=.seq its'.toArray a}:=by
  rw[hW1 f ho (by rw[hf]<;>rfl),hf]
 refine I.write (x:=p) (e:=p) (by rw[h];trivial) (.inl O) (λb u c q=>(Heap.get?_update_other _ _ (Py c)).trans q) ⟨_,e⟩ ?_;exact⟨hz,its',a,r,e⟩
def Lj:V->V->V->Hp->(Hp->Prop)->Prop:=λo i v H Q=>∃p xs k j,o = .ref p/\i = .int k/\H p=Z (.lst xs)/\zE xs.length k=Z j/\Q (upd H p (.lst (xs.set j v)))
theorem Bl:wU X Lj:=by
 intro ag s σ H o i v D B u Q I z A w h;obtain⟨p,xs,k,j,rfl,rfl,m,y,q⟩:=h;cases z;obtain⟨t,rfl⟩:=A;obtain⟨a,n,r,b,x⟩:=I.lst m;obtain⟨h1,h2,l,e⟩:=sV y;have d:=r.length;have C:=mK;have g:Inv X ag σ (upd H p (.lst (xs.set j v))) {s with heap:=s.heap.update p (QM (·.setIfInBounds j u))}:=
  I.lstUpd m b (wm a n j u) (r.set w j) (by rw[aV];exact x) s.toks
 by_cases f:0<=k
 ·have c:k.toNat=j:=by
   rw[seqIndex_of f e]at h1;exact Option.some.inj h1
  exact PySem.W.ki_setAt b f (by lia) (by rw[sT1,<- d];exact e) (by rw[c];exact⟨_,g,q⟩)
 ·have c:(k+(a.toArray.size:Int)).toNat=j:=by
   rw[seqIndex_neg (by lia) l]at h1;rw[sT1,<- d];exact Option.some.inj h1
  exact PySem.W.ki_setBack b (by lia) (by rw[sT1,<- d];exact l) (by lia) (by rw[c];exact⟨_,g,q⟩)
theorem si(lo hi:Option Int)(n:Nat):(QN lo hi Y n).1=((HT.sIx n 0 lo:Nat):Int)/\(QN lo hi Y n).2.1=((HT.sIx n n hi:Nat):Int)/\(QN lo hi Y n).2.2=1:=by
 refine⟨?_,?_,O⟩
 ·cases lo with
  |none=>simp[QN,HT.sIx]
  |some i=>
   simp only[QN,HT.sIx,Option.getD_none,show(1:Int)>0 by decide,QC];by_cases h:i<0
   ·simp only[h,QC]<;>lia
   ·simp only[h,QA]<;>lia
 ·cases hi with
  |none=>simp[QN,HT.sIx]
  |some i=>
   simp only[QN,HT.sIx,Option.getD_none,show(1:Int)>0 by decide,QC];by_cases h:i<0
   ·simp only[h,QC]<;>lia
   ·simp only[h,QA]<;>lia
theorem pV(its:List di)(lo hi:Option Int):slicePick its.toArray lo hi Y=((its.drop (HT.sIx its.length 0 lo)).take (HT.sIx its.length its.length hi-HT.sIx its.length 0 lo)).toArray:=by
 obtain⟨h1,h2,a⟩:=si lo hi its.toArray.size;unfold slicePick;rw[h1,h2,a];simp only[sliceRange_one,pick_run,sT1]<;>rfl
def Nt(K:Fg1):V->Option Int->Option Int->Hp->VK->Prop:=λx lo hi H Q=>∃a xs,x = .ref a/\mX K H a xs /\ ∀p,H p=Y->Q (.ref p) (upd H p (.lst (vf xs lo hi)))
theorem Ez:D8 X (Nt X.K):=by
 intro ag s σ H x v m l lo hi n Q I e f pl j h;obtain⟨a,xs,rfl,i,q⟩:=h;cases e;obtain⟨g,r,d,k⟩:=I.list i;have c:=r.length;refine⟨"list",_,slot_list_getitem.lookup,d.isList.typeIs,?_⟩;refine wpAny_getItem_list_slice d.isList f pl j .none (by simp) ?_ (by rw[sT1]<;>lia);rw[pV,<- c];refine⟨.ref s.heap.objs.size,_,I.laid (t':=s.toks) (o:=.lst (vf xs lo hi)) (λb p q=>hP1 _ q) (nR1 _) ?_,O,q _ (I.hok.fresh (nR1 _))⟩;exact⟨aD (nq xs lo hi) k,_,0,(r.drop (HT.sIx xs.length 0 lo)).take (HT.sIx xs.length xs.length hi-HT.sIx xs.length 0 lo),hS1 _ O⟩
def kZ:V->Bool
 | .non=>M
 | .bl _=>M
 | .int _=>M
 | .str _=>M
 |_=>J
noncomputable def vH:V->V->Bool
 | .non,.non=>M
 | .bl a,.bl b=>a == b
 | .bl a,.int b=>(if a then 1 else 0) == b
 | .int a,.bl b=>a == (if b then 1 else 0)
 | .int a,.int b=>a == b
 | .str a,.str b=>a == b
 |_,_=>J
theorem lp{A:dq}{s:dj}{y x:V}{u v:di}(f:d4 y u)(c:d4 x v)(g:kZ y=M)(e:kZ x=M):QO A s u v (vH y x):=by
 cases y with
 |non=>
  cases f;cases x with
  |non=>cases c;exact SeqAt.EqAt.same _
  |bl b=>cases c;exact SeqAt.EqAt.none_bool b
  |int b=>obtain⟨t,rfl⟩:=c;exact SeqAt.EqAt.none_int b t
  |str b=>obtain⟨t,rfl⟩:=c;exact SeqAt.EqAt.none_str b t
  |_=>exact absurd (show J=M from e) aL
 |bl a=>
  cases f;cases x with
  |non=>cases c;exact SeqAt.EqAt.bool_none a
  |bl b=>cases c;exact SeqAt.EqAt.bool_bool a b
  |int b=>obtain⟨t,rfl⟩:=c;exact SeqAt.EqAt.bool_int a b t
  |str b=>obtain⟨t,rfl⟩:=c;exact SeqAt.EqAt.bool_str a b t
  |_=>exact absurd (show J=M from e) aL
 |int a=>
  obtain⟨d,rfl⟩:=f;cases x with
  |non=>cases c;exact SeqAt.EqAt.int_none a d
  |bl b=>cases c;exact SeqAt.EqAt.int_bool a d b
  |int b=>obtain⟨t,rfl⟩:=c;exact SeqAt.EqAt.int_int a d b t
  |str b=>obtain⟨t,rfl⟩:=c;exact SeqAt.EqAt.int_str a d b t
  |_=>exact absurd (show J=M from e) aL
 |str a=>
  obtain⟨d,rfl⟩:=f;cases x with
  |non=>cases c;exact SeqAt.EqAt.str_none a d
  |bl b=>cases c;exact SeqAt.EqAt.str_bool a d b
  |int b=>obtain⟨t,rfl⟩:=c;exact SeqAt.EqAt.str_int a d b t
  |str b=>obtain⟨t,rfl⟩:=c;exact SeqAt.EqAt.str_str a d b t
  |_=>exact absurd (show J=M from e) aL
 |_=>exact absurd (show J=M from g) aL
theorem tJ:eQ X (.builtin "len") (λxs H Q=>∃p ys,xs=[.ref p]/\(mX X.K H p ys\/kC X.K H p ys)/\Q (.int ys.length) H):=by
 intro ag s σ H xs g Q I r h;obtain⟨p,ys,rfl,b,q⟩:=h;obtain⟨u,rfl,e⟩:=iR r;cases e;have i:=mK;rcases b with b|b
 ·obtain⟨d,c,pl,f⟩:=I.list b;have a:=c.length;exact Calls.call_len_list pl.isList (by simp only[sT1]<;>lia) ⟨.int ys.length,H,I.tok _,⟨s.toks+1,by rw[sT1,a]⟩,q⟩
 ·obtain⟨d,c,pl,f⟩:=I.tuple b;have a:=c.length;exact len_tuple pl (by simp only[sT1]<;>lia) ⟨.int ys.length,H,I.tok _,⟨s.toks+1,by rw[sT1,a]⟩,q⟩
theorem tI:eQ X (.builtin "len") (λxs H Q=>∃z,xs=[.str z]/\z.length<=dy/\Q (.int z.length) H):=by
 intro ag s σ H xs a Q I r h;obtain⟨z,rfl,c,q⟩:=h;obtain⟨u,rfl,t,rfl⟩:=iR r;have b:=mK;exact len_str (by lia) ⟨.int z.length,H,I.tok _,⟨_,O⟩,q⟩
theorem tH:eQ X (.type "list") (λxs H Q=>∃p ys,xs=[.ref p]/\(mX X.K H p ys\/kC X.K H p ys) /\ ∀l,H l=Y->Q (.ref l) (upd H l (.lst ys))):=by
 intro ag s σ H xs w Q I r h;obtain ⟨p,ys,rfl,k,q⟩:=h;obtain ⟨u,rfl,v⟩:=iR r;cases v;have g:∀ (a:List di),ee ys a->ys.length<=dy -> ∀ (h':dB) (d:Nat),(∀ b o',s.heap.get? b=some o'->h'.get? b=some o') ->
   h'.get? s.heap.objs.size=Z {cls:=.type "list",dict:=Y,data:=.seq a.toArray d,slots:= #[]}->EP X ag σ Q (.ref s.heap.objs.size) {s with heap:=h'}:=λa c i h' d f e=>
  ⟨.ref s.heap.objs.size,_,I.laid (t':=s.toks) f (nR1 _) (show eP X.prog X.w _ h' _ (.lst ys)from⟨i,a,d,c,e⟩),O,q _ (I.hok.fresh (nR1 _))⟩
 rcases k with k|k
 ·obtain⟨a,c,pl,i⟩:=I.list k;have j:=c.length;obtain⟨o,t,hc,n,m⟩:=pl.isList;exact call_list_seq p (.inl O) t hc m (λh' d f e=>g a c i h' d f e) (by simp only[sT1]<;>lia)
 ·obtain⟨a,c,pl,i⟩:=I.tuple k;have j:=c.length;obtain⟨o,t,hc,n,m⟩:=pl;exact call_list_seq p (.inr O) t hc m (λh' d f e=>g a c i h' d f e) (by simp only[sT1]<;>lia)
theorem qh:eQ X (.type "tuple") (λxs H Q=>∃p ys,xs=[.ref p]/\((mX X.K H p ys /\ ∀l,H l=Y->Q (.ref l) (upd H l (.tup ys)))\/(kC X.K H p ys/\Q (.ref p) H))):=by
 intro ag s σ H xs n Q I r h;obtain⟨p,ys,rfl,h⟩:=h;obtain⟨u,rfl,j⟩:=iR r;cases j;rcases h with⟨d,q⟩|⟨d,q⟩
 ·obtain ⟨a,c,pl,g⟩:=I.list d;have i:=c.length;refine call_tuple_list pl.isList (fun h' m=>?_) (by simp only [sT1]<;>lia);have f:Inv X ag σ H {s with heap:=h'}:=I.kept (t':=s.toks) m;have k:Inv X ag σ (upd H h'.objs.size (.tup ys)) {s with heap:=h'.push {cls:=.type "tuple",data:=.seq a.toArray}}:=
   f.laid (t':=s.toks) (λb o e=>hP1 _ e) (nR1 _) (show eP X.prog X.w _ _ _ (.tup ys)from⟨g,a,c,ms.new _ _⟩)
  exact⟨.ref h'.objs.size,_,k,O,q _ (f.hok.fresh (nR1 _))⟩
 ·obtain⟨a,c,pl,g⟩:=I.tuple d;exact call_tuple_same pl ⟨.ref p,H,I,O,q⟩
def Oc(K:Fg1)(T:String)(x:V)(H:Hp):Prop:=match x with
 | .str _=>T="str"
 | .int _=>T="int"
 | .ref p=>(T="list" /\ ∃ xs,mX K H p xs)\/(T="tuple" /\ ∃ o,K.lookup p=some o/\o.cls = .type "tuple"/\o.dict=none) \/
   (T="dict"/\((∃kvs,H p=Z (.dK kvs)) \/ ∃kvs,H p=Z (.dT kvs)))\/(T="set" /\ ∃S n,H p=Z (.set S n))
 |_=>False
theorem HD{ag:List (dk×Obj)}{σ:St}{H:Hp}{s:dj}{T:String}{x:V}{v:di}(I:Inv X ag σ H s)(r:d4 x v)(ty:Oc X.K T x H):
  s.TypeIs v T /\ ∀a,v = .ref a -> ∃g,s.heap.get? a=Z g/\g.dict=Y:=by
 cases x with
 |str z=>
  obtain⟨t,rfl⟩:=r;cases(show T="str" from ty);exact⟨typeIs_str s z t,λ_ e=>nomatch e⟩
 |int i=>
  obtain⟨t,rfl⟩:=r;cases(show T="int" from ty);exact⟨typeIs_int s i t,λ_ e=>nomatch e⟩
 |ref p=>
  cases r;rcases ty with⟨rfl,xs,j⟩|⟨rfl,o,b,hc,d⟩|⟨rfl,b⟩|⟨rfl,S,n,b⟩
  ·obtain⟨h,_,pl,_⟩:=I.list j;refine⟨pl.isList.typeIs,λa e=>?_⟩;cases e;obtain⟨o,n,e,c,d,_⟩:=pl;exact⟨o,e,d⟩
  ·refine⟨⟨o,I.kIn p o b,hc⟩,λa e=>?_⟩;cases e;exact⟨o,I.kIn _ o b,d⟩
  ·have z:∃ o,s.heap.get? p=some o/\o.ExactDict:=by
    rcases b with⟨kvs,b⟩|⟨kvs,b⟩
    ·obtain⟨_,_,_,_,o,_,_,e,ex,_⟩:=I.hok p _ b;exact⟨o,e,ex⟩
    ·obtain⟨_,_,_,_,o,_,_,e,ex,_⟩:=I.hok p _ b;exact⟨o,e,ex⟩
   obtain⟨o,e,ex⟩:=z;refine⟨⟨o,e,ex.1⟩,λa f=>?_⟩;cases f;exact⟨o,e,ex.2.1⟩
  ·obtain⟨o,_,_,_,e,ex,_⟩:=I.hok p _ b;refine⟨⟨o,e,ex.1⟩,λa f=>?_⟩;cases f;exact⟨o,e,ex.2.1⟩
 |_=>exact PK ty
def OD(K:Fg1)(T:String)(r:V->List V->Hp->VK->Prop)(to:TE)(t:TA):TE:=fun σ H Q=>to σ H λx H1=>Oc K T x H1/\t σ H1 λxs H2=>r x xs H2 Q
variable{o e:Expr}{es:List Expr}{to:TE}{t:TA}{name:Str}{apos cpos:Pos}{T id:String}{r:V->List V->Hp->VK->Prop}
theorem Lw (k:PlainAttrs T)(slot:Slot T name id)(hty:typeOf (.builtin id)=pure (.type "method_descriptor"))(hm:DY X id r)(ho:PE X o to)(ha:PA X (e::es) t)
  (hbase:autoParam (QP o name X.env (eval o X.env)=eval o X.env) cu0)
  (hfew:autoParam (((PC cpos (dw (e::es) X.env)).all (λx=> !x.1)&&(QQ cpos (QR [] X.env)).all (λx=>x.1.isSome)
   && decide ((e::es).length+([]:List Qp).length+(if([]:List Qp).isEmpty then 0 else 1)<30))=M) cu0)
  (hline:autoParam ((apos.endLine == cpos.line)=M) cu0) (hs:autoParam (dw (e::es) X.env=(J,eval e X.env)::dw es X.env) cu0) (hplain:autoParam ((PC cpos (dw es X.env)).any (·.1)=J) cu0):
  PE X (.Call (.Attribute o name apos) (e::es) [] cpos) (OD X.K T r to t):=by
 intro ag s σ H Q I h;refine wpAny_Call_method_late hbase hfew hline O (fh (ho ag s σ H _ I h) λv j ⟨x,H1,b,a,ty,i⟩=>?_);obtain⟨h1,h2⟩:=HD b a ty;refine⟨T,id,k,slot,hty,h1,h2,?_⟩;have c:=ha cpos ag j σ H1 _ b i;rw[hs]at c ⊢;refine QS (by show(J||(PC cpos (dw es X.env)).any (·.1))=J;rw[hplain]<;>rfl) (QT ?_);exact fh c λd l ⟨vs,H2,f,r2,g⟩=>hm ag l σ H2 x vs v d Q f a r2 g
end
def Ot(X:Cx)(id:String)(r:V->List V->Hp->VK->Prop):Prop:=
 ∀(ag:List (dk×Obj)) (s:dj) (σ:St) (H:Hp) (x:V) (xs:List V) (v:di) (us:List di) (Q:VK),Inv X ag σ H s->d4 x v->ee xs us->r x xs H Q ->
  dz (PB X.prog X.w) X.A (call (.builtin id) (v::us)) (EP X ag σ Q) X.xe s
theorem ee.one:∀{x:V} {a:List di},ee [x] a -> ∃u,a=[u]/\d4 x u:=by
 intro x a h;cases h with
 |cons r t=>cases t;exact⟨_,O,r⟩
theorem ee.eraseIdx:∀{xs:List V} {a:List di} (i:Nat),ee xs a->ee (xs.eraseIdx i) (a.eraseIdx i)
 |_,_,_,.nil=>.nil
 |_,_,0,.cons _ t=>t
 |_,_,i+1,.cons r t=>.cons r (ee.eraseIdx i t)
theorem ee.reverse{xs:List V}{a:List di}(h:ee xs a):ee xs.reverse a.reverse:=by
 induction h with
 |nil=>exact .nil
 |cons r t ih=>rw[aW,aW];exact ee.append ih (.cons r .nil)
theorem q0{α:Type}:∀(l:List α) (i:Nat),(l.eraseIdx i).length<=l.length
 |[],_=>nR1 _
 |_::_,0=>aX _
 |_::r,i+1=>Nat.succ_le_succ (q0 r i)
section
variable{ag:List (dk×Obj)}{σ:St}{H:Hp}{s:dj}{l b:dk}{xs ys zs:List V}
theorem Inv.lset {its its':List di}{n:Nat}{f:Array di->Array di}{t':Nat}(I:Inv X ag σ H s)(b:H l=some (.lst xs))
  (e:s.heap.get? l=Z {cls:=.type "list",data:=.seq its.toArray n}) (hf:f its.toArray=its'.toArray) (hv:ee ys its') (hz:ys.length<=dy):
  Inv X ag σ (upd H l (.lst ys)) {s with heap:=s.heap.update l (QM f),toks:=t'}:=by
 have q:=PySem.IsL.update e f;rw[hf]at q;refine I.write (x:=l) (e:=l) (by rw[b];exact trivial) (.inl O) (λd u a c=>(Heap.get?_update_other s.heap (QM f) (Py a)).trans c) ⟨_,q⟩ ?_;exact⟨hz,its',_,hv,q⟩
theorem Inv.lnew{its:List di}{t':Nat}(I:Inv X ag σ H s)(hv:ee ys its)(hz:ys.length<=dy):
  Inv X ag σ (upd H s.heap.objs.size (.lst ys)) {s with heap:=s.heap.push {cls:=.type "list",data:=.seq its.toArray},toks:=t'}:=
 I.laid (λ_ _ q=>hP1 _ q) (nR1 _) ⟨hz,its,0,hv,hS1 _ O⟩
theorem Inv.fresh(I:Inv X ag σ H s):H s.heap.objs.size=Y:=I.hok.fresh (nR1 _)
theorem Inv.lstM(I:Inv X ag σ H s)(a:H l=Z (.lst xs)):xs.length<=dy /\ ∃(its:List di) (n:Nat),ee xs its/\xs.length=its.length/\s.heap.get? l=Z {cls:=.type "list",data:=.seq its.toArray n}:=by
 obtain⟨z,its,n,r,e⟩:=I.hok l _ a;exact⟨z,its,n,r,r.length,e⟩
end
def EL:V->List V->Hp->VK->Prop:=λx vs H Q=>∃l xs y,x = .ref l/\vs=[y]/\H l=Z (.lst xs)/\xs.length<dy/\Q .non (upd H l (.lst (xs++[y])))
theorem qM:Ot X "list.append" EL:=by
 intro ag s σ H x vs v g Q I c d h;obtain⟨l,xs,y,rfl,rfl,b,i,q⟩:=h;cases c;obtain⟨u,rfl,f⟩:=d.one;obtain⟨z,a,n,r,j,e⟩:=I.lstM b;refine call_meets F.slot_list_append ⟨_,e,O⟩ F.entry_list_append (F.args_list_append_2 _ _) (PySem.list_append l a.toArray n u (by rw[sT1];lia)) ⟨e,?_⟩;refine⟨.non,_,I.lset (its':=a++[u]) b e (by simp) (r.append (.cons f .nil)) ?_,O,q⟩;rw[lA1,aY];lia
def Ib:V->List V->Hp->VK->Prop:=λx vs H Q=>∃l xs i k y,x = .ref l/\vs=[.int i]/\H l=Z (.lst xs) /\ -(2^63)<=i/\i<2^63/\seqIndex? i xs.length=Z k/\xs[k]?=Z y/\Q y (upd H l (.lst (xs.eraseIdx k)))
theorem Cb:Ot X "list.pop" Ib:=by
 intro ag s σ H x vs v A Q I d f h;obtain⟨l,xs,i,k,y,rfl,rfl,c,h1,h2,m,p,q⟩:=h;cases d;obtain⟨u,rfl,g⟩:=f.one;obtain⟨t,rfl⟩:=g;obtain⟨z,a,n,r,o,e⟩:=I.lstM c;obtain⟨w,j,b⟩:=r.get p;refine call_meets F.slot_list_pop ⟨_,e,O⟩ F.entry_list_pop (F.args_list_pop_2 _ _)
  (MeetsSeq.list_pop_at l a.toArray n i t k w (fitsIndex_both h1 h2) (by rw[sT1,<- o];exact m) (by rw[<- aT1];exact j) (by rw[sT1];lia)) ⟨e,?_⟩
 refine⟨y,_,I.lset (its':=a.eraseIdx k) c e ?_ (r.eraseIdx k) ?_,b,q⟩
 ·show a.toArray.eraseIdxIfInBounds k=(a.eraseIdx k).toArray;rw[List.eraseIdxIfInBounds_toArray]
 ·have:=q0 xs k;lia
def Nx:R2:=λx y H Q=>∃l b xs zs,x = .ref l/\y = .ref b/\H l=Z (.lst xs)/\H b=Z (.lst zs)/\xs.length+zs.length<=dy /\ ∀p,H p=Y->Q (.ref p) (upd H p (.lst (xs++zs)))
theorem IN:gE X (Qd .Add) Nx:=by
 intro ag s σ H x y v u Q I d m h;obtain⟨l,b,xs,zs,rfl,rfl,g,j,t,q⟩:=h;cases d;cases m;obtain⟨z,c,n,r,w,e⟩:=I.lstM g;obtain⟨p,a,o,r2,f,i⟩:=I.lstM j;refine PySem.P.add_list e i ?_ (by rw[sT1,sT1];lia);have k:c.toArray++a.toArray=(c++a).toArray:=by simp
 rw[k];exact⟨.ref _,_,I.lnew (t':=s.toks) (r.append r2) (by rw[lA1];lia),O,q _ I.fresh⟩
section
variable{prog:dn}{w:dr}{A:dq}{E:di->dj->Prop}{s:dj}
end
end L2
namespace Att
open PySem PySem.W PySem.Calls PyProof.Rows
theorem nJ{P:Params}{h:dB}:∀(ns:List Int) (vs:List di),WellAll P h vs (ns.map WData.int)->QU vs ns:=by
 intro ns
 induction ns with
 |nil=>
  intro vs w;rw[aZ]at w;cases w;exact .nil
 |cons n ns ih=>
  intro vs w;rw[mP1]at w;cases w with
  |cons a b=>
   cases a;exact .cons _ _ (ih _ b)
theorem zb{l:OpenLaw}{n:Nat}(hn:l.most=some n){P:Params}{h:dB}{args:List WData}{b:List di}(c:l.row.toRowW.claim.pre args=true)(j:WellAll P h b args):
  ∃a vs ns,b=[Pr a]/\args=[WData.list (ns.map WData.int)]/\h.get? a=Z {cls:=.type "list",data:=.seq vs.toArray}/\QU vs ns/\ns.length<=n:=by
 have k:WShape.hasAll [] args [.list .int]=M:=(pre_splitW c).1;have hc:l.pre.holds [] {args:=args}=M:=(pre_splitW c).2;obtain⟨d,r,rfl,h1,h2⟩:=hasAllW_cons k;obtain rfl:=hasAllW_nil h2;obtain⟨xs,rfl,s⟩:=hasW_list h1;obtain⟨ns,rfl⟩:=items_int s;have e:ns.length<=n:=by
  unfold OpenLaw.pre at hc;have g:(WTm.not (.lt (.lit (.int (n:Int))) (.len (.arg 0)))).holds [] {args:=[.list (ns.map .int)]}=M:=by
   have g:=(holds_andW hc).1;rw[hn]at g;exact g
  have i:=condW_of g (w_not (w_lt w_lit (w_len_list (w_arg O))));rw[lM1]at i;refine a0 λq=>?_;have o:(n:Int)<((ns.length:Nat):Int):=by omega
  first
   |(rw[ah o]at i;exact absurd i (by decide))
   |(simp at i;omega)
 cases j with
 |cons t m=>
  cases m;cases t with
  |list p f=>exact⟨_,_,ns,O,O,p,nJ ns _ f,e⟩
theorem zh(l:OpenLaw)(args:List WData):l.row.toRowW.claim.post args (.bool M) args=M:=
 postW_of (r:=l.row.toRowW) (X:=(M == M))
  (show WShape.has [] (.bool M) .bool=M by first|rfl|decide|simp[WShape.has,WShape.arms,WShape.armsAll])
  (show(WTm.eq .res (.lit (.bool M))).value [] {args:=args,res:=Z (.bool M),after:=args}=Z (.bool (M == M))from w_eq_bool (w_res O) w_lit) O
theorem attach_call {l:OpenLaw}{n:Nat}{q:dn}{e:List Str}{XP:(Str->Option di)->dB->Prop}{z:dr->dB->Prop}{d:DefRec}
  (hn:l.most=Z n) (u:d.params.defaults=[])
  (call:∀(w:dr) (c b:dj) (mg s:Str->Option di) (k:dk) (o:Obj) (t p g:di) (a:dk) (vs:List di) (ns:List Int),
   Ground q e [] XP w c mg s b.heap->z w b.heap ->
   b.heap.get? k=Z o->o.data = .func (docDef d.name d.params d.body d.scope t p g)->b.heap.CodeRec p d.name->mg d.name=Z (.ref k) ->
   b.heap.get? a=Z {cls:=.type "list",data:=.seq vs.toArray}->QU vs ns->ns.length<=n->b.gens = #[] ->
   dA (PB l.prog w) callerA (.call (.ref k) ⟨[.ref a],[]⟩) (λr s'=>r = .ok (.ret (.bool M))/\OldK b.heap s'.heap/\s'.os=b.os/\Pw s'.gens) b):
  WalkO q e XP z l.row.toRowW d [] (λf vs=>PySem.call f vs):=by
 intro w c b mg s G au k o t p g E kV N I x C y L B D as m A aq v K;obtain rfl:E = .none:=Dflts.none C u;obtain rfl:kV = .none:=Dflts.noKw C;obtain⟨a,vs,ns,rfl,rfl,i,h,j⟩:=zb hn m v;refine enter_call (Qn (call w c b mg s k o t p g a vs ns G au N (fd_plain I) x y i h j L) λr s' F=>?_);obtain⟨rfl,h2,ao,H⟩:=F;exact⟨.inl ⟨.bool M,.bool M,[],O,λ_=>rfl,.bool M,zh l _,λ_=>⟨List.Pairwise.nil,λ_ av=>(nomatch av)⟩⟩,h2,ao,H⟩
section
variable{prog:dn}{w:dr}{A:dq}{E:di->dj->Prop}{s:dj}{K:Frag}
end
end Att
namespace L2
open PySem PySem.Spec PyProof.Rows
theorem yP:∀{vs:List di} {ns:List Int},QU vs ns->ee (ns.map V.int) vs:=by
 intro vs ns h
 induction h with
 |nil=>exact .nil
 |cons n t h ih=>exact .cons ⟨t,O⟩ ih
def GV(H:Hp):Prop:=∀b,H b=Y \/ ∃o xs,H b=Z (.frz o (.lst xs))
theorem Cy {P:dn}{w:dr}{K:Fg1}{mg C:Str->Option di}{CX:Ap}{k:Nat}{ao a:dk}{fd:dD}{x:Str}{sp:Sp}{s₁:dj}{vs:List di}{ns:List Int}
  (av:K.In s₁.heap) (t:s₁.heap.Ns dv mg) (hb:s₁.heap.Ns builtinsNs C) (I:∀x:Str,x≠"__name__"->C x=Pv x) (j:s₁.heap.NoLimit) (hg:s₁.gens = #[])
  (ha:s₁.heap.get? a=Z {cls:=.type "list",data:=.seq vs.toArray}) (hi:QU vs ns) (S:ns.length<=dy) (hr:fQ k callerA)
  (F:∀base:dB,K.In base->base.Ns dv mg->j6 P w K mg base CX k ao fd [x] sp) (g:∀(s:dj) (u:di),BindsTo s fd ⟨[u],[]⟩ [(x,u)])
  (L:∀H:Hp,GV H->mX K H a (ns.map V.int)->sp [.ref a] H (λv _=>v = .bl M) λ_ _ _=>False)
  (E:∀H e s',CX [] H s₁ (λ_ _ _=>False) e s'->False):
  dA (PB P w) callerA (.call (.ref ao) ⟨[.ref a],[]⟩) (λr s'=>r = .ok (.ret (.bool M))/\OldK s₁.heap s'.heap/\s'.os=s₁.os/\Pw s'.gens) s₁:=by
 have N:=yP hi;have p:=hi.length
 -- from an abstract heap in which nothing but the script may be tracked
 have f:∀ H:Hp,GV H->mX K H a (ns.map V.int)->lu P w H s₁.heap->(∀ b,H b≠none->b=a)->(H a≠none->K.lookup a=none) ->
   dA (PB P w) callerA (.call (.ref ao) ⟨[.ref a],[]⟩) (λr s'=>r = .ok (.ret (.bool M))/\OldK s₁.heap s'.heap/\s'.os=s₁.os/\Pw s'.gens) s₁:=by
  intro H R hS B Q T;have base_of:∀{b:dk} {o:Obj},s₁.heap.get? b=Z o->H b=Y->(s3 s₁.heap H).get? b=Z o:=λe n=>CN e n;have G:∀{b:dk} {o:Obj} {es:Array DictEntry} {ep:Nat},s₁.heap.get? b=Z o->o.data = .dict es ep->H b=Y:=λ{b o es ep} e d=>by
   cases q:H b with
   |none=>rfl
   |some u=>
    have D:b=a:=Q b (by rw[q];simp);subst D;rw[ha]at e;cases e;have d':Data.seq vs.toArray _=Data.dict es ep:=d;cases d'
  have c:∀{b:dk} {m:Str->Option di},s₁.heap.Ns b m->(s3 s₁.heap H).Ns b m:=λ{b m} ⟨o,es,ep,e,d,r⟩=>⟨o,es,ep,base_of e (G e d),d,r⟩;have i:K.In (s3 s₁.heap H):=λb o e=>base_of (av b o e) (by
   cases q:H b with
   |none=>rfl
   |some u=>
    have D:b=a:=Q b (by rw[q];simp);subst D;rw[T (by rw[q];simp)]at e;cases e)
  have hM:Mod K mg (s3 s₁.heap H):=⟨i,c t,⟨C,c hb,I⟩,let ⟨mc,h1,h2⟩:=j;⟨mc,c h1,h2⟩⟩;have W:GX P w K mg (s3 s₁.heap H) callerA [] s₁ H:=⟨O,hM,λb o e=>Fi e,Nat.le_of_eq (zM _ _),trivial,λb hb=>absurd (show b∈([]:List dk)from hb) (by simp),B,.of_eq hg⟩;refine Qn ((F _ i (c t)).run callerA [] s₁ H ⟨[.ref a],[]⟩ [.ref a] [.ref a] _ _ hr W (g s₁ (.ref a)) (.cons O .nil) (L H R hS)) λr s' h=>?_;cases r with
  |error e=>exact(E H e s' h).elim
  |ok X=>
   cases X with
   |next=>exact PK h
   |brk=>exact PK h
   |cont=>exact PK h
   |ret u=>
    obtain⟨v,H',os,y,un,A,wq,q⟩:=h;have U:v = .bl M:=q;subst U;obtain rfl:u=Pq true:=wq;refine⟨O,OldK.of_keep λb o e=>?_,os,y⟩;cases q:H b with
    |none=>exact un.keep b o e q (by intro z;exact absurd (show b∈([]:List dk)from z) (by simp)) (by simp)
    |some u=>
     rcases R b with z|⟨au,xs,z⟩
     ·rw[q]at z;cases z
     ·have z2:=un.frzs b au _ z;obtain⟨aq,_⟩:=B b _ z;obtain⟨e2,_⟩:=A b _ z2;rw[e]at aq;cases aq;exact e2
 cases hk:K.lookup a with
 |some o=>
  -- the script is one of the module's own objects
  have e:=av a o hk;rw[ha]at e;cases e;refine f (λ_=>Y) (λ_=>.inl O) (.inr ⟨_,vs.toArray,_,hk,O,O,O,by rw[sT1,p];exact S,by simpa using N⟩) (λb u z=>by have l:(Y:Option HO)=Z u:=z;cases l) (λb z=>absurd O z) λz=>absurd O z
 |none=>
  refine f (λb=>if b=a then Z (.frz {cls:=.type "list",data:=.seq vs.toArray} (.lst (ns.map V.int)))else Y) (λb=>?_) (.inl (.inr ⟨{cls:=.type "list",data:=.seq vs.toArray},ak O⟩)) (λb u z=>?_) (λb z=>?_) λ_=>hk
  ·by_cases hb:b=a
   ·exact .inr ⟨_,_,ak hb⟩
   ·exact .inl (aj hb)
  ·by_cases hb:b=a
   ·have l:=(ak hb).symm.trans z;cases l;subst hb;exact⟨ha,by rw[lM1];exact S,vs,_,N,ha⟩
   ·have l:=(aj hb).symm.trans z;cases l
  ·by_cases hb:b=a
   ·exact hb
   ·exact absurd (aj hb) z
theorem Eo{l:PySem.W.OpenLaw}{n k:Nat}{q:dn}{g:List Str}{XP:(Str->Option di)->dB->Prop}{A:dr->dB->Prop}{d:DefRec}{K:Params->Fg1}{CX:dr->Ap}{sp:dr->Sp}{x:Str}(hn:l.most=some n)(t:n<=dy)(r:d.params.defaults=[])(hr:fQ k callerA)(D:∀(w:dr) (h:dB),A w h->(K w.params).In h)(F:∀(w:dr) (mg:Str->Option di) (m:dk) (h:dB),(K w.params).In h->h.Ns dv mg->mg d.name=some (.ref m) ->
   ∃fd:dD,(∀(s:dj) (u:di),BindsTo s fd ⟨[u],[]⟩ [(x,u)]) /\
    ∀base:dB,(K w.params).In base->base.Ns dv mg->j6 l.prog w (K w.params) mg base (CX w) k m fd [x] (sp w))(z:∀(w:dr) (H:Hp) (a:dk) (ns:List Int),ns.length<=n->GV H->mX (K w.params) H a (ns.map V.int)->sp w [.ref a] H (λv _=>v = .bl M) λ_ _ _=>False)(p:∀(w:dr) (H:Hp) (s:dj) (e:di) (s':dj),CX w [] H s (λ_ _ _=>False) e s'->False):
  PySem.W.WalkO q g XP A l.row.toRowW d [] (λf vs=>PySem.call f vs):=by
 refine Att.attach_call hn r λw B j mg P m o Q R E a vs ns G au T S ao y i c b aq=>?_;have C:=D w _ au;obtain⟨fd,I,av⟩:=F w mg m _ C G.T.g y;exact Cy C G.T.g G.T.b G.T.builtins G.T.nolimit aq i c (aD b t) hr av I (λH N L=>z w H a ns b N L) λH e s'=>p w H j e s'
noncomputable def iJ(s:dE):Arguments:=match s with
 | .FunctionDef _ a _ _ _ _ _ _ _ _=>a
 |_=>{posonlyargs:=[],args:=[],vararg:=Y,kwonlyargs:=[],kw_defaults:=[],kwarg:=Y,defaults:=[]}
def fA(s:dE):List dE:=match s with
 | .FunctionDef _ _ b _ _ _ _ _ _ _=>b
 |_=>[]
def d5(s:dE):dF:=match s with
 | .FunctionDef _ _ _ _ _ _ sc _ _ _=>sc
 |_=>{kind:=.function,names:=[],isGenerator:=J,isCoroutine:=J}
abbrev vF:Ap:=λ_ _ _ _ _ _=>False
abbrev E0:XK:=λ_ _ _=>False
theorem G9{X:Cx}:tQ vF X E0:=λ_ _ _ _ _ _ _ h=>h.elim
structure As (K:Fg1)(x qual:Str)(st:dE)(f:dk)(fd:dD):Prop where
 ex:∃(oc:di) (od:Option dk) (kV doc pm:di) (an:Option dk) (cdv ct:di) (osl:Array (Option di)),
  fd=wF1 x qual (iJ st) (fA st) (d5 st) .none kV doc pm an cdv ct/\K.lookup f=some ⟨oc,od,.func fd,osl⟩/\wC1 K cdv qual=true
 kp:wK1 K (.ref f)=true
section
variable{P:dn}{w:dr}{K:Fg1}{mg:Str->Option di}{base:dB}
theorem As.ok{x b:Str}{st:dE}{f:dk}{fd:dD}{N ps:List Str}{k:Nat}{sp:Sp}(F:As K x b st f fd)(S:gR N ps (d5 st))(len:∀ vs H Q E,sp vs H Q E->vs.length=ps.length)(d:∀(c:di) (A:dq) (a:List Env) (s:dj) (H:Hp) (vs:List V) (Q:VK) (E:XK),fQ k (A.deeper (Qr b (d5 st) s.heap.objs.size f c))->sp vs H Q E ->
   ∃t,vI (nM vF P w K mg base N b (d5 st) f c A a s H E).nox (fA st) t/\t {nx:=λ_ H'=>Q .non H',rt:=Q} (jB N vs) H):j6 P w K mg base vF (k+1) f fd ps sp:=by
 obtain⟨o,p,kV,l,n,m,c,ct,i,rfl,lk,g⟩:=F.ex;refine L5 lk g S len λA a s H vs Q E j e=>?_;obtain⟨t,h,q⟩:=d c A a s H vs Q E j e;exact⟨t,h.nox,q⟩
theorem As.binds{x a:Str}{st:dE}{f:dk}{fd:dD}{ps:List Str}(F:As K x a st f fd)(h:∀(kV b g:di) (e:Option dk) (c ct:di) (d:List di),d.length=ps.length->bindArgs (wF1 x a (iJ st) (fA st) (d5 st) .none kV b g e c ct) ⟨d,[]⟩=pure (ps.zip d)):k9 K fd ps []:=by
 obtain⟨k,l,kV,b,g,e,c,ct,i,rfl,lk,j⟩:=F.ex;exact .all (h kV b g e c ct)
theorem CY{x a:Str}{st:dE}{f:dk}{i:di}{j g:Option dk}{e:Array (Option di)}{kV d h b ct:di}(l:K.lookup f=Z ⟨i,j,.func (wF1 x a (iJ st) (fA st) (d5 st) .none kV d h g b ct),e⟩)(c:wC1 K b a=M)(k:wK1 K (.ref f)=M):As K x a st f (wF1 x a (iJ st) (fA st) (d5 st) .none kV d h g b ct):=⟨⟨i,j,kV,d,h,g,b,ct,e,O,l,c⟩,k⟩
end
variable{X:Cx}
def Ak(H H':Hp):Prop:=∀b o,H b=Z o->H' b=Z o
theorem Ak.trans{H H1 H2:Hp}(a:Ak H H1)(b:Ak H1 H2):Ak H H2:=λc o h=>b c o (a c o h)
theorem Ak.free{H H':Hp}(e:Ak H H'){l:dk}(h:H' l=Option.none):H l=Option.none:=by
 cases q:H l with
 |none=>rfl
 |some o=>
  rw[e l o q]at h;cases h
section
variable{κ:Type} [DecidableEq κ]
def hA(kvs:List (κ×V))(k:κ):Option V:=(kvs.find? λkv=>decide (kv.1=k)).map (·.2)
noncomputable def hW(kvs:List (κ×V))(k:κ)(v:V):List (κ×V):=
 if(kvs.any λkv=>decide (kv.1=k))=M then kvs.map (λkv=>if kv.1=k then(kv.1,v)else kv)else kvs++[(k,v)]
theorem oj{p:κ×V}{r:List (κ×V)}{k:κ}(e:p.1=k):hA (p::r) k=Z p.2:=by simp[hA,bc,e]
theorem ol{p:κ×V}{r:List (κ×V)}{k:κ}(e:¬ p.1=k):hA (p::r) k=hA r k:=by simp[hA,bc,e]
theorem tW(k:κ):∀kvs:List (κ×V),(kvs.any λa=>decide (a.1=k))=(hA kvs k).isSome
 |[]=>rfl
 |p::r=>by
  rw[bd];by_cases e:p.1=k
  ·simp only[oj e,ah e,Bool.true_or,Option.isSome_some]
  ·rw[ol e,ai e,Bool.false_or];exact tW k r
theorem iG(kvs:List (κ×V))(k:κ)(v:V):(hW kvs k v).length<=kvs.length+1:=by
 unfold hW;split
 ·rw[lM1];lia
 ·rw[lA1,lC1,bf];lia
theorem mY.isSome_eq{o:Option V}{u:Option di}(r:mY o u):o.isSome=u.isSome:=by
 cases o with
 |none=>cases u with
  |none=>rfl
  |some _=>exact(show False from r).elim
 |some _=>cases u with
  |none=>exact(show False from r).elim
  |some _=>rfl
theorem KV.val{kvs:List (κ×V)}{vs:List (κ×di)}(r:KV kvs vs)(k:κ):mY (hA kvs k) (QV vs k):=by
 unfold KV at r
 induction r with
 |nil=>exact Qk
 | @cons p q ps c h t ih=>
  obtain⟨h1,h2⟩:=h;by_cases e:p.1=k
  ·have a:q.1=k:=h1.symm.trans e;have b:QV (q::c) k=Z q.2:=by simp[QV,bc,a]
   rw[oj e,b];exact h2
  ·have a:¬ q.1=k:=λz=>e (h1.trans z);have b:QV (q::c) k=QV c k:=by simp[QV,bc,a]
   rw[ol e,b];exact ih
theorem KV.any{kvs:List (κ×V)}{vs:List (κ×di)}(r:KV kvs vs)(k:κ):(kvs.any λa=>decide (a.1=k))=vs.any λa=>decide (a.1=k):=by
 unfold KV at r
 induction r with
 |nil=>rfl
 |cons h t ih=>rw[bd,bd,ih,h.1]
theorem KV.repl{kvs:List (κ×V)}{vs:List (κ×di)}(r:KV kvs vs)(k:κ){y:V}{u:di}(b:d4 y u):
  KV (kvs.map λa=>if a.1=k then(a.1,y)else a) (vs.map λa=>if a.1=k then(a.1,u)else a):=by
 unfold KV at r ⊢
 induction r with
 |nil=>exact .nil
 | @cons p q ps c h t ih=>
  rw[mP1,mP1];refine .cons ?_ ih;obtain⟨h1,h2⟩:=h;by_cases e:p.1=k
  ·rw[ak e,ak (h1.symm.trans e)];exact⟨h1,b⟩
  ·rw[aj e,aj (λz=>e (h1.trans z))];exact⟨h1,h2⟩
theorem KV.put{kvs:List (κ×V)}{vs:List (κ×di)}(r:KV kvs vs)(k:κ){y:V}{u:di}(a:d4 y u):KV (hW kvs k y) (stored vs k u):=by
 unfold hW stored;rw[r.any k];by_cases e:(vs.any λb=>decide (b.1=k))=M
 ·rw[ak e,ak e];exact r.repl k a
 ·rw[aj e,aj e];exact Paired.snoc r ⟨O,a⟩
theorem KV.length{kvs:List (κ×V)}{vs:List (κ×di)}(r:KV kvs vs):kvs.length=vs.length:=Paired.length r
end
theorem pc{P:dn}{w:dr}{k:Key}{u:di}(r:d4 (kV k) u):(e9 P w).is k u=M:=by
 cases k with
 |inl i=>obtain⟨t,e⟩:=(show∃t,u=ab i t from r);subst e;exact uD P w i t
 |inr x=>obtain⟨t,e⟩:=(show∃t,u=ae x t from r);subst e;exact uC P w x t
theorem q9{P:dn}{w:dr}:∀{ks:List Key} {a:List di},ee (ks.map kV) a->ItemsAre (e9 P w) ks a
 |[],_,r=>by rw[aZ]at r;cases r;exact .nil
 |k::ks,_,r=>by
  rw[mP1]at r;cases r with
  |cons h t=>exact .cons (pc h) (q9 t)
abbrev KT(H:Hp):List (List Key×V)->List (List Key×dk×di)->Prop:=Paired λp q=>p.1=q.1/\H q.2.1=Z (.tup (p.1.map kV))/\d4 p.2 q.2.2
theorem KT.val{H:Hp}{kvs:List (List Key×V)}{xs:List (List Key×dk×di)}(r:KT H kvs xs)(k:List Key):mY (hA kvs k) ((QW xs k).map (·.2)):=by
 induction r with
 |nil=>exact Qk
 | @cons p q ps c h t ih=>
  obtain⟨h1,_,h2⟩:=h;by_cases e:p.1=k
  ·have a:q.1=k:=h1.symm.trans e;have b:QW (q::c) k=Z q.2:=by simp[QW,bc,a]
   rw[oj e,b];exact h2
  ·have a:¬ q.1=k:=λz=>e (h1.trans z);have b:QW (q::c) k=QW c k:=by simp[QW,bc,a]
   rw[ol e,b];exact ih
theorem KT.repl{H:Hp}{kvs:List (List Key×V)}{xs:List (List Key×dk×di)}(r:KT H kvs xs)(k:List Key){y:V}{u:di}(c:d4 y u):
  KT H (kvs.map λa=>if a.1=k then(a.1,y)else a) (xs.map (putAt k u)):=by
 induction r with
 |nil=>exact .nil
 | @cons p q ps d h t ih=>
  rw[mP1,mP1];refine .cons ?_ ih;obtain⟨h1,h2,b⟩:=h;unfold putAt;by_cases e:p.1=k
  ·rw[ak e,ak (h1.symm.trans e)];exact⟨h1,h2,c⟩
  ·rw[aj e,aj (λz=>e (h1.trans z))];exact⟨h1,h2,b⟩
theorem KT.put{H:Hp}{kvs:List (List Key×V)}{xs:List (List Key×dk×di)}(r:KT H kvs xs)(k:List Key){b:dk}{y:V}{u:di}(hb:H b=some (.tup (k.map kV)))(a:d4 y u):
  KT H (hW kvs k y) (storedH xs k b u):=by
 have e:(kvs.any λc=>decide (c.1=k))=(QW xs k).isSome:=by
  rw[tW,(r.val k).isSome_eq,bg]
 unfold hW storedH;rw[e];by_cases q:(QW xs k).isSome=M
 ·rw[ak q,ak q];exact r.repl k a
 ·rw[aj q,aj q];exact Paired.snoc r ⟨O,hb,a⟩
theorem KT.keeps{H H':Hp}{kvs:List (List Key×V)}{xs:List (List Key×dk×di)}(r:KT H kvs xs)(ht:∀b ys,H b=Z (.tup ys)->H' b=Z (.tup ys)):KT H' kvs xs:=
 Paired.mapP r λ_ _ z=>⟨z.1,ht _ _ z.2.1,z.2.2⟩
section
variable{P:dn}{w:dr}{H:Hp}{h:dB}{a:dk}
theorem G7{u:HO}(ok:lu P w H h)(e:Rd H a u):eP P w H h a u:=e.ok ok
theorem pz{kvs:List (Key×V)}(ok:lu P w H h)(e:Rd H a (.dK kvs)):kvs.length<=dy/\(a == Pt)=J /\ ∃vs,KV kvs vs/\h.DictOf (e9 P w) a vs:=
 show eP P w H h a (.dK kvs)from G7 ok e
theorem va{kvs:List (Key×V)}(ok:lu P w H h)(e:H a=Z (.dK kvs)):kvs.length<=dy/\(a == Pt)=J /\ ∃vs,KV kvs vs/\h.DictOf (e9 P w) a vs:=pz ok (.inl e)
theorem pa{ks:List Key}(ok:lu P w H h)(e:H a=Z (.tup (ks.map kV))):(tupleKind (e9 P w)).is h ks a:=by
 obtain⟨_,b,r,o,h1,h2,n,c,_⟩:=(show eP P w H h a (.tup (ks.map kV))from ok a _ e);exact⟨o,b.toArray,n,h1,h2,c,by simpa using q9 r⟩
theorem rv{kvs:List (List Key×V)}(ok:lu P w H h)(e:Rd H a (.dT kvs)):kvs.length<=dy/\(a == Pt)=false /\
  ∃xs,KT H kvs xs/\h.DictOfH (tupleKind (e9 P w)) a xs:=by
 obtain⟨z,y,xs,r,o,es,ep,h1,h2,f,d,g⟩:=(show eP P w H h a (.dT kvs)from G7 ok e);refine⟨z,y,xs,r,o,es,ep,h1,h2,f,d,λx b=>?_,g⟩;have all:∀{l:List (List Key×V)} {m:List (List Key×dk×di)},KT H l m -> ∀x∈m,(tupleKind (e9 P w)).is h x.1 x.2.1:=by
  intro l m q
  induction q with
  |nil=>intro x b;exact nomatch b
  | @cons p q ps i c t ih=>
   intro x b;rcases aF.mp b with e|b
   ·subst e;exact pa ok (by rw[<- c.1];exact c.2.1)
   ·exact ih x b
 exact all r x b
theorem Mb{kvs:List (List Key×V)}(ok:lu P w H h)(e:H a=some (.dT kvs)):kvs.length<=dy/\(a == Pt)=false /\
  ∃xs,KT H kvs xs/\h.DictOfH (tupleKind (e9 P w)) a xs:=rv ok (.inl e)
end
def qk(H:Hp)(a:dk)(y:V)(r:Option V):Prop:=
 (∃kvs k,Rd H a (.dK kvs)/\y=kV k/\r=hA kvs k) \/ ∃kvs k b,Rd H a (.dT kvs)/\y = .ref b/\H b=Z (.tup (k.map kV))/\r=hA kvs k
def Ao(H:Hp)(a:dk)(y v:V)(H':Hp):Prop:=
 (∃kvs k,H a=Z (.dK kvs)/\y=kV k/\kvs.length<dy/\H'=upd H a (.dK (hW kvs k v))) \/
 ∃kvs k b,H a=Z (.dT kvs)/\y = .ref b/\H b=Z (.tup (k.map kV))/\kvs.length<dy/\H'=upd H a (.dT (hW kvs k v))
theorem qk.k{H:Hp}{a:dk}{kvs:List (Key×V)}{k:Key}(e:H a=Z (.dK kvs)):qk H a (kV k) (hA kvs k):=.inl ⟨kvs,k,.inl e,O,O⟩
theorem qk.t{H:Hp}{a b:dk}{kvs:List (List Key×V)}{k:List Key}(e:H a=Z (.dT kvs))(eb:H b=Z (.tup (k.map kV))):qk H a (.ref b) (hA kvs k):=.inr ⟨kvs,k,b,.inl e,O,eb,O⟩
theorem Ao.k{H:Hp}{a:dk}{kvs:List (Key×V)}{k:Key}{v:V}(e:H a=Z (.dK kvs))(b:kvs.length<dy):Ao H a (kV k) v (upd H a (.dK (hW kvs k v))):=.inl ⟨kvs,k,e,O,b,O⟩
theorem Ao.t{H:Hp}{a b:dk}{kvs:List (List Key×V)}{k:List Key}{v:V}(e:H a=some (.dT kvs))(eb:H b=some (.tup (k.map kV)))(c:kvs.length<dy):
  Ao H a (.ref b) v (upd H a (.dT (hW kvs k v))):=.inr ⟨kvs,k,b,e,O,eb,c,O⟩
section
variable{ag:List (dk×Obj)}{σ:St}{H:Hp}{s:dj}{a:dk}{y v:V}{u r:di}{o:Option V}{A:dq}{E:di->dj->Prop}
theorem Inv.big(I:Inv X ag σ H s):Pt<s.heap.objs.size:=by
 have h:dv<s.heap.objs.size:=(I.mod.glob.keeps I.bk).lt;exact bh (by decide) h
theorem zW{Q:di->dj->Prop}(t:A.units+1<Ql)(I:Inv X ag σ H s)(g:qk H a y (some v))(q:d4 y u)(h:∀ f s',Inv X ag σ H s'->d4 v f->Q f s'):
  dz (PB X.prog X.w) A (getItem (.ref a) u) Q E s:=by
 rcases g with⟨kvs,k,e,m,l⟩|⟨kvs,k,b,e,m,eb,l⟩
 ·subst m;obtain⟨z,r,vs,d,j⟩:=pz I.hok e;obtain⟨f,n,c⟩:=mY.some_of (v:=v) (o:=QV vs k) (by rw[l];exact d.val k);exact wpAny_getItem_of (pc q) j.mapOf n (h f _ (I.tok _) c)
 ·subst m;cases(show u=Pr b from q);obtain⟨z,r,xs,d,j⟩:=rv I.hok e;obtain⟨f,n,c⟩:=mY.some_of (v:=v) (o:=(QW xs k).map (·.2)) (by rw[l];exact d.val k);obtain⟨p,w,i⟩:=Sb n;refine wpAny_getItem_heap (QX t) (pa I.hok eb) j w ?_;rw[i];exact h f _ (I.tok _) c
theorem NQ{Q:di->dj->Prop}(m:A.units+1<Ql)(I:Inv X ag σ H s)(g:qk H a y o)(j:d4 y u)(h:∀ s',Inv X ag σ H s'->Q (.bool o.isSome) s'):
  dz (PB X.prog X.w) A (Qe .In u (.ref a)) Q E s:=by
 rcases g with⟨kvs,k,e,i,l⟩|⟨kvs,k,b,e,i,eb,l⟩
 ·subst i;obtain⟨z,d,vs,c,f⟩:=pz I.hok e;refine wpAny_in_of (pc j) d f.mapOf ?_;rw[<- (c.val k).isSome_eq,<- l];exact h _ (I.tok _)
 ·subst i;cases(show u=Pr b from j);obtain⟨z,d,xs,c,f⟩:=rv I.hok e;refine wpAny_in_heap (QX m) (pa I.hok eb) d f ?_;have q:=(c.val k).isSome_eq;rw[bg]at q;rw[<- q,<- l];exact h _ (I.tok _)
theorem Gy{Q:di->dj->Prop}(m:A.units+1<Ql)(I:Inv X ag σ H s)(g:qk H a y o)(j:d4 y u)(h:∀ s',Inv X ag σ H s'->Q (.bool (!o.isSome)) s'):
  dz (PB X.prog X.w) A (Qe .NotIn u (.ref a)) Q E s:=by
 rcases g with⟨kvs,k,e,i,l⟩|⟨kvs,k,b,e,i,eb,l⟩
 ·subst i;obtain⟨z,d,vs,c,f⟩:=pz I.hok e;refine wpAny_notIn_of (pc j) d f.mapOf ?_;rw[<- (c.val k).isSome_eq,<- l];exact h _ (I.tok _)
 ·subst i;cases(show u=Pr b from j);obtain⟨z,d,xs,c,f⟩:=rv I.hok e;refine wpAny_notIn_heap (QX m) (pa I.hok eb) d f ?_;have q:=(c.val k).isSome_eq;rw[bg]at q;rw[<- q,<- l];exact h _ (I.tok _)
theorem kA{h':dB}{t':Nat}{c:HO}(I:Inv X ag σ H s)(mu:KG (H a))(hs:Pz a s.heap h')(he:∃ q,h'.get? a=some q)(new:eP X.prog X.w (upd H a c) h' a c):
  Inv X ag σ (upd H a c) {s with heap:=h',toks:=t'}:=
 I.write (x:=a) (e:=a) mu (.inl O) (λb q d z=>(hs.2 b d).trans z) he new
theorem wH{P:dn}{w:dr}{H':Hp}{h':dB}{kvs:List (Key×V)}{vs:List (Key×di)}(z:kvs.length<=dy)(hd:(a == Pt)=false)(b:KV kvs vs)(dd:h'.DictOf (e9 P w) a vs):
  eP P w H' h' a (.dK kvs):=⟨z,hd,vs,b,dd⟩
theorem zV{H':Hp}{Q:Unit->dj->Prop}(K:A.units+1<Ql)(I:Inv X ag σ H s)(g:Ao H a y v H')(C:d4 y u)(B:d4 v r)(h:∀ s',Inv X ag σ H' s'->Q () s'):
  dz (PB X.prog X.w) A (setItem (.ref a) u r) Q E s:=by
 rcases g with⟨kvs,k,e,p,l,n⟩|⟨kvs,k,b,e,p,eb,l,n⟩
 ·subst p n;obtain⟨z,m,vs,d,o⟩:=va I.hok e;have t:vs.length<=dy:=by rw[<- d.length];exact z
  have w:(hW kvs k v).length<=dy:=by have:=iG kvs k v;lia
  refine wpAny_setItem_pairs (hsz:=t) (pc C) o λh' f j=>h _ ?_;have F:∃q,h'.get? a=Z q:=let ⟨q,_,_,i,_⟩:=f;⟨q,i⟩
  exact kA I (by rw[e];exact Qk) j F (wH w m (d.put k B) f)
 ·subst p n;cases(show u=Pr b from C);obtain⟨z,m,xs,d,o⟩:=Mb I.hok e;have t:xs.length<=dy:=by rw[<- Paired.length d];exact z
  have w:(hW kvs k v).length<=dy:=by have:=iG kvs k v;lia
  refine wpAny_setItem_heap (hsz:=t) (QX K) (pa I.hok eb) o λh' f j=>h _ ?_;obtain⟨q,es,ep,i,h2,G,D,_,ao⟩:=f;refine kA I (by rw[e];exact Qk) j ⟨q,i⟩ ⟨w,m,_,(d.put k eb B).keeps λc ys x=>?_,q,es,ep,i,h2,G,D,ao⟩;rw[d6 (LG x e (λz=>nomatch z))];exact x
end
section
variable{ag:List (dk×Obj)}{σ:St}{H:Hp}{s:dj}{a:dk}{kvs:List (Key×V)}{k:Key}{u:di}{A:dq}{E:di->dj->Prop}
theorem Me{Q:di->dj->Prop}(I:Inv X ag σ H s)(e:Rd H a (.dK kvs))(h:∀t s',Inv X ag σ H s'->Q (.int kvs.length t) s'):dz (PB X.prog X.w) A (call (.builtin "len") [.ref a]) Q E s:=by
 obtain⟨z,d,vs,b,c⟩:=pz I.hok e;refine call_len_dict d c (by rw[<- b.length];rw[Qh]at z;lia) ?_;rw[<- b.length];exact h _ _ (I.tok _)
end
theorem vc{X:Cx}{ag:List (dk×Obj)}{σ:St}{H:Hp}{s:dj}{a:dk}{y:V}{o:Option V}(I:Inv X ag σ H s)(g:qk H a y o):s.TypeIs (.ref a) "dict":=by
 rcases g with⟨kvs,k,e,_,_⟩|⟨kvs,k,b,e,_,_,_⟩
 ·obtain⟨_,_,vs,_,c⟩:=pz I.hok e;exact c.typeIs
 ·obtain⟨_,_,xs,_,c⟩:=rv I.hok e;exact c.typeIs
section
variable{o i e value:Expr}{pos pos' tpos:Pos}{td ty tv:TE}
end
theorem vb{P:dn}{w:dr}{H:Hp}(h:dB)(hb:Pt<h.objs.size):eP P w H (h.push {cls:=.type "dict",data:=.dict #[]}) h.objs.size (.dK []):=
 ⟨bi _,R0.mpr (Py (nN1 hb)),[],.nil,Heap.DictOf.new h⟩
def HS:TE:=λ_ H Q=>∀p,H p=Y->Q (.ref p) (upd H p (.dK []))
section
variable{pos:Pos}
theorem BN:PE X (.Dict [] [] pos) HS:=λag s σ H Q I h=>
 wpAny_Dict_empty ⟨.ref s.heap.objs.size,_,I.laid (a:=s.heap.objs.size) (o:=.dK []) (t':=s.toks) (λ_ _ q=>hP1 _ q) (nR1 _) (vb s.heap I.big),O,h _ (I.hok.fresh (nR1 _))⟩
end
def r6:List (TE×TE)->St->Hp->(List (V×V)->Hp->Prop)->Prop
 |[],_,H,Q=>Q [] H
 |(tk,tv)::r,σ,H,Q=>tk σ H λx H1=>tv σ H1 λy H2=>r6 r σ H2 λps H3=>Q ((x,y)::ps) H3
abbrev VV:List (V×V)->List (di×di)->Prop:=Paired λp q=>d4 p.1 q.1/\d4 p.2 q.2
def My(X:Cx)(pos:Pos)(keys:List (Option Expr))(values:List Expr)(trs:List (TE×TE)):Prop:=
 ∀(ag:List (dk×Obj)) (s:dj) (σ:St) (H:Hp) (Q:List (V×V)->Hp->Prop),Inv X ag σ H s->r6 trs σ H Q ->
  dz (PB X.prog X.w) X.A (evalPairs (pairTrees keys values X.env pos)) (λvs s'=>∃ps H',Inv X ag σ H' s'/\VV ps vs/\Q ps H') X.xe s
theorem EU{X:Cx}{pos:Pos}:My X pos [] [] []:=λag s σ H Q I h=>pairTrees_nil_walk ⟨[],H,I,.nil,h⟩
theorem BB{X:Cx}{pos:Pos}{k v:Expr}{ks:List (Option Expr)}{vs:List Expr}{tk tv:TE}{a:List (TE×TE)}(hk:PE X k tk)(hv:PE X v tv)(hr:My X pos ks vs a):
  My X pos (Z k::ks) (v::vs) ((tk,tv)::a):=λag s σ H Q I h=>
 pairTrees_cons_walk (fh (hk ag s σ H _ I h) λu l ⟨x,H1,e,c,g⟩=>fh (hv ag l σ H1 _ e g) λp n ⟨y,H2,d,o,f⟩=>
  fh (hr ag n σ H2 _ d f) λws q ⟨ps,j,i,b,m⟩=>⟨(x,y)::ps,j,i,.cons ⟨c,o⟩ b,m⟩)
def jg(kvs more:List (Key×V)):List (Key×V):=more.foldl (λacc kv=>hW acc kv.1 kv.2) kvs
theorem KV.merge:∀{more:List (Key×V)} {rs:List (Key×di)} {kvs:List (Key×V)} {vs:List (Key×di)},KV more rs->KV kvs vs->KV (jg kvs more) (merged vs rs):=by
 intro more rs kvs vs r;unfold KV at r
 induction r generalizing kvs vs with
 |nil=>intro q;exact q
 | @cons p q ps b h t ih=>
  intro a;have e:KV (hW kvs p.1 p.2) (stored vs q.1 q.2):=by
   have:=a.put p.1 h.2;rw[<- h.1];exact this
  exact ih e
theorem kY:∀(more kvs:List (Key×V)),(jg kvs more).length<=kvs.length+more.length
 |[],kvs=>by show kvs.length<=kvs.length+0;lia
 |p::r,kvs=>by
  have h1:=kY r (hW kvs p.1 p.2);have h2:=iG kvs p.1 p.2;show(jg (hW kvs p.1 p.2) r).length<=_;rw[lC1];lia
theorem pE{P:dn}{w:dr}:∀{kvs:List (Key×V)} {ws:List (di×di)},VV (kvs.map λd=>(kV d.1,d.2)) ws -> ∃rs,Carries (e9 P w) ws rs/\KV kvs rs
 |[],_,r=>by rw[aZ]at r;cases r;exact⟨[],Qk,.nil⟩
 |p::kvs,_,r=>by
  rw[mP1]at r;cases r with
  | @cons a b as bs h t=>
   obtain⟨rs,c,q⟩:=pE (P:=P) (w:=w) t;obtain⟨b1,b2⟩:=b;exact⟨(p.1,b2)::rs,⟨pc h.1,O,c⟩,.cons ⟨O,h.2⟩ q⟩
def K9(trs:List (TE×TE)):TE:=fun σ H Q=>∀p,H p=Y->r6 trs σ (upd H p (.dK [])) λps H2=>H2 p=Z (.dK []) /\ ∃kvs:List (Key×V),ps=kvs.map (λkv=>(kV kv.1,kv.2))/\kvs.length<=15/\Q (.ref p) (upd H2 p (.dK (jg [] kvs)))
theorem E6{X:Cx}{pos:Pos}{b:List (Option Expr)}{values:List Expr}{f:List (TE×TE)}(h:My X pos b values f)(g:b.all (·.isSome)=M)(A:b.length=values.length)(y:b≠[])(j:b.length<=15):PE X (.Dict b values pos) (K9 f):=by
 intro ag s σ H Q I q;have u:=I.hok.fresh (nR1 s.heap.objs.size);have x:=I.laid (a:=s.heap.objs.size) (o:=.dK []) (h':=s.heap.push {cls:=.type "dict",data:=.dict #[]}) (t':=s.toks) (λ_ _ q=>hP1 _ q) (nR1 _) (vb s.heap I.big);refine wpAny_Dict_walk (knd:=e9 X.prog X.w) g A y j (fh (h ag _ σ _ _ x (q _ u)) λws C ⟨ps,H2,k,i,e,kvs,ep,lk,m⟩=>?_);subst ep;obtain⟨rs,c,rk⟩:=pE (P:=X.prog) (w:=X.w) i;obtain⟨z,t,r,p,B⟩:=va k.hok e;cases p;refine⟨rs,c,B,λh' d l=>⟨.ref s.heap.objs.size,_,?_,O,m⟩⟩;have v:(jg [] kvs).length<=dy:=by
  have h1:=kY kvs [];rw[bf]at h1;rw[Qh];lia
 have n:∃q,h'.get? s.heap.objs.size=Z q:=let ⟨q,_,_,hq,_⟩:=d;⟨q,hq⟩
 exact kA k (by rw[e];exact Qk) l n (wH v t (rk.merge .nil) d)
structure M2 (X:Cx)(o:Expr)(m:Str)(apos:Pos)(e f:Expr)(cpos:Pos):Prop where
 base:QP o m X.env (eval o X.env)=eval o X.env
 few:((PC cpos (dw [e,f] X.env)).all (λx=> !x.1)&&(QQ cpos (QR [] X.env)).all (λx=>x.1.isSome)
  && decide (([e,f]:List Expr).length+([]:List Qp).length+(if([]:List Qp).isEmpty then 0 else 1)<30))=true
 line:(apos.endLine == cpos.line)=true
 trees:PC cpos (dw [e,f] X.env)=[(false,eval e X.env),(false,eval f X.env)]
def N9(H:Hp)(a:dk):Prop:=(∃kvs,Rd H a (.dK kvs)) \/ ∃kvs,Rd H a (.dT kvs)
theorem JW{X:Cx}{ag:List (dk×Obj)}{σ:St}{H:Hp}{s:dj}{a:dk}(I:Inv X ag σ H s)(d:N9 H a):
  s.TypeIs (.ref a) "dict"/\(∀b,Pr a = .ref b -> ∃c,s.heap.get? b=Z c/\c.dict=Y)/\(a == Pt)=J:=by
 rcases d with⟨kvs,e⟩|⟨kvs,e⟩
 ·obtain⟨_,g,vs,_,f⟩:=pz I.hok e;refine⟨f.typeIs,λb q=>?_,g⟩;cases q;obtain⟨c,_,_,h1,h2,_⟩:=f;exact⟨c,h1,h2.2.1⟩
 ·obtain⟨_,g,xs,_,f⟩:=rv I.hok e;refine⟨f.typeIs,λb q=>?_,g⟩;cases q;obtain⟨c,_,_,h1,h2,_⟩:=f;exact⟨c,h1,h2.2.1⟩
section
variable{ag:List (dk×Obj)}{σ:St}{H:Hp}{s:dj}{a:dk}{y d:V}{u r:di}{o:Option V}{A:dq}{E:di->dj->Prop}
end
section
variable{o e f:Expr}{apos cpos:Pos}{td ty tx:TE}
end
section
variable{ag:List (dk×Obj)}{σ:St}{H:Hp}{s:dj}{a:dk}{kvs:List (Key×V)}{A:dq}{E:di->dj->Prop}
end
section
variable{ag:List (dk×Obj)}{σ:St}{H:Hp}{s:dj}{a:dk}{y:V}{u:di}{A:dq}{E:di->dj->Prop}
end
end L2
namespace Mi
open PySem PySem.Spec PyProof.Rows L2
inductive TK where
 |non|int (i:Int)|tup (xs:List TK)
instance:DecidableEq TK:=λ_ _=>Classical.propDecidable _
mutual
def TK.hash:TK->Int
 | .non=>0xFCA86420
 | .int i=>aa i
 | .tup xs=>reduceHash (QY (TK.hashes xs))
def TK.hashes:List TK->List Int
 |[]=>[]
 |x::xs=>TK.hash x::TK.hashes xs
end
mutual
def TK.draws:TK->Nat
 | .non=>1
 | .int _=>1
 | .tup xs=>TK.drawsAll xs+1
def TK.drawsAll:List TK->Nat
 |[]=>0
 |x::xs=>TK.draws x+TK.drawsAll xs
end
mutual
noncomputable def TK.dep:TK->Nat
 | .non=>0
 | .int _=>0
 | .tup xs=>TK.depAll xs+1
noncomputable def TK.depAll:List TK->Nat
 |[]=>0
 |x::xs=>max (TK.dep x) (TK.depAll xs)
end
theorem TK.dep_mem:∀{xs:List TK} {x:TK},x∈xs->x.dep<=TK.depAll xs
 |y::ys,x,h=>by
  rw[TK.depAll];rcases aF.mp h with e|e
  ·rw[e];exact Nat.le_max_left _ _
  ·exact aD (TK.dep_mem e) (Nat.le_max_right _ _)
theorem TK.hashes_app:∀a b:List TK,TK.hashes (a++b)=TK.hashes a++TK.hashes b
 |[],_=>rfl
 |x::xs,b=>by rw[bj,TK.hashes,TK.hashes,TK.hashes_app xs b];rfl
theorem TK.draws_app:∀a b:List TK,TK.drawsAll (a++b)=TK.drawsAll a+TK.drawsAll b
 |[],_=>by simp[TK.drawsAll]
 |x::xs,b=>by rw[bj,TK.drawsAll,TK.drawsAll,TK.draws_app xs b,bm]
def rV(xs:Array Nat):Prop:=xs.toList.Pairwise (· < ·)
noncomputable def gp(m:Nat):Nat->Nat->Nat->List Nat
 |0,_,_=>[]
 |n+1,i,b=>bn i (QZ m i-i+1)++gp m n (Q0 m i b).1 (Q0 m i b).2
def ze(m:Nat):Prop:=m=7\/m=31\/m=127
def nA(m:Nat)(h:Int):List Nat:=gp m (Q1 m) (Q2 h%(m+1)) (Q2 h)
def zd(m:Nat)(occ:List Nat)(h:Int)(j:Nat):Prop:=∃pre post,nA m h=pre++j::post /\ ∀y∈pre,y∈occ
structure sTT (es:Array (Int×di))(t:Q3):Prop where
 mks:ze t.mask
 up:rV t.place
 du:t.dummies = #[]
 sz:t.place.size=es.size
 le:∀j∈t.place.toList,j<=t.mask
 fl:es.size<=t.mask
 rc:∀z∈t.place.toList.zip es.toList,zd t.mask t.place.toList z.2.1 z.1
def stO(es:Array (Int×di))(ep:Nat)(t:Q3):Obj:={cls:=.type "set",dict:=Y,data:=.set es ep t,slots:= #[]}
def vD(a:dk)(xs:List (TK×dk×di))(h:dB):Prop:=(xs.map (·.1)).Nodup /\ ∃es ep t,h.get? a=Z (stO es ep t)/\sTT es t/\t.tooFull=J/\(∀e∈es.toList,∃z∈xs,e=(z.1.hash,.ref z.2.1))/\(∀z∈xs,(z.1.hash,Pr z.2.1)∈es.toList)/\es.size=xs.length
inductive D where
 |non|bl (b:Bool)|int (i:Int)|str (x:Str)|tup (xs:List D)|rol (xs:List D)|ref (n:Nat)|fn (x:Str)
inductive Ob where
 |lst (xs:List D)|dct (kvs:List (Key×D))|dcT (kvs:List (TK×D))|iset (xs:List Int)|dcF (kvs:List (TK×D))|tst (ks:List TK)
abbrev Sto:=List Ob
abbrev Ev:=List (Option D)
abbrev FE:=Ev->Sto->Option (D×Sto)
abbrev FT:=Ev->Sto->Option (Bool×Sto)
abbrev FA:=Ev->Sto->Option (List D×Sto)
abbrev FN:=List D->Sto->Option (D×Sto)
inductive Fl where
 |nx|rt (d:D)|bk|ct
abbrev FS:=Ev->Sto->Option (Fl×Ev×Sto)
def RoL(K:Fg1)(H:Hp)(a:dk)(xs:List V):Prop:=(∃o,H a=Z (.frz o (.lst xs))) \/
 ∃(o:Obj) (its:Array di) (n:Nat),K.lookup a=Z o/\o.cls = .type "list"/\o.dict=Y/\o.data = .seq its n/\its.size<=dy/\ee xs its.toList
theorem RoL.sq{K:Fg1}{H:Hp}{a:dk}{xs:List V}(h:RoL K H a xs):mX K H a xs:=h.elim (λ⟨o,q⟩=>.inl (.inr ⟨o,q⟩)) .inr
mutual
inductive eU (K:Fg1)(H:Hp)(mu:List dk):D->V->Prop
 |non:eU K H mu .non .non
 |bl (b:Bool):eU K H mu (.bl b) (.bl b)
 |int (i:Int):eU K H mu (.int i) (.int i)
 |str (x:Str):eU K H mu (.str x) (.str x)
 |tup {ds:List D} {vs:List V} {a:dk} (h:kC K H a vs) (r:dX K H mu ds vs):eU K H mu (.tup ds) (.ref a)
 |rol {ds:List D} {vs:List V} {a:dk} (h:RoL K H a vs) (r:dX K H mu ds vs):eU K H mu (.rol ds) (.ref a)
 |ref {n:Nat} {a:dk} (h:mu[n]?=some a):eU K H mu (.ref n) (.ref a)
 |fn {x:Str} {a:dk} (h:wN1 K dv x=some (some (.ref a))):eU K H mu (.fn x) (.ref a)
inductive dX (K:Fg1)(H:Hp)(mu:List dk):List D->List V->Prop
 |nil:dX K H mu [] []
 |cons {d:D} {v:V} {ds:List D} {vs:List V} (r:eU K H mu d v) (t:dX K H mu ds vs):dX K H mu (d::ds) (v::vs)
end
structure Ext (mu mu':List dk)(H H':Hp):Prop where
 pre:mu <+: mu'
 old:∀a o,H a=some o->a∉mu->H' a=some o
 tup:∀a xs,Rd H a (.tup xs)->Rd H' a (.tup xs)
 frz:∀a o u,H a=some (.frz o u)->H' a=some (.frz o u)
 new:∀a∈mu',a∈mu\/H a=none
theorem Ext.refl(mu:List dk)(H:Hp):Ext mu mu H H:=⟨bo,λ_ _ h _=>h,λ_ _ h=>h,λ_ _ _ h=>h,λ_ h=>.inl h⟩
theorem Ext.trans{mu m1 m2:List dk}{H H1 H2:Hp}(a:Ext mu m1 H H1)(b:Ext m1 m2 H1 H2):Ext mu m2 H H2 where
 pre:=a.pre.trans b.pre
 old:=λc o h n=>b.old c o (a.old c o h n) λz=>by
  rcases a.new c z with q|q
  ·exact n q
  ·rw[h]at q;cases q
 tup:=λc xs h=>b.tup c xs (a.tup c xs h)
 frz:=λc o u h=>b.frz c o u (a.frz c o u h)
 new:=λc h=>by
  rcases b.new c h with q|q
  ·exact a.new c q
  ·by_cases z:c∈mu
   ·exact .inl z
   ·right;cases e:H c with
    |none=>rfl
    |some o=>rw[a.old c o e z]at q;cases q
theorem Ext.at{mu mu':List dk}{H H':Hp}(e:Ext mu mu' H H'){n:Nat}{a:dk}(h:mu[n]?=Z a):mu'[n]?=Z a:=by
 obtain⟨t,rfl⟩:=e.pre;have b:n<mu.length:=(R9 h).1;rw[gL1 b];exact h
theorem Ext.back{mu mu':List dk}{H H':Hp}(e:Ext mu mu' H H'):Ext mu mu H H':=⟨bo,e.old,e.tup,e.frz,λ_ h=>.inl h⟩
structure tU (mu mu':List dk)(H H':Hp):Prop where
 pre:mu <+: mu'
 tup:∀a xs,Rd H a (.tup xs)->Rd H' a (.tup xs)
 frz:∀a o u,H a=some (.frz o u)->H' a=some (.frz o u)
theorem Ext.w{mu mu':List dk}{H H':Hp}(e:Ext mu mu' H H'):tU mu mu' H H':=⟨e.pre,e.tup,e.frz⟩
theorem tU.trans{mu m1 m2:List dk}{H H1 H2:Hp}(a:tU mu m1 H H1)(b:tU m1 m2 H1 H2):tU mu m2 H H2:=⟨a.pre.trans b.pre,λc xs h=>b.tup c xs (a.tup c xs h),λc o u h=>b.frz c o u (a.frz c o u h)⟩
theorem tU.at{mu mu':List dk}{H H':Hp}(e:tU mu mu' H H'){n:Nat}{a:dk}(h:mu[n]?=Z a):mu'[n]?=Z a:=by
 obtain⟨t,rfl⟩:=e.pre;have b:n<mu.length:=(R9 h).1;rw[gL1 b];exact h
structure Hx (mu mu':List dk)(H H':Hp):Prop where
 pre:mu <+: mu'
 tup:∀a xs,Rd H a (.tup xs)->Rd H' a (.tup xs)
 frl:∀a o xs,H a=some (.frz o (.lst xs))->H' a=some (.frz o (.lst xs))
theorem tU.v{mu mu':List dk}{H H':Hp}(e:tU mu mu' H H'):Hx mu mu' H H':=⟨e.pre,e.tup,λa o xs h=>e.frz a o _ h⟩
theorem Ext.v{mu mu':List dk}{H H':Hp}(e:Ext mu mu' H H'):Hx mu mu' H H':=e.w.v
theorem Hx.at{mu mu':List dk}{H H':Hp}(e:Hx mu mu' H H'){n:Nat}{a:dk}(h:mu[n]?=Z a):mu'[n]?=Z a:=by
 obtain⟨t,rfl⟩:=e.pre;have b:n<mu.length:=(R9 h).1;rw[gL1 b];exact h
theorem kC.exv{K:Fg1}{mu mu':List dk}{H H':Hp}{a:dk}{vs:List V}(e:Hx mu mu' H H')(h:kC K H a vs):kC K H' a vs:=by
 rcases h with h|h
 ·exact .inl (e.tup a vs h)
 ·exact .inr h
theorem RoL.exv{K:Fg1}{mu mu':List dk}{H H':Hp}{a:dk}{vs:List V}(e:Hx mu mu' H H')(h:RoL K H a vs):RoL K H' a vs:=by
 rcases h with⟨o,h⟩|h
 ·exact .inl ⟨o,e.frl a o _ h⟩
 ·exact .inr h
theorem eU.exv{K:Fg1}{mu mu':List dk}{H H':Hp}(e:Hx mu mu' H H'):∀ {d:D} {v:V},eU K H mu d v->eU K H' mu' d v:=fun h=>h.rec (motive_1:=fun d v _=>eU K H' mu' d v) (motive_2:=fun ds vs _=>dX K H' mu' ds vs)
  .non .bl .int .str (λh _ ih=>.tup (kC.exv e h) ih) (λh _ ih=>.rol (RoL.exv e h) ih) (λh=>.ref (e.at h)) (λh=>.fn h) .nil (λ_ _ a b=>.cons a b)
theorem dX.ind{K:Fg1}{mu:List dk}{H:Hp}{P:(ds:List D)->(vs:List V)->dX K H mu ds vs->Prop}(hn:P [] [] .nil)(hc:∀{d v ds vs} (r:eU K H mu d v) (t:dX K H mu ds vs),P ds vs t->P (d::ds) (v::vs) (.cons r t)){ds:List D}{vs:List V}(h:dX K H mu ds vs):P ds vs h:=
 h.rec (motive_1:=λ_ _ _=>True) (motive_2:=P) trivial (λ_=>trivial) (λ_=>trivial) (λ_=>trivial) (λ_ _ _=>trivial) (λ_ _ _=>trivial) (λ_=>trivial) (λ_=>trivial) hn (λr t _ ih=>hc r t ih)
theorem dX.exv{K:Fg1}{mu mu':List dk}{H H':Hp}(e:Hx mu mu' H H'):∀{ds:List D} {vs:List V},dX K H mu ds vs->dX K H' mu' ds vs:=λh=>h.ind (P:=λds vs _=>dX K H' mu' ds vs) .nil λr _ ih=>.cons (eU.exv e r) ih
section
variable{K:Fg1}{mu mu':List dk}{H H':Hp}{a:dk}{vs:List V}
theorem eU.exw(e:tU mu mu' H H'){d:D}{v:V}(h:eU K H mu d v):eU K H' mu' d v:=h.exv e.v
theorem dX.exw(e:tU mu mu' H H'){ds:List D}(h:dX K H mu ds vs):dX K H' mu' ds vs:=h.exv e.v
theorem eU.ext(e:Ext mu mu' H H'){d:D}{v:V}(h:eU K H mu d v):eU K H' mu' d v:=h.exv e.v
theorem dX.ext(e:Ext mu mu' H H'){ds:List D}(h:dX K H mu ds vs):dX K H' mu' ds vs:=h.exv e.v
end
section
variable{K:Fg1}{H:Hp}{mu:List dk}
theorem dX.length:∀{ds:List D} {vs:List V},dX K H mu ds vs->ds.length=vs.length:=λh=>h.ind (P:=λds vs _=>ds.length=vs.length) O λ_ _ ih=>congrArg (· + 1) ih
theorem dX.get:∀{ds:List D} {vs:List V} {i:Nat} {d:D},dX K H mu ds vs->ds[i]?=Z d -> ∃v,vs[i]?=Z v/\eU K H mu d v:=by
 intro ds vs i d h e
 induction h using dX.ind generalizing i with
 |hn=>cases e
 |hc r t ih=>cases i with
  |zero=>cases e;exact⟨_,O,r⟩
  |succ i=>exact ih (i:=i) e
theorem dX.getV:∀{ds:List D} {vs:List V} {i:Nat} {v:V},dX K H mu ds vs->vs[i]?=Z v -> ∃d,ds[i]?=Z d/\eU K H mu d v:=by
 intro ds vs i d h e
 induction h using dX.ind generalizing i with
 |hn=>cases e
 |hc r t ih=>cases i with
  |zero=>cases e;exact⟨_,O,r⟩
  |succ i=>exact ih (i:=i) e
theorem dX.append:∀{ds es:List D} {vs ws:List V},dX K H mu ds vs->dX K H mu es ws->dX K H mu (ds++es) (vs++ws):=λh s=>h.ind (P:=λds vs _=>dX K H mu (ds++_) (vs++_)) s λr _ ih=>.cons r ih
theorem dX.take:∀{ds:List D} {vs:List V} (n:Nat),dX K H mu ds vs->dX K H mu (ds.take n) (vs.take n):=by
 intro ds vs n h
 induction h using dX.ind generalizing n with
 |hn=>rw[aw,aw];exact .nil
 |hc r t ih=>cases n with
  |zero=>exact .nil
  |succ n=>exact .cons r (ih n)
theorem dX.drop:∀{ds:List D} {vs:List V} (n:Nat),dX K H mu ds vs->dX K H mu (ds.drop n) (vs.drop n):=by
 intro ds vs n h
 induction h using dX.ind generalizing n with
 |hn=>rw[ay,ay];exact .nil
 |hc r t ih=>cases n with
  |zero=>exact .cons r t
  |succ n=>exact ih n
theorem dX.set{d:D}{v:V}(r:eU K H mu d v):∀{ds:List D} {vs:List V} (i:Nat),dX K H mu ds vs->dX K H mu (ds.set i d) (vs.set i v):=by
 intro ds vs i h
 induction h using dX.ind generalizing i with
 |hn=>exact .nil
 |hc q t ih=>cases i with
  |zero=>exact .cons r t
  |succ i=>exact .cons q (ih i)
theorem dX.eraseIdx:∀{ds:List D} {vs:List V} (i:Nat),dX K H mu ds vs->dX K H mu (ds.eraseIdx i) (vs.eraseIdx i):=by
 intro ds vs i h
 induction h using dX.ind generalizing i with
 |hn=>exact .nil
 |hc q t ih=>cases i with
  |zero=>exact t
  |succ i=>exact .cons q (ih i)
theorem dX.reverse:∀{ds:List D} {vs:List V},dX K H mu ds vs->dX K H mu ds.reverse vs.reverse:=by
 intro ds vs h
 induction h using dX.ind with
 |hn=>exact .nil
 |hc r t ih=>rw[aW,aW];exact dX.append ih (.cons r .nil)
end
def KR{κ:Type}(K:Fg1)(H:Hp)(mu:List dk):List (κ×D)->List (κ×V)->Prop:=Paired λp q=>p.1=q.1/\eU K H mu p.2 q.2
mutual
def tkD:TK->D
 | .non=>.non
 | .int i=>.int i
 | .tup xs=>.tup (jz xs)
def jz:List TK->List D
 |[]=>[]
 |x::xs=>tkD x::jz xs
end
def j7(a:dk)(xs:List (TK×dk×di))(h:dB):Prop:=(a == Pt)=J/\(xs.map (·.1)).Nodup /\ ∃o es ep,h.get? a=Z o/\o.ExactDict/\o.data = .dict es ep/\es.toList=xs.map λx=>(⟨x.1.hash,.ref x.2.1,x.2.2⟩:DictEntry)
def Hy(a:dk)(xs:List (TK×dk×di))(o:Obj):Prop:=(a == Pt)=J/\(xs.map (·.1)).Nodup/\o.ExactDict /\ ∃es ep,o.data = .dict es ep/\es.toList=xs.map λx=>(⟨x.1.hash,.ref x.2.1,x.2.2⟩:DictEntry)
def KT(K:Fg1)(H:Hp)(mu:List dk):List (TK×D)->List (TK×dk×di)->Prop:=Paired λp q=>p.1=q.1/\p.1.dep<=8/\eU K H mu (tkD p.1) (.ref q.2.1) /\ ∃v,d4 v q.2.2/\eU K H mu p.2 v
def pU(K:Fg1)(H:Hp)(mu:List dk)(a:dk):Ob->Prop
 | .lst ds=>∃vs,H a=Z (.lst vs)/\dX K H mu ds vs
 | .dct kvs=>∃ws,H a=Z (.dK ws)/\KR K H mu kvs ws
 | .dcT kvs=>∃xs,H a=Z (.ext (j7 a xs))/\KT K H mu kvs xs/\xs.length<=dy
 | .iset xs=>H a=Z (.set (λk=>xs.contains k) xs.length)/\xs.Nodup
 | .dcF kvs=>∃xs,(∃o u,H a=Z (.frz o u)/\Hy a xs o)/\KT K H mu kvs xs/\xs.length<=dy
 | .tst ks=>∃xs,H a=Z (.ext (vD a xs))/\KT K H mu (ks.map λk=>(k,D.non)) xs
structure Sim (K:Fg1)(H:Hp)(mu:List dk)(S:Sto):Prop where
 len:mu.length=S.length
 nd:mu.Nodup
 ob:∀(n:Nat) (o:Ob) (a:dk),S[n]?=some o->mu[n]?=some a->pU K H mu a o
structure fH (K:Fg1)(H:Hp)(mu:List dk)(r:Ev)(σ:L2.St):Prop where
 len:r.length=σ.length
 val:∀(i:Nat) (d:D),r[i]?=some (some d) -> ∃v,σ[i]?=some (some v)/\eU K H mu d v
theorem fH.ext{K:Fg1}{mu mu':List dk}{H H':Hp}{r:Ev}{σ:L2.St}(e:Ext mu mu' H H')(h:fH K H mu r σ):fH K H' mu' r σ:=⟨h.len,λi d q=>by
 obtain⟨v,a,b⟩:=h.val i d q;exact⟨v,a,b.ext e⟩⟩
theorem KR.ext{κ:Type}{K:Fg1}{mu mu':List dk}{H H':Hp}{ks:List (κ×D)}{ws:List (κ×V)}(e:Ext mu mu' H H')(h:KR K H mu ks ws):KR K H' mu' ks ws:=
 Paired.mapP h λ_ _ z=>⟨z.1,z.2.ext e⟩
theorem KT.ext{K:Fg1}{mu mu':List dk}{H H':Hp}{ks:List (TK×D)}{ws:List (TK×dk×di)}(e:Ext mu mu' H H')(h:KT K H mu ks ws):KT K H' mu' ks ws:=
 Paired.mapP h λ_ _ ⟨z,d,k,v,a,r⟩=>⟨z,d,k.ext e,v,a,r.ext e⟩
theorem Sim.nil{K:Fg1}{H:Hp}:Sim K H [] []:=⟨O,bp,λn o a h=>by simp at h⟩
theorem Sim.here{K:Fg1}{H:Hp}{mu:List dk}{S:Sto}(s:Sim K H mu S){a:dk}(h:a∈mu):∃o,H a=Z o:=by
 obtain⟨n,b⟩:=bq h;have c:n<S.length:=by rw[<- s.len];exact(R9 b).1
 have q:=s.ob n _ a (gG1 c) b;cases e:S[n]with
 |lst ds=>rw[e]at q;obtain⟨vs,z,_⟩:=q;exact⟨_,z⟩
 |dct ks=>rw[e]at q;obtain⟨vs,z,_⟩:=q;exact⟨_,z⟩
 |dcT ks=>rw[e]at q;obtain⟨vs,z,_⟩:=q;exact⟨_,z⟩
 |iset xs=>rw[e]at q;exact⟨_,q.1⟩
 |dcF ks=>rw[e]at q;obtain⟨vs,⟨_,_,z,_⟩,_⟩:=q;exact⟨_,z⟩
 |tst ks=>rw[e]at q;obtain⟨vs,z,_⟩:=q;exact⟨_,z⟩
def tS(K:Fg1)(mu:List dk)(H:Hp)(d:D)(S':Sto)(Q:VK):Prop:=∀v H' mu',Ext mu mu' H H'->eU K H' mu' d v->Sim K H' mu' S'->Q v H'
inductive tM (K:Fg1)(m:FE)(σ:L2.St)(H:Hp)(Q:VK):Prop
 |mk (r:Ev) (mu:List dk) (S:Sto) (d:D) (S':Sto) (he:fH K H mu r σ) (hs:Sim K H mu S) (hm:m r S=some (d,S')) (hc:tS K mu H d S' Q)
inductive AZ (K:Fg1)(m:FT)(σ:L2.St)(H:Hp)(Q:Bool->Hp->Prop):Prop
 |mk (r:Ev) (mu:List dk) (S:Sto) (b:Bool) (S':Sto) (he:fH K H mu r σ) (hs:Sim K H mu S) (hm:m r S=some (b,S')) (hc:∀H' mu',Ext mu mu' H H'->Sim K H' mu' S'->Q b H')
inductive Od (K:Fg1)(m:FA)(σ:L2.St)(H:Hp)(Q:List V->Hp->Prop):Prop
 |mk (r:Ev) (mu:List dk) (S:Sto) (ds:List D) (S':Sto) (he:fH K H mu r σ) (hs:Sim K H mu S) (hm:m r S=some (ds,S')) (hc:∀vs H' mu',Ext mu mu' H H'->dX K H' mu' ds vs->Sim K H' mu' S'->Q vs H')
def Nf(K:Fg1)(mu:List dk)(H:Hp)(r':Ev)(S':Sto)(E:jx)(f:Fl):Prop:=match f with
 | .nx=>∀ σ' H' mu',Ext mu mu' H H'->fH K H' mu' r' σ'->Sim K H' mu' S'->E.nx σ' H'
 | .bk=>∀ σ' H' mu',Ext mu mu' H H'->fH K H' mu' r' σ'->Sim K H' mu' S'->E.bk σ' H'
 | .ct=>∀ σ' H' mu',Ext mu mu' H H'->fH K H' mu' r' σ'->Sim K H' mu' S'->E.ct σ' H'
 | .rt d=>tS K mu H d S' E.rt
inductive xj (K:Fg1)(m:FS)(E:jx)(σ:L2.St)(H:Hp):Prop
 |mk (r:Ev) (mu:List dk) (S:Sto) (f:Fl) (r':Ev) (S':Sto) (he:fH K H mu r σ) (hs:Sim K H mu S) (hm:m r S=some (f,r',S')) (hc:Nf K mu H r' S' E f)
inductive rN (K:Fg1)(f:FN)(vs:List V)(H:Hp)(Q:VK):Prop
 |mk (mu:List dk) (S:Sto) (ds:List D) (d:D) (S':Sto) (hr:dX K H mu ds vs) (hs:Sim K H mu S) (hm:f ds S=some (d,S')) (hc:tS K mu H d S' Q)
abbrev ME(X:Cx)(e:Expr)(m:FE):Prop:=PE X e (tM X.K m)
abbrev MT(X:Cx)(e:Expr)(m:FT):Prop:=PT X e (AZ X.K m)
abbrev MW(X:Cx)(e:Expr)(m:FT):Prop:=PW X e (AZ X.K m)
abbrev MA(X:Cx)(es:List Expr)(m:FA):Prop:=PA X es (Od X.K m)
abbrev MS(X:Cx)(st:dE)(m:FS):Prop:=PS X st (xj X.K m)
abbrev Am(X:Cx)(st:List dE)(m:FS):Prop:=vI X st (xj X.K m)
variable{X:Cx}
section
variable{e:Expr}{es:List Expr}{st:dE}{sts:List dE}
theorem eM{t t':TE}(h:PE X e t)(i:∀ σ H Q,t' σ H Q->t σ H Q):PE X e t':=λag s σ H Q I q=>h ag s σ H Q I (i σ H Q q)
theorem vZ{t t':TT}(h:PT X e t)(i:∀ σ H Q,t' σ H Q->t σ H Q):PT X e t':=λag s σ H Q I q=>h ag s σ H Q I (i σ H Q q)
theorem Bw{t t':TT}(h:PW X e t)(i:∀ σ H Q,t' σ H Q->t σ H Q):PW X e t':=λa ag s σ H Q I q=>h a ag s σ H Q I (i σ H Q q)
theorem BR{t t':TA}(h:PA X es t)(i:∀ σ H Q,t' σ H Q->t σ H Q):PA X es t':=λpos ag s σ H Q I q=>h pos ag s σ H Q I (i σ H Q q)
theorem im{t t':TS}(h:PS X st t)(i:∀E σ H,t' E σ H->t E σ H):PS X st t':=λag s σ H E I q=>h ag s σ H E I (i E σ H q)
theorem sD{t t':TS}(h:vI X sts t)(i:∀E σ H,t' E σ H->t E σ H):vI X sts t':=λag s σ H E I q=>h ag s σ H E I (i E σ H q)
end
noncomputable def mV (i:Nat):FE:=λr S=>match r[i]? with
 |some (some d)=>some (d,S)
 |_=>none
noncomputable def mC (d:D):FE:=λ_ S=>some (d,S)
section
variable{pos:Pos}
theorem Jp (i:Nat){x:Str}(hN:X.N[i]?=Z x)(hv:Vis X.env.scope x)(hd:autoParam ((x == ("__debug__":Str))=J) bu0)(hcd:autoParam ((x == ("__classdict__":Str))=J) bu0):ME X (.Name x pos) (mV i):=
 eM (Ix hN hv hd hcd) <| by
  rintro σ H Q ⟨r,mu,S,d,j,g,f,a,hc⟩;unfold mV at a;split at a
  ·rename_i h e;cases a;obtain⟨v,b,c⟩:=g.val i _ e;exact⟨v,b,hc v H mu (.refl _ _) c f⟩
  ·cases a
theorem Co{e:Expr}{v:V}(d:D)(h:PE X e (tC v))(hr:∀H mu,eU X.K H mu d v):ME X e (mC d):=
 eM h <| by
  rintro σ H Q ⟨r,mu,S,c,g,f,a,b,hc⟩;cases b;exact hc v H mu (.refl _ _) (hr H mu) a
theorem Jx{i:Int}{j}:ME X (.Constant (.int i) j pos) (mC (.int i)):=Co _ IE λ_ _=>.int i
theorem LN{b:Bool}{j}:ME X (.Constant (.bool b) j pos) (mC (.bl b)):=Co _ Lx λ_ _=>.bl b
theorem Jv{j}:ME X (.Constant .none j pos) (mC .non):=Co _ IC λ_ _=>.non
theorem Jr{x:Str}{j}:ME X (.Constant (.str x) j pos) (mC (.str x)):=Co _ Iz λ_ _=>.str x
end
def dH:FA:=λ_ S=>Z ([],S)
noncomputable def dG (m:FE)(n:FA):FA:=λr S=>(m r S).bind λp=>(n r p.2).bind λq=>some (p.1::q.1,q.2)
section
variable{pos:Pos}{e:Expr}{es:List Expr}{m:FE}{n:FA}
theorem JB:MA X [] dH:=BR lh <| by
 rintro σ H Q ⟨r,mu,S,ds,d,c,b,a,hc⟩;cases a;exact hc [] H mu (.refl _ _) .nil b
theorem FJ(h:ME X e m)(ht:MA X es n)(hs:autoParam (dw (e::es) X.env=(J,eval e X.env)::dw es X.env) cu0):MA X (e::es) (dG m n):=
 BR (iE h ht hs) <| by
  rintro σ H Q ⟨r,mu,S,ds,s,i,hs,a,hc⟩;unfold dG at a;obtain⟨⟨d,j⟩,k,a⟩:=Sa a;obtain⟨⟨b,t⟩,p,a⟩:=Sa a;cases a;refine⟨r,mu,S,d,j,i,hs,k,λv H1 mu1 f l o=>?_⟩;refine⟨r,mu1,j,b,_,i.ext f,o,p,λvs H2 c g r2 q=>?_⟩;exact hc _ H2 c (f.trans g) (.cons (l.ext g) r2) q
end
noncomputable def m2 (f:FN)(a b:FE):FE:=λr S=>(a r S).bind λp=>(b r p.2).bind λq=>f [p.1,q.1] q.2
noncomputable def m1 (f:FN)(a:FE):FE:=λr S=>(a r S).bind λp=>f [p.1] p.2
noncomputable def mN (f:FN)(a:FA):FE:=λr S=>(a r S).bind λp=>f p.1 p.2
abbrev r2(K:Fg1)(f:FN):R2:=λx y H Q=>rN K f [x,y] H Q
section
variable{K:Fg1}{f:FN}{a b:FE}{σ:L2.St}{H:Hp}{Q:VK}
theorem xS(h:tM K (m2 f a b) σ H Q):K3 (r2 K f) (tM K a) (tM K b) σ H Q:=by
 obtain⟨r,mu,S,d,t,i,q,c,hc⟩:=h;obtain⟨⟨o,j⟩,p,c⟩:=Sa c;obtain⟨⟨k,n⟩,B,c⟩:=Sa c;refine⟨r,mu,S,o,j,i,q,p,λv H1 mu1 l x A=>?_⟩;refine⟨r,mu1,j,k,n,i.ext l,A,B,λu H2 g m r2 C=>?_⟩;exact⟨g,n,[o,k],d,t,.cons (x.ext m) (.cons r2 .nil),C,c,λv z e w y s=>hc v z e ((l.trans m).trans w) y s⟩
theorem xQ{a:FA}(h:tM K (mN f a) σ H Q):Od K a σ H λvs H1=>rN K f vs H1 Q:=by
 obtain⟨r,mu,S,d,s,q,k,c,hc⟩:=h;obtain⟨⟨e,g⟩,i,c⟩:=Sa c;refine⟨r,mu,S,e,g,q,k,i,λv H1 mu1 m j o=>?_⟩;exact⟨mu1,g,e,d,s,j,o,c,λv n b t l p=>hc v n b (m.trans t) l p⟩
theorem LK{op:PR}{x y:Expr}{pos:Pos}(ho:gE X (Qd op) (r2 X.K f))(hx:ME X x a)(hy:ME X y b):ME X (.BinOp x op y pos) (m2 f a b):=eM (Lu ho hx hy) λ_ _ _=>xS
theorem Jy{op:Qf}{x y:Expr}{pos:Pos}(ho:gE X (Qe op) (r2 X.K f))(hx:ME X x a)(hy:ME X y b)(hm:Qg op y=J):ME X (.Compare x [op] [y] pos) (m2 f a b):=eM (E8 ho hx hy hm) λ_ _ _=>xS
theorem LL{x y:Expr}{pos:Pos}(ho:Hw X (r2 X.K f))(hx:ME X x a)(hy:ME X y b)(hs:oa y):ME X (.Subscript x y pos) (m2 f a b):=eM (Lv ho hx hy hs) λ_ _ _=>xS
theorem Cn {x:Str}{p pos:Pos}{e:Expr}{es:List Expr}{id:String}{a:FA}(hc:eQ X (.builtin id) (rN X.K f))(hg:Gl X x)(hm:X.mg x=none)(hv:Pv x=some (.builtin id))(ha:MA X (e::es) a)(hn:autoParam (x≠"__name__") bu0)(hdb:autoParam ((x == ("__debug__":Str))=false) bu0)
  (he:autoParam (dw (e::es) X.env=(J,eval e X.env)::dw es X.env) cu0) (hpl:autoParam ((PC pos (dw es X.env)).any (·.1)=J) cu0):ME X (.Call (.Name x p) (e::es) [] pos) (mN f a):=
 eM (lM hc hg hm hv ha hn hdb he hpl) λ_ _ _=>xQ
theorem zv {x:Str}{p pos:Pos}{e:Expr}{es:List Expr}{T:String}{a:FA}(hc:eQ X (.type T) (rN X.K f))(hg:Gl X x)(hm:X.mg x=none)(hv:Pv x=some (.type T))(ha:MA X (e::es) a)(hn:autoParam (x≠"__name__") bu0)(hdb:autoParam ((x == ("__debug__":Str))=false) bu0)
  (he:autoParam (dw (e::es) X.env=(J,eval e X.env)::dw es X.env) cu0) (hpl:autoParam ((PC pos (dw es X.env)).any (·.1)=J) cu0):ME X (.Call (.Name x p) (e::es) [] pos) (mN f a):=
 eM (kj hc hg hm hv ha hn hdb he hpl) λ_ _ _=>xQ
end
noncomputable def mB (m:FE):FT:=λr S=>(m r S).bind λp=>match p.1 with
 | .bl b=>some (b,p.2)
 |_=>none
theorem LP{K:Fg1}{m:FE}{σ:L2.St}{H:Hp}{Q:Bool->Hp->Prop}(h:AZ K (mB m) σ H Q):tB (tM K m) σ H Q:=by
 obtain⟨r,mu,S,b,l,j,e,a,hc⟩:=h;obtain⟨⟨f,n⟩,c,a⟩:=Sa a;cases f with
 |bl k=>
  cases a;refine⟨r,mu,S,_,_,j,e,c,λv H1 mu1 g d i=>?_⟩;cases d;exact⟨_,O,hc H1 mu1 g i⟩
 |_=>cases a
def p9(a b:FT):FT:=λr S=>(a r S).bind λp=>if p.1=M then b r p.2 else Z (J,p.2)
def Cq(a b:FT):FT:=λr S=>(a r S).bind λp=>if p.1=M then Z (M,p.2)else b r p.2
def nG(a:FT):FT:=λr S=>(a r S).bind λp=>Z (!p.1,p.2)
def kX(a b:FE):FE:=λr S=>(a r S).bind λp=>match p.1 with
 | .bl c=>if c=M then b r p.2 else Z (.bl J,p.2)
 |_=>Y
def OX(a b:FE):FE:=λr S=>(a r S).bind λp=>match p.1 with
 | .bl c=>if c=M then Z (.bl M,p.2)else b r p.2
 |_=>Y
def uF(a:FE):FE:=λr S=>(a r S).bind λp=>match p.1 with
 | .bl c=>Z (.bl (!c),p.2)
 |_=>Y
def uG(c:FT)(a b:FE):FE:=λr S=>(c r S).bind λp=>if p.1=M then a r p.2 else b r p.2
section
variable{x y c:Expr}{rest:List Expr}{pos:Pos}{a b:FT}{f g:FE}
theorem I3{op:Qf}{f:FN}{a b:FE}(ho:gE X (Qe op) (r2 X.K f))(hx:ME X x a)(hy:ME X y b)(hm:Qg op y=J):MT X (.Compare x [op] [y] pos) (mB (m2 f a b)):=
 vZ (EO ho hx hy hm) fun σ H Q h=>by
  obtain⟨r,mu,S,d,k,j,e,hm,hc⟩:=LP h;exact xS ⟨r,mu,S,d,k,j,e,hm,λv H' mu' g c i=>hc v H' mu' g c i⟩
theorem Fq(ha:MT X x a):MW X (.BoolOp .And [x] pos) a:=EM ha
theorem IY(ha:MT X x a):MW X (.BoolOp .Or [x] pos) a:=Ic ha
theorem IZ(ha:MT X x a)(hb:MW X (.BoolOp .And (y::rest) pos) b):MW X (.BoolOp .And (x::y::rest) pos) (p9 a b):=
 Bw (Ie ha hb) <| by
  rintro σ H Q ⟨r,mu,S,k,m,g,j,c,hc⟩;obtain⟨⟨b1,h⟩,i,c⟩:=Sa c;refine⟨r,mu,S,b1,h,g,j,i,λH1 mu1 d f=>?_⟩;cases b1 with
  |true=>exact⟨r,mu1,h,k,m,g.ext d,f,c,λH2 e l n=>hc H2 e (d.trans l) n⟩
  |false=>cases c;exact hc H1 mu1 d f
theorem LH(ha:MT X x a)(hb:MW X (.BoolOp .Or (y::rest) pos) b):MW X (.BoolOp .Or (x::y::rest) pos) (Cq a b):=
 Bw (Lp ha hb) <| by
  rintro σ H Q ⟨r,mu,S,k,m,g,j,c,hc⟩;obtain⟨⟨b1,h⟩,i,c⟩:=Sa c;refine⟨r,mu,S,b1,h,g,j,i,λH1 mu1 d f=>?_⟩;cases b1 with
  |false=>exact⟨r,mu1,h,k,m,g.ext d,f,c,λH2 e l n=>hc H2 e (d.trans l) n⟩
  |true=>cases c;exact hc H1 mu1 d f
theorem NB(h:MW X x a):MT X x a:=PW.pt h
theorem I1(ha:MT X x a):MT X (.UnaryOp .Not x pos) (nG a):=
 vZ (Ih ha) <| by
  rintro σ H Q ⟨r,mu,S,k,i,g,d,b,hc⟩;obtain⟨⟨b1,h⟩,c,b⟩:=Sa b;cases b;exact⟨r,mu,S,b1,h,g,d,c,λH1 mu1 e f=>hc H1 mu1 e f⟩
theorem Jt{op}(h:ME X x f):ME X (.BoolOp op [x] pos) f:=IA h
theorem Jz(ha:ME X x f)(hb:ME X (.BoolOp .And (y::rest) pos) g):ME X (.BoolOp .And (x::y::rest) pos) (kX f g):=
 eM (IH ha hb) <| by
  rintro σ H Q ⟨r,mu,S,k,p,h,m,a,hc⟩;obtain⟨⟨d,i⟩,j,a⟩:=Sa a;refine⟨r,mu,S,d,i,h,m,j,λv H1 mu1 b l e=>?_⟩;cases d with
  |bl b1=>
   cases l;refine⟨b1,O,?_⟩;cases b1 with
   |true=>exact⟨r,mu1,i,k,p,h.ext b,e,a,λo H2 c n r2 q=>hc o H2 c (b.trans n) r2 q⟩
   |false=>cases a;exact hc _ H1 mu1 b (.bl J) e
  |_=>cases a
theorem Ju(ha:ME X x f):ME X (.UnaryOp .Not x pos) (uF f):=
 eM (IB ha) <| by
  rintro σ H Q ⟨r,mu,S,k,l,i,e,a,hc⟩;obtain⟨⟨b,j⟩,c,a⟩:=Sa a;refine⟨r,mu,S,b,j,i,e,c,λv H1 mu1 g d h=>?_⟩;cases b with
  |bl b1=>
   cases d;cases a;exact⟨b1,O,hc _ H1 mu1 g (.bl _) h⟩
  |_=>cases a
theorem LM(hc:MT X c a)(hx:ME X x f)(hy:ME X y g):ME X (.IfExp c x y pos) (uG a f g):=
 eM (BM hc hx hy) <| by
  rintro σ H Q ⟨r,mu,S,k,o,j,q,e,hc⟩;obtain⟨⟨b1,l⟩,p,e⟩:=Sa e;refine⟨r,mu,S,b1,l,j,q,p,λH1 mu1 d n=>?_⟩;cases b1 with
  |true=>exact⟨r,mu1,l,k,o,j.ext d,n,e,λi H2 b h r2 m=>hc i H2 b (d.trans h) r2 m⟩
  |false=>exact⟨r,mu1,l,k,o,j.ext d,n,e,λi H2 b h r2 m=>hc i H2 b (d.trans h) r2 m⟩
end
noncomputable def LO(f g:FN)(a b c:FE):FE:=λr S=>(a r S).bind λp=>(b r p.2).bind λq=>(f [p.1,q.1] q.2).bind λt=>match t.1 with
 | .bl k=>if k=M then(c r t.2).bind λz=>g [q.1,z.1] z.2 else Z (.bl J,t.2)
 |_=>Y
section
variable{x y z:Expr}{pos:Pos}{f g:FN}{a b c:FE}{op op':Qf}
theorem JC{K:Fg1}{σ:L2.St}{H:Hp}{Q:VK}(h:tM K (LO f g a b c) σ H Q):A2 (r2 K f) (r2 K g) (tM K a) (tM K b) (tM K c) σ H Q:=by
 obtain⟨r,mu,S,d,F,o,D,e,hc⟩:=h;obtain⟨⟨B,u⟩,C,e⟩:=Sa e;obtain⟨⟨q,A⟩,R,e⟩:=Sa e;obtain⟨⟨x,v⟩,T,e⟩:=Sa e;refine⟨r,mu,S,B,u,o,D,C,λau H1 mu1 l I av=>?_⟩;refine⟨r,mu1,u,q,A,o.ext l,av,R,λv2 H2 p m r2 W=>?_⟩;refine⟨p,A,[B,q],x,v,.cons (I.ext m) (.cons r2 .nil),W,T,λwq L i j ao t=>?_⟩;cases x with
 |bl k=>
  cases ao;refine⟨k,O,?_⟩;cases k with
  |false=>cases e;exact hc _ L i ((l.trans m).trans j) (.bl J) t
  |true=>
   obtain⟨⟨z,w⟩,V,e⟩:=Sa e;refine⟨r,i,v,z,w,o.ext ((l.trans m).trans j),t,V,λv4 H4 s y N P=>?_⟩;exact⟨s,w,[q,z],d,F,.cons ((r2.ext j).ext y) (.cons N .nil),P,e,λE X n G aq U=>hc E X n ((((l.trans m).trans j).trans y).trans G) aq U⟩
 |_=>cases e
theorem Ck(ho:gE X (Qe op) (r2 X.K f))(ho':gE X (Qe op') (r2 X.K g))(hx:ME X x a)(hy:ME X y b)(hz:ME X z c)(hm:autoParam (lastMarks [op,op'] [y,z]=false) BO._auto_1):
  ME X (.Compare x [op,op'] [y,z] pos) (LO f g a b c):=eM (BO ho ho' hx hy hz hm) λ_ _ _=>JC
end
mutual
def D.und(n:Nat):D->Bool
 | .tup xs=>D.unds n xs
 | .rol xs=>D.unds n xs
 | .ref k=>decide (k<n)
 | .non=>M
 | .bl _=>M
 | .int _=>M
 | .str _=>M
 | .fn _=>M
def D.unds(n:Nat):List D->Bool
 |[]=>M
 |d::ds=>D.und n d&&D.unds n ds
end
def D.sames(a b:List D):Bool:=@decide (a=b) (Classical.propDecidable _)
theorem D.sames_eq{a b:List D}(h:D.sames a b=M):a=b:=@Q4 _ (Classical.propDecidable _) h
theorem D.sames_refl(a:List D):D.sames a a=M:=@decide_eq_true _ (Classical.propDecidable _) O
section
variable{K:Fg1}{H:Hp}{mu mu':List dk}
theorem eU.cut{n:Nat}(h:∀ k,k<n->mu[k]? = mu'[k]?):∀ {d:D} {v:V},eU K H mu d v->d.und n=true->eU K H mu' d v:=fun c=>c.rec (motive_1:=fun d v _=>d.und n=true->eU K H mu' d v) (motive_2:=fun ds vs _=>D.unds n ds=true->dX K H mu' ds vs)
  (λ_=>.non) (λb _=>.bl b) (λi _=>.int i) (λx _=>.str x) (λq _ ih e=>.tup q (ih (by rw[D.und]at e;exact e))) (λq _ ih e=>.rol q (ih (by rw[D.und]at e;exact e)))
  (λq e=>.ref (by rw[D.und]at e;rw[<- h _ (Q4 e)];exact q)) (λq _=>.fn q) (λ_=>.nil) (λ_ _ a b e=>by rw[D.unds,bA1]at e;exact .cons (a e.1) (b e.2))
theorem dX.cut{n:Nat}(h:∀k,k<n->mu[k]?=mu'[k]?):∀{ds:List D} {vs:List V},dX K H mu ds vs->D.unds n ds=M->dX K H mu' ds vs:=λa=>a.ind (P:=λds vs _=>D.unds n ds=M->dX K H mu' ds vs) (λ_=>.nil) λr _ b e=>by rw[D.unds,bA1]at e;exact .cons (eU.cut h r e.1) (b e.2)
end
noncomputable def Ob.und(n:Nat):Ob->Bool
 | .lst xs=>D.unds n xs
 | .dct kvs=>D.unds n (kvs.map (·.2))
 | .dcT kvs=>D.unds n (kvs.map (·.2))
 | .iset _=>M
 | .dcF kvs=>D.unds n (kvs.map (·.2))
 | .tst _=>M
theorem KR.cut{κ:Type}{K:Fg1}{H:Hp}{mu mu':List dk}{n:Nat}(h:∀k,k<n->mu[k]?=mu'[k]?):∀{ks:List (κ×D)} {ws:List (κ×V)},KR K H mu ks ws->D.unds n (ks.map (·.2))=M->KR K H mu' ks ws:=by
 intro ks ws a e
 induction a with
 |nil=>exact .nil
 |cons r t ih=>
  rw[mP1,D.unds,bA1]at e;exact .cons ⟨r.1,r.2.cut h e.1⟩ (ih e.2)
mutual
theorem AW(n:Nat):∀k:TK,(tkD k).und n=M
 | .non=>rfl
 | .int _=>rfl
 | .tup xs=>by rw[tkD,D.und];exact xh n xs
theorem xh(n:Nat):∀ks:List TK,D.unds n (jz ks)=M
 |[]=>rfl
 |x::xs=>by rw[jz,D.unds,AW n x,xh n xs];rfl
end
theorem KT.cut{K:Fg1}{H:Hp}{mu mu':List dk}{n:Nat}(h:∀k,k<n->mu[k]?=mu'[k]?):∀{ks:List (TK×D)} {ws:List (TK×dk×di)},KT K H mu ks ws->D.unds n (ks.map (·.2))=M->KT K H mu' ks ws:=by
 intro ks ws a e
 induction a with
 |nil=>exact .nil
 |cons r t ih=>
  rw[mP1,D.unds,bA1]at e;obtain⟨z,d,k,v,b,r⟩:=r;exact .cons ⟨z,d,k.cut h (AW n _),v,b,r.cut h e.1⟩ (ih e.2)
theorem xJ(n:Nat):∀ks:List TK,D.unds n ((ks.map λk=>(k,D.non)).map (·.2))=M
 |[]=>rfl
 |_::ks=>by rw[mP1,mP1,D.unds,xJ n ks];rfl
theorem pU.cut{K:Fg1}{H:Hp}{mu mu':List dk}{n:Nat}{a:dk}(h:∀k,k<n->mu[k]?=mu'[k]?):∀{o:Ob},pU K H mu a o->o.und n=M->pU K H mu' a o
 | .lst _,⟨vs,e,r⟩,b=>⟨vs,e,r.cut h b⟩
 | .dct _,⟨ws,e,r⟩,b=>⟨ws,e,KR.cut h r b⟩
 | .dcT _,⟨ws,e,r,l⟩,b=>⟨ws,e,KT.cut h r b,l⟩
 | .iset _,q,_=>q
 | .dcF _,⟨ws,e,r,l⟩,b=>⟨ws,e,KT.cut h r b,l⟩
 | .tst ks,⟨ws,e,r⟩,_=>⟨ws,e,KT.cut h r (xJ n ks)⟩
def gc(n:Nat)(p:D×Sto):D×Sto:=if p.1.und n&&(p.2.take n).all (Ob.und n)then(p.1,p.2.take n)else p
mutual
noncomputable def D.sh(n:Nat):D->D
 | .tup xs=>.tup (D.shs n xs)
 | .rol xs=>.rol (D.shs n xs)
 | .ref k=>.ref (n+k)
 | .fn x=>.fn x
 | .non=>.non
 | .bl b=>.bl b
 | .int i=>.int i
 | .str x=>.str x
noncomputable def D.shs(n:Nat):List D->List D
 |[]=>[]
 |d::ds=>D.sh n d::D.shs n ds
end
def Ob.sh(n:Nat):Ob->Ob
 | .lst xs=>.lst (D.shs n xs)
 | .dct kvs=>.dct (kvs.map λp=>(p.1,p.2.sh n))
 | .dcT kvs=>.dcT (kvs.map λp=>(p.1,p.2.sh n))
 | .iset xs=>.iset xs
 | .dcF kvs=>.dcF (kvs.map λp=>(p.1,p.2.sh n))
 | .tst ks=>.tst ks
theorem eU.sh{K:Fg1}{H:Hp}{mu mu':List dk}:∀ {d:D} {v:V},eU K H mu' d v->eU K H (mu++mu') (d.sh mu.length) v:=fun c=>c.rec (motive_1:=fun d v _=>eU K H (mu++mu') (d.sh mu.length) v) (motive_2:=fun ds vs _=>dX K H (mu++mu') (D.shs mu.length ds) vs)
  .non .bl .int .str (λh _ ih=>.tup h ih) (λh _ ih=>.rol h ih) (λh=>.ref (by rw[gR1 (br _ _),Nat.add_sub_cancel_left];exact h)) (λh=>.fn h) .nil (λ_ _ a b=>.cons a b)
theorem dX.sh{K:Fg1}{H:Hp}{mu mu':List dk}:∀{ds:List D} {vs:List V},dX K H mu' ds vs->dX K H (mu++mu') (D.shs mu.length ds) vs:=λh=>h.ind (P:=λds vs _=>dX K H (mu++mu') (D.shs mu.length ds) vs) .nil λr _ ih=>.cons (eU.sh r) ih
theorem KR.sh{κ:Type}{K:Fg1}{H:Hp}{mu mu':List dk}:∀{ks:List (κ×D)} {ws:List (κ×V)},KR K H mu' ks ws->KR K H (mu++mu') (ks.map λp=>(p.1,p.2.sh mu.length)) ws:=by
 intro ks ws h
 induction h with
 |nil=>exact .nil
 |cons r t ih=>exact .cons ⟨r.1,r.2.sh⟩ ih
mutual
theorem GZ(n:Nat):∀k:TK,(tkD k).sh n=tkD k
 | .non=>rfl
 | .int _=>rfl
 | .tup xs=>by rw[tkD,D.sh,AV n xs]
theorem AV(n:Nat):∀ks:List TK,D.shs n (jz ks)=jz ks
 |[]=>rfl
 |x::xs=>by rw[jz,D.shs,GZ n x,AV n xs]
end
theorem KT.sh{K:Fg1}{H:Hp}{mu mu':List dk}:∀{ks:List (TK×D)} {ws:List (TK×dk×di)},KT K H mu' ks ws->KT K H (mu++mu') (ks.map λp=>(p.1,p.2.sh mu.length)) ws:=by
 intro ks ws h
 induction h with
 |nil=>exact .nil
 |cons r t ih=>
  obtain⟨z,d,k,v,a,r⟩:=r;exact .cons ⟨z,d,by have:=k.sh (mu:=mu);rw[GZ]at this;exact this,v,a,r.sh⟩ ih
theorem pU.sh{K:Fg1}{H:Hp}{mu mu':List dk}{a:dk}:∀{o:Ob},pU K H mu' a o->pU K H (mu++mu') a (o.sh mu.length)
 | .lst _,⟨vs,e,r⟩=>⟨vs,e,r.sh⟩
 | .dct _,⟨ws,e,r⟩=>⟨ws,e,KR.sh r⟩
 | .dcT _,⟨ws,e,r,l⟩=>⟨ws,e,KT.sh r,l⟩
 | .iset _,q=>q
 | .dcF _,⟨ws,e,r,l⟩=>⟨ws,e,KT.sh r,l⟩
 | .tst ks,⟨ws,e,r⟩=>⟨ws,e,by have:=KT.sh (mu:=mu) r;rw[bu]at this;exact this⟩
theorem eU.mor{K:Fg1}{H:Hp}{mu:List dk}(mu':List dk):∀{d:D} {v:V},eU K H mu d v->eU K H (mu++mu') d v:=λh=>h.exv ⟨bv _ _,λ_ _ h=>h,λ_ _ _ h=>h⟩
theorem dX.mor{K:Fg1}{H:Hp}{mu:List dk}(mu':List dk):∀{ds:List D} {vs:List V},dX K H mu ds vs->dX K H (mu++mu') ds vs:=λh=>h.exv ⟨bv _ _,λ_ _ h=>h,λ_ _ _ h=>h⟩
theorem KR.mor{κ:Type}{K:Fg1}{H:Hp}{mu:List dk}(mu':List dk){ks:List (κ×D)}{ws:List (κ×V)}(h:KR K H mu ks ws):KR K H (mu++mu') ks ws:=Paired.mapP h λ_ _ z=>⟨z.1,z.2.mor mu'⟩
theorem pU.mor{K:Fg1}{H:Hp}{mu:List dk}{a:dk}(mu':List dk):∀{o:Ob},pU K H mu a o->pU K H (mu++mu') a o
 | .lst _,⟨vs,e,r⟩=>⟨vs,e,r.mor mu'⟩
 | .dct _,⟨ws,e,r⟩=>⟨ws,e,KR.mor mu' r⟩
 | .dcT _,⟨ws,e,r,l⟩=>⟨ws,e,Paired.mapP r λ_ _ ⟨z,d,k,v,b,r⟩=>⟨z,d,k.mor mu',v,b,r.mor mu'⟩,l⟩
 | .iset _,q=>q
 | .dcF _,⟨ws,e,r,l⟩=>⟨ws,e,Paired.mapP r λ_ _ ⟨z,d,k,v,b,r⟩=>⟨z,d,k.mor mu',v,b,r.mor mu'⟩,l⟩
 | .tst _,⟨ws,e,r⟩=>⟨ws,e,Paired.mapP r λ_ _ ⟨z,d,k,v,b,r⟩=>⟨z,d,k.mor mu',v,b,r.mor mu'⟩⟩
def rG(f:FN):FN:=λds S=>if D.unds 0 ds=M then(f ds []).map λp=>if p.1.und 0=M then(p.1,S)else(p.1.sh S.length,S++p.2.map (Ob.sh S.length))else(f ds S).map (gc S.length)
theorem pU.keep{K:Fg1}{H H':Hp}{mu:List dk}{a:dk}(e:Ext mu mu H H')(h:∀o,H a=Z o->H' a=Z o):∀{o:Ob},pU K H mu a o->pU K H' mu a o
 | .lst _,⟨vs,q,r⟩=>⟨vs,h _ q,r.ext e⟩
 | .dct _,⟨ws,q,r⟩=>⟨ws,h _ q,KR.ext e r⟩
 | .dcT _,⟨ws,q,r,l⟩=>⟨ws,h _ q,KT.ext e r,l⟩
 | .iset _,q=>⟨h _ q.1,q.2⟩
 | .dcF _,⟨ws,⟨o,u,b,c⟩,r,l⟩=>⟨ws,⟨o,u,h _ b,c⟩,KT.ext e r,l⟩
 | .tst _,⟨ws,q,r⟩=>⟨ws,h _ q,KT.ext e r⟩
theorem vp{K:Fg1}{f:FN}{vs:List V}{H:Hp}{Q:VK}(h:rN K (rG f) vs H Q):rN K f vs H Q:=by
 obtain⟨mu,S,ds,d,aq,E,c,g,hc⟩:=h;unfold rG at g;split at g
 ·rename_i j;obtain⟨⟨B,p⟩,u,g⟩:=Sb g;refine⟨[],[],ds,B,p,E.cut (n:=0) (λk i=>absurd i (bw _)) j,.nil,u,λv H' mu' x r s=>?_⟩;have w:Ext mu mu H H':=⟨bo,λa o e _=>x.old a o e (by simp),x.tup,x.frz,λ_ z=>.inl z⟩;dsimp only at g;split at g
  ·rename_i G;cases g;refine hc v H' mu w (r.cut (n:=0) (λk i=>absurd i (bw _)) G) ⟨c.len,c.nd,λn o a h1 h2=>?_⟩;exact(c.ob n o a h1 h2).keep w λo e=>x.old a o e (by simp)
  ·cases g;have C:∀ a∈mu',H a=none:=fun a y=>(x.new a y).resolve_left (by simp);have ao:Ext mu (mu++mu') H H':=⟨bv _ _,fun a o e _=>x.old a o e (by simp),x.tup,x.frz,fun a z=>by
    rcases aG.mp z with z|z
    ·exact .inl z
    ·exact .inr (C a z)⟩
   refine hc v H' (mu++mu') ao (by rw[<- c.len];exact r.sh) ⟨by rw[lA1,lA1,lM1,c.len,s.len],?_,λn o a h1 h2=>?_⟩
   ·refine bx.mpr ⟨c.nd,s.nd,λa y b j z=>?_⟩;subst z;obtain⟨o,e⟩:=c.here y;rw[C a j]at e;cases e
   ·by_cases l:n<S.length
    ·rw[gL1 l]at h1;rw[gL1 (by rw[c.len];exact l)]at h2;exact((c.ob n o a h1 h2).keep w λo e=>x.old a o e (by simp)).mor mu'
    ·have m:=a0 l;rw[gR1 m]at h1;rw[gR1 (by rw[c.len];exact m)]at h2;rw[gP1]at h1;obtain⟨L,I,F⟩:=Sb h1;subst F;have q:=s.ob (n-S.length) L a I (by rw[c.len]at h2;exact h2);rw[<- c.len];exact q.sh
 ·obtain⟨⟨B,p⟩,u,g⟩:=Sb g;refine⟨mu,S,ds,B,p,E,c,u,λv H' mu' x r s=>?_⟩;unfold gc at g;split at g
  ·rename_i j;cases g;rw [bA1] at j;have i:∀ k,k<S.length->mu'[k]? = mu[k]?:=fun k i=>by
    obtain⟨t,rfl⟩:=x.pre;rw[gL1 (by rw[c.len];exact i)]
   refine hc v H' mu x.back (r.cut i j.1) ⟨?_,c.nd,λn o a h1 h2=>?_⟩
   ·have:=s.len;have D:=x.pre.length_le;rw[aR,<- s.len];rw[c.len]at D ⊢;exact(Nat.min_eq_left D).symm
   ·have l:n<S.length:=by rw[<- c.len];exact(R9 h2).1
    have A:p[n]?=Z o:=by rw[aT l]at h1;exact h1
    refine(s.ob n o a A ((i n l).trans h2)).cut i ?_;exact bA.mp j.2 o (gM1 h1)
  ·cases g;exact hc v H' mu' x r s
def A8(K:Fg1)(n:Nat)(f:FN):Sp:=λvs H Q _=>vs.length=n/\rN K f vs H Q
section
variable{k n:Nat}{f:dk}{fd:dD}{ps:List Str}{x:Str}{p pos:Pos}{e:Expr}{es:List Expr}{m:FN}{a:FA}
noncomputable def dI (n:Nat)(f:FN):FN:=λds S=>if ds.length=n then rG f ds S else none
theorem FH (F:j6 X.prog X.w X.K X.mg X.base vF k f fd ps (A8 X.K n m))(hr:fQ k X.A)(hg:Gl X x)(hm:X.mg x=some (.ref f))(hk:wK1 X.K (.ref f)=true)(hb:k9 X.K fd ps [])
  (ha:MA X (e::es) a) (hdb:autoParam ((x == ("__debug__":Str))=J) bu0) (he:autoParam (dw (e::es) X.env=(J,eval e X.env)::dw es X.env) cu0) (hpl:autoParam ((PC pos (dw es X.env)).any (·.1)=J) cu0):
  ME X (.Call (.Name x p) (e::es) [] pos) (mN (dI n m) a):=
 eM (E9 (E:=E0) F hr hg hm hk hb .nil G9 ha hdb he hpl) fun σ H Q h=>by
  obtain⟨r,mu,S,ds,t,he,j,hm,hc⟩:=xQ h;refine⟨r,mu,S,ds,t,he,j,hm,λvs H' mu' l i o=>?_⟩;have q:=hc vs H' mu' l i o;show A8 X.K n m (vs++[]) H' Q E0;rw[aN];obtain⟨d,w,c,v,u,h1,h2,b,g⟩:=q;unfold dI at b;split at b
  ·rename_i s;exact⟨by rw[<- h1.length];exact s,vp ⟨d,w,c,v,u,h1,h2,b,g⟩⟩
  ·cases b
end
def kW:FS:=λr S=>Z (.nx,r,S)
noncomputable def dQ (a b:FS):FS:=λr S=>(a r S).bind λp=>match p.1 with
 | .nx=>b p.2.1 p.2.2
 |f=>some (f,p.2.1,p.2.2)
noncomputable def eh (m:FE):FS:=λr S=>(m r S).bind λp=>some (.rt p.1,r,p.2)
def Oh:FS:=λr S=>Z (.rt .non,r,S)
noncomputable def fG (m:FE):FS:=λr S=>(m r S).bind λp=>some (.nx,r,p.2)
noncomputable def ft (c:FT)(a b:FS):FS:=λr S=>(c r S).bind λp=>if p.1=true then a r p.2 else b r p.2
section
variable{pos:Pos}{e c:Expr}{st:dE}{rest as bs:List dE}{a b:FS}{m:FE}{t:FT}
theorem Ft:Am X [] kW:=sD ER <| by
 rintro E σ H ⟨r,mu,S,f,d,e,b,a,c,hc⟩;cases c;exact hc σ H mu (.refl _ _) b a
theorem Cd(h1:MS X st a)(h2:Am X rest b):Am X (st::rest) (dQ a b):=sD (By h1 h2) <| by
 rintro E σ H ⟨r,mu,S,f,p,u,t,s,h,hc⟩;obtain⟨⟨m,l,n⟩,o,h⟩:=Sa h;refine⟨r,mu,S,m,l,n,t,s,o,?_⟩;cases m with
 |nx=>
  intro q H1 mu1 i j k;refine⟨l,mu1,n,f,p,u,j,k,h,?_⟩;cases f with
  |nx=>exact λe H2 c g=>hc e H2 c (i.trans g)
  |bk=>exact λe H2 c g=>hc e H2 c (i.trans g)
  |ct=>exact λe H2 c g=>hc e H2 c (i.trans g)
  |rt d=>exact λv H2 c g=>hc v H2 c (i.trans g)
 |bk=>cases h;exact hc
 |ct=>cases h;exact hc
 |rt d=>cases h;exact hc
theorem Fs(h1:MS X st a):Am X [st] a:=EQ h1
theorem Fu(h:ME X e m)(hs:autoParam (PN e Y pos.line X.env=pure J) cu0):MS X (.Expr e pos) (fG m):=im (ES h hs) <| by
 rintro E σ H ⟨r,mu,S,f,i,k,b,hs,a,hc⟩;obtain⟨⟨d,l⟩,c,a⟩:=Sa a;cases a;exact⟨r,mu,S,d,_,b,hs,c,λv H' mu' x j g=>hc σ H' mu' x (b.ext x) g⟩
theorem I9(h:ME X e m):MS X (.Return (Z e) pos) (eh m):=im (Ij h) <| by
 rintro E σ H ⟨r,mu,S,f,i,j,g,c,a,hc⟩;obtain⟨⟨d,k⟩,b,a⟩:=Sa a;cases a;exact⟨r,mu,S,d,_,g,c,b,hc⟩
theorem LI(hc:MT X c t)(ha:Am X as a)(hb:Am X bs b):MS X (.If c as bs pos) (ft t a b):=im (Lr hc ha hb) <| by
 rintro E σ H ⟨r,mu,S,f,m,o,n,s,i,hc⟩;obtain⟨⟨k,l⟩,q,i⟩:=Sa i;refine⟨r,mu,S,k,l,n,s,q,λH1 mu1 j u=>?_⟩;have p:∀c:FS,c r l=Z (f,m,o)->xj X.K c E σ H1:=λc i=>by
  refine⟨r,mu1,l,f,m,o,n.ext j,u,i,?_⟩;cases f with
  |nx=>exact λg H2 e h=>hc g H2 e (j.trans h)
  |bk=>exact λg H2 e h=>hc g H2 e (j.trans h)
  |ct=>exact λg H2 e h=>hc g H2 e (j.trans h)
  |rt d=>exact λv H2 e h=>hc v H2 e (j.trans h)
 cases k with
 |true=>exact p a i
 |false=>exact p b i
end
abbrev FG:=D->Ev->Sto->Option (Ev×Sto)
abbrev DZ:=List D->Ev->Sto->Option (Ev×Sto)
inductive HR (K:Fg1)(g:FG)(v:V)(σ:L2.St)(H:Hp)(Q:L2.St->Hp->Prop):Prop
 |mk (r:Ev) (mu:List dk) (S:Sto) (d:D) (r':Ev) (S':Sto) (he:fH K H mu r σ) (hs:Sim K H mu S) (hr:eU K H mu d v) (hm:g d r S=some (r',S')) (hc:∀ σ' H' mu',Ext mu mu' H H'->fH K H' mu' r' σ'->Sim K H' mu' S'->Q σ' H')
inductive Ng (K:Fg1)(g:DZ)(vs:List V)(σ:L2.St)(H:Hp)(Q:L2.St->Hp->Prop):Prop
 |mk (r:Ev) (mu:List dk) (S:Sto) (ds:List D) (r':Ev) (S':Sto) (he:fH K H mu r σ) (hs:Sim K H mu S) (hr:dX K H mu ds vs) (hm:g ds r S=some (r',S')) (hc:∀ σ' H' mu',Ext mu mu' H H'->fH K H' mu' r' σ'->Sim K H' mu' S'->Q σ' H')
abbrev MG(X:Cx)(e:Expr)(g:FG):Prop:=PG X e (HR X.K g)
abbrev MB(X:Cx)(es:List Expr)(g:DZ):Prop:=KE X es (Ng X.K g)
noncomputable def gN (i:Nat):FG:=λd r S=>some (r.set i (some d),S)
def gNl:DZ:=λds r S=>match ds with
 |[]=>Z (r,S)
 |_=>Y
noncomputable def gCs (g:FG)(gs:DZ):DZ:=λds r S=>match ds with
 |d::ds=>(g d r S).bind λp=>gs ds p.1 p.2
 |[]=>none
noncomputable def gT (n:Nat)(gs:DZ):FG:=λd r S=>match d with
 | .tup ds=>if ds.length=n then gs ds r S else none
 |_=>none
theorem fH.set{K:Fg1}{H:Hp}{mu:List dk}{r:Ev}{σ:L2.St}{i:Nat}{d:D}{v:V}(h:fH K H mu r σ)(q:eU K H mu d v):fH K H mu (r.set i (Z d)) (σ.set i (Z v)):=by
 refine⟨by rw[aV,aV];exact h.len,λj g e=>?_⟩;by_cases a:i=j
 ·subst a;have b:i<r.length:=by
   have:=(R9 e).1
   rwa [aV]at this
  rw[aJ b]at e;cases e;exact⟨v,aJ (by rw[<- h.len];exact b),q⟩
 ·rw[gS1 a]at e;obtain⟨k,c,f⟩:=h.val j g e;exact⟨k,by rw[gS1 a];exact c,f⟩
section
variable{pos:Pos}
theorem v8{e:Expr}{t t':TG}(h:PG X e t)(i:∀v σ H Q,t' v σ H Q->t v σ H Q):PG X e t':=λag s σ H v u Q I r q=>h ag s σ H v u Q I r (i v σ H Q q)
theorem xD{e:List Expr}{t t':Hv}(h:KE X e t)(i:∀v σ H Q,t' v σ H Q->t v σ H Q):KE X e t':=λag s σ H v u Q I r q=>h ag s σ H v u Q I r (i v σ H Q q)
theorem FD(i:Nat){x:Str}(hN:X.N.Nodup)(hi:X.N[i]?=Z x)(hx:vE X.env.scope x)(hf:autoParam (X.fn x=M\/X.env.scope.names.lookup x=Z .local) au0):MG X (.Name x pos) (gN i):=
 v8 (xE hN hi hx hf) <| by
  rintro v σ H Q ⟨r,mu,S,d,f,g,b,a,e,c,hc⟩;cases c;exact hc _ H mu (.refl _ _) (b.set e) a
theorem FC:MB X [] gNl:=xD E3 <| by
 rintro vs σ H Q ⟨r,mu,S,ds,e,f,c,b,d,a,hc⟩;unfold gNl at a;split at a
 ·cases a;cases d;exact⟨O,hc σ H mu (.refl _ _) c b⟩
 ·cases a
theorem Cg{e:Expr}{es:List Expr}{g:FG}{f:DZ}(h1:MG X e g)(h2:MB X es f)(hs:autoParam ((PQ (e::es) X.env).map (·.2)=PP e X.env::(PQ es X.env).map (·.2)) cu0):MB X (e::es) (gCs g f):=
 xD (BI h1 h2 hs) <| by
  rintro vs σ H Q ⟨r,mu,S,ds,l,s,p,hs,u,a,hc⟩;unfold gCs at a;split at a
  ·obtain⟨⟨h,j⟩,k,a⟩:=Sa a;cases u with
   |cons q t=>
    exact⟨_,_,O,r,mu,S,_,h,j,p,hs,q,k,λm H1 mu1 i b o=>⟨h,mu1,j,_,l,s,b,o,t.ext i,a,λc H2 d n=>hc c H2 d (i.trans n)⟩⟩
  ·cases a
theorem Ji{es:List Expr}{k:Nat}{b:DZ}{n:Nat}(hc:X.calm=M)(h:MB X es b)(hn:autoParam ((PQ es X.env).length=n) cu0)(hst:autoParam ((PQ es X.env).findIdx? (·.1)=Y) cu0):MG X (.Tuple es k pos) (gT n b):=
 v8 (Iv hc h hn hst) <| by
  rintro v σ H Q ⟨r,mu,S,d,c,g,f,e,j,a,hc⟩;cases d with
  |tup ds=>
   rw[gT]at a;split at a
   ·rename_i i;cases j with
    |tup q t=>exact⟨_,_,O,q,by rw[<- t.length];exact i,r,mu,S,ds,c,g,f,e,t,a,hc⟩
   ·cases a
  |_=>cases a
inductive rU (K:Fg1)(f:FN)(o i v:V)(H:Hp)(Q:Hp->Prop):Prop
 |mk (mu:List dk) (S:Sto) (ds:List D) (d:D) (S':Sto) (hr:dX K H mu ds [o,i,v]) (hs:Sim K H mu S) (hm:f ds S=some (d,S')) (hc:∀H' mu',Ext mu mu' H H'->Sim K H' mu' S'->Q H')
def gS(f:FN)(a b:FE):FG:=λd r S=>(a r S).bind λp=>(b r p.2).bind λq=>(f [p.1,q.1,d] q.2).bind λt=>Z (r,t.2)
theorem Jj{o i:Expr}{a b:FE}{f:FN}(ho:ME X o a)(hi:ME X i b)(hs:wU X (rU X.K f))(ha:autoParam (∀v,PP (.Subscript o i pos) X.env v=(do
   let ov<-PV [v] (eval o X.env)
   let iv<-PV [v,ov] (eval i X.env)
   PX pos
   PV [v,ov,iv] (setItem ov iv v)
   release [v,ov,iv] [])) du0):MG X (.Subscript o i pos) (gS f a b):=
 v8 (Iw ho hi hs ha) <| by
  rintro v σ H Q ⟨r,mu,S,d,E,D,j,hs,B,c,hc⟩;obtain⟨⟨q,l⟩,s,c⟩:=Sa c;obtain⟨⟨n,p⟩,z,c⟩:=Sa c;obtain⟨⟨x,G⟩,A,c⟩:=Sa c;cases c;refine⟨r,mu,S,q,l,j,hs,s,λF H1 mu1 e u y=>?_⟩;refine⟨r,mu1,l,n,p,j.ext e,y,z,λI H2 k g r2 C=>?_⟩;exact⟨k,p,[q,n,d],x,_,.cons (u.ext g) (.cons r2 (.cons ((B.ext e).ext g) .nil)),C,A,λw h m t=>hc σ w h ((e.trans g).trans m) (((j.ext e).ext g).ext m) t⟩
noncomputable def dS (m:FE)(g:FG):FS:=λr S=>(m r S).bind λp=>(g p.1 r p.2).bind λq=>some (.nx,q.1,q.2)
theorem sR{K:Fg1}{m:FE}{g:FG}{E:jx}{σ:L2.St}{H:Hp}(h:xj K (dS m g) E σ H):A3 (tM K m) (HR K g) E σ H:=by
 obtain⟨r,mu,S,f,s,u,i,l,a,hc⟩:=h;obtain⟨⟨d,j⟩,k,a⟩:=Sa a;obtain⟨⟨r2,v⟩,q,a⟩:=Sa a;cases a;refine⟨r,mu,S,d,j,i,l,k,λt H1 mu1 e n p=>?_⟩;exact⟨r,mu1,j,d,_,_,i.ext e,p,n,q,λb H2 c o=>hc b H2 c (e.trans o)⟩
theorem Jc{tg e:Expr}{m:FE}{g:FG}(he:ME X e m)(hg:MG X tg g)(hs:autoParam (P0 [tg] e pos.line X.env=pure J) cu0)(hw:autoParam (P1 [tg] e X.env=pure Y) cu0)(h1:autoParam ((PQ [tg] X.env).map (·.2)=[PP tg X.env]) cu0):MS X (.Assign [tg] e pos) (dS m g):=im (Ip he hg hs hw h1) λ_ _ _=>sR
theorem I7(i:Nat){x:Str}{e:Expr}{m:FE}{pos':Pos}(hN:X.N.Nodup)(hi:X.N[i]? = some x)(hx:vE X.env.scope x)(he:ME X e m)(hs:autoParam (PN e (some (.Name x pos')) pos.line X.env=pure false) cu0)(hf:autoParam (X.fn x=true\/X.env.scope.names.lookup x=some .local) au0):
  MS X (.Assign [.Name x pos'] e pos) (dS m (gN i)):=im (Ii hN hi hx he hs hf) λE σ H h=>by
 obtain⟨r,mu,S,d,o,h1,h2,n,b⟩:=sR h;refine⟨r,mu,S,d,o,h1,h2,n,λv H' mu' j c k=>?_⟩;obtain⟨r2,a,w,u,s,t,g,f,l,q,p⟩:=b v H' mu' j c k;cases q;exact p _ H' a (.refl _ _) (g.set l) f
def FM(i:Nat)(f:FN)(m:FE):FS:=λr S=>match r[i]? with
 |some (Z d)=>(m r S).bind λp=>(f [d,p.1] p.2).bind λq=>Z (.nx,r.set i (Z q.1),q.2)
 |_=>Y
theorem Jb(i:Nat){x:Str}{e:Expr}{m:FE}{op:PR}{f:FN}{pos':Pos}(hN:X.N.Nodup)(hi:X.N[i]? = some x)(hx:vE X.env.scope x)(he:ME X e m)(ho:M1 X op (r2 X.K f))(hf:autoParam (X.fn x=true\/X.env.scope.names.lookup x=some .local) au0):
  MS X (.AugAssign (.Name x pos') op e pos) (FM i f m):=im (Io hN hi hx he ho hf) <| by
 rintro E σ H ⟨r,mu,S,z,B,A,he,l,a,hc⟩;unfold FM at a;split at a
 ·rename_i d e;obtain⟨⟨j,g⟩,k,a⟩:=Sa a;obtain⟨⟨y,F⟩,w,a⟩:=Sa a;cases a;obtain⟨v,t,n⟩:=he.val i d e;refine⟨v,t,r,mu,S,j,g,he,l,k,λC H1 mu1 c p u=>?_⟩;exact⟨mu1,g,[d,j],y,_,.cons (n.ext c) (.cons p .nil),u,w,λD s b h q o=>hc _ s b (c.trans h) (((he.ext c).ext h).set q) o⟩
 ·cases a
end
noncomputable def qp (c:FT)(b:FS):Nat->FS
 |0=>λ_ _=>none
 | n+1=>fun r S=>(c r S).bind fun p=>if p.1=true then (b r p.2).bind fun q=>match q.1 with
   | .nx=>qp c b n q.2.1 q.2.2
   | .ct=>qp c b n q.2.1 q.2.2
   | .bk=>some (.nx,q.2.1,q.2.2)
   | .rt d=>some (.rt d,q.2.1,q.2.2)
  else some (.nx,r,p.2)
theorem HB{K:Fg1}{c:FT}{b:FS}{n:Nat}{E:jx}{σ:L2.St}{H:Hp}(h:xj K (qp c b n) E σ H):AX (AZ K c) (xj K b) E σ H:=by
 refine⟨λm a H'=>xj K (qp c b m) E a H',⟨n,h⟩,λm t H1 q=>?_⟩;obtain⟨r,mu,S,f,A,w,u,G,i,hc⟩:=q;cases m with
 |zero=>cases i
 |succ m=>
  obtain⟨⟨k,z⟩,F,i⟩:=Sa i;refine⟨r,mu,S,k,z,u,G,F,λH2 e o D=>?_⟩;cases k with
  |false=>
   cases i;exact hc t H2 e o (u.ext o) D
  |true=>
   obtain⟨⟨B,p,s⟩,I,i⟩:=Sa i;have C:∀{a H' mu'},Ext e mu' H2 H'->fH K H' mu' p a->Sim K H' mu' s->qp c b m p s=Z (f,A,w)->xj K (qp c b m) E a H':=λ{a H' mu'} x g l i=>by
    refine⟨p,mu',s,f,A,w,g,l,i,?_⟩;cases f with
    |nx=>exact λj H2 e y=>hc j H2 e ((o.trans x).trans y)
    |bk=>exact λj H2 e y=>hc j H2 e ((o.trans x).trans y)
    |ct=>exact λj H2 e y=>hc j H2 e ((o.trans x).trans y)
    |rt d=>exact λv H2 e y=>hc v H2 e ((o.trans x).trans y)
   refine⟨λa H'=>xj K (qp c b m) E a H',λa H' q=>⟨m,bB _,q⟩,r,e,z,B,p,s,u.ext o,D,I,?_⟩;cases B with
   |nx=>exact λa H' mu' x g l=>C x g l i
   |ct=>exact λa H' mu' x g l=>C x g l i
   |bk=>cases i;exact λa H' mu' x g l=>hc a H' mu' (o.trans x) g l
   |rt d=>cases i;exact λv H' mu' x p l=>hc v H' mu' (o.trans x) p l
theorem Ce{X:Cx}{pos:Pos}(n:Nat){c:Expr}{a:List dE}{t:FT}{b:FS}(hp:P3 (PB X.prog X.w) X.A X.env X.xe)(hc:MT X c t)(hb:Am X a b):MS X (.While c a [] pos) (qp t b n):=
 im (Bz hp hc hb) λ_ _ _=>HB
structure An where
 items:List D
 chk:List (Nat×List D)
noncomputable def oR (S:Sto):List (Nat×List D)->Bool
 |[]=>true
 | (n,xs)::c=>(match S[n]? with
   |some (.lst ys)=>D.sames ys xs
   |_=>false)&&oR S c
def N8(K:Fg1)(j:It)(ao:An)(mu:List dk)(H:Hp):Prop:=∀i H1 mu1 S1,tU mu mu1 H H1->Sim K H1 mu1 S1->oR S1 ao.chk=M ->
 (∀d,ao.items[i]?=Z d->j.go i H1 /\ ∀x H2,j.yld i H1 x H2->Ext mu1 mu1 H1 H2/\Sim K H2 mu1 S1/\eU K H2 mu1 d x)/\(ao.items.length<=i->j.stop i H1)
abbrev FI:=Ev->Sto->Option (An×Sto)
inductive K6 (K:Fg1)(m:FI)(σ:L2.St)(H:Hp)(R:It->Hp->Prop):Prop
 |mk (r:Ev) (mu:List dk) (S:Sto) (ao:An) (S':Sto) (he:fH K H mu r σ) (hs:Sim K H mu S) (hm:m r S=some (ao,S')) (hc:∀j H' mu',Ext mu mu' H H'->N8 K j ao mu' H'->Sim K H' mu' S'->R j H')
abbrev MI(X:Cx)(tg iter:Expr)(m:FI):Prop:=PI X tg iter (K6 X.K m)
theorem oI{X:Cx}{tg e:Expr}{t t':TI}(h:PI X tg e t)(i:∀ σ H R,t' σ H R->t σ H R):PI X tg e t':=λag s σ H R I q=>h ag s σ H R I (i σ H R q)
theorem Ls{X:Cx}{tg e:Expr}{t t':TI}(h:PI X tg e t)(h':PI X tg e t'):PI X tg e (fun σ H R=>t σ H R\/t' σ H R):=λag s σ H R I q=>q.elim (h ag s σ H R I) (h' ag s σ H R I)
noncomputable def jt (c:List (Nat×List D))(g:FG)(b:FS):List D->FS
 |[]=>λr S=>if oR S c=true then some (.nx,r,S)else none
 | d::ds=>fun r S=>if oR S c=true then (g d r S).bind fun p=>(b p.1 p.2).bind fun q=>match q.1 with
   | .nx=>jt c g b ds q.2.1 q.2.2
   | .ct=>jt c g b ds q.2.1 q.2.2
   | .bk=>some (.nx,q.2.1,q.2.2)
   | .rt v=>some (.rt v,q.2.1,q.2.2)
  else none
noncomputable def fF (m:FI)(g:FG)(b:FS):FS:=λr S=>(m r S).bind λp=>jt p.1.chk g b p.1.items r p.2
theorem np{α:Type}{l:List α}{i:Nat}{d:α}{ds:List α}(h:l.drop i=d::ds):l[i]?=Z d/\l.drop (i+1)=ds:=by
 have h1:l[i]?=Z d:=by
  have:=congrArg (·[0]?) h;simpa using this
 refine⟨h1,?_⟩;rw[<- List.drop_drop,h];rfl
inductive N5 (K:Fg1)(mu1:List dk)(H1:Hp)(c:List (Nat×List D))(g:FG)(b:FS)(f:Fl)(r':Ev)(S':Sto)(L:List D)(σ':L2.St)(H':Hp):Prop
 |mk (r2:Ev) (mu2:List dk) (S2:Sto):Ext mu1 mu2 H1 H'->fH K H' mu2 r2 σ'->Sim K H' mu2 S2->jt c g b L r2 S2=some (f,r',S')->N5 K mu1 H1 c g b f r' S' L σ' H'
theorem FL{K:Fg1}{m:FI}{g:FG}{b:FS}{E:jx}{σ:L2.St}{H:Hp}(h:xj K (fF m g b) E σ H):K7 (K6 K m) (HR K g) (xj K b) E σ H:=by
 obtain⟨r,mu,S,f,Q,av,N,X,B,hc⟩:=h;obtain⟨⟨ao,P⟩,W,B⟩:=Sa B;refine⟨r,mu,S,ao,P,N,X,W,λj H1 mu1 z V s1=>?_⟩;refine⟨λi k t H'=>k=(ao.items.drop i).length/\N5 K mu1 H1 ao.chk g b f Q av (ao.items.drop i) t H',⟨_,O,r,mu1,P,.refl _ _,N.ext z,s1,B⟩,?_⟩;rintro i k G H2 ⟨rfl,r2,l,S2,p,u,L,a⟩;cases hl:ao.items.drop i with
 |nil=>
  left;rw[hl]at a;rw[jt]at a;dsimp only at a;split at a
  ·rename_i ok;cases a;refine⟨(V i H2 l _ p.w L ok).2 (List.drop_eq_nil_iff.mp hl),?_⟩;exact hc G H2 l (z.trans p) u L
  ·cases a
 |cons d ds=>
  right;rw[hl]at a;obtain⟨hi,T⟩:=np hl;rw[jt]at a;dsimp only at a;split at a
  ·rename_i ok;obtain⟨⟨R,U⟩,e3,a⟩:=Sa a;obtain⟨⟨aq,F,C⟩,e4,a⟩:=Sa a;obtain⟨go,yl⟩:=(V i H2 l _ p.w L ok).1 d hi;refine⟨go,N5 K mu1 H1 ao.chk g b f Q av ds,?_,λx H3 y=>?_⟩
   ·intro t H' h5;exact⟨ds.length,bB _,(congrArg List.length T).symm,T.symm ▸ h5⟩
   ·obtain⟨s,wq,au⟩:=yl x H3 y;refine⟨r2,l,S2,d,R,U,u.ext s,wq,au,e3,fun σ4 H4 D A I s4=>?_⟩;refine⟨R,D,U,aq,F,C,I,s4,e4,?_⟩;cases aq with
    |nx=>exact λo w c n e q=>⟨F,c,C,(p.trans s).trans (A.trans n),e,q,a⟩
    |ct=>exact λo w c n e q=>⟨F,c,C,(p.trans s).trans (A.trans n),e,q,a⟩
    |bk=>cases a;exact λo w c n e q=>hc o w c ((z.trans p).trans (s.trans (A.trans n))) e q
    |rt v=>cases a;exact λv5 w c n r5 q=>hc v5 w c ((z.trans p).trans (s.trans (A.trans n))) r5 q
  ·cases a
theorem Ja{X:Cx}{pos:Pos}{tg iter:Expr}{a:List dE}{m:FI}{g:FG}{b:FS}(hp:P3 (PB X.prog X.w) X.A X.env X.xe)(hc:X.calm=M)(hi:MI X tg iter m)(hg:MG X tg g)(hb:Am X a b)(hs:autoParam (∀x,Qc iter X.env x=pure x) du0):MS X (.For tg iter a [] pos) (fF m g b):=im (Im hp hc hi hg hb hs) λ_ _ _=>FL
def hB(n:Nat)(ds:List D):Ev:=ds.map Z++aP (n-ds.length) Y
noncomputable def gM (n:Nat)(b:FS):FN:=λds S=>(b (hB n ds) S).bind λp=>match p.1 with
 | .rt d=>some (d,p.2.2)
 | .nx=>some (.non,p.2.2)
 |_=>none
theorem yZ{K:Fg1}{H:Hp}{mu:List dk}{ds:List D}{vs:List V}(N:List Str)(h:dX K H mu ds vs):fH K H mu (hB N.length ds) (L2.jB N vs):=by
 refine⟨?_,λi d e=>?_⟩
 ·unfold hB L2.jB;rw[lA1,lA1,lM1,lM1,lR1,lR1,h.length]
 ·unfold hB at e;unfold L2.jB;by_cases hi:i<ds.length
  ·rw[gL1 (by rw[lM1];exact hi),gP1]at e;obtain⟨f,a,b⟩:=Sb e;cases b;obtain⟨v,c,r⟩:=h.get a;refine⟨v,?_,r⟩;rw[gL1 (by rw[lM1,<- h.length];exact hi),gP1,c];rfl
  ·rw[gR1 (by rw[lM1];lia)]at e;have:=gM1 e;rw[bC]at this;cases this.2
theorem L6{P:dn}{w:dr}{K:Fg1}{mg:Str->Option di}{base:dB}{x c:Str}{st:dE}{f:dk}{fd:dD}{N ps:List Str}{k:Nat}{b:FS}(F:As K x c st f fd)(S:gR N ps (d5 st))(i:∀(e:di) (A:dq) (a:List Env) (s:dj) (H:Hp) (E:XK),fQ k (A.deeper (Qr c (d5 st) s.heap.objs.size f e)) ->
   Am (nM vF P w K mg base N c (d5 st) f e A a s H E).nox (fA st) b):j6 P w K mg base vF (k+1) f fd ps (A8 K ps.length (gM N.length b)):=by
 refine As.ok F S (λvs H Q E h=>h.1) λe A a s H vs Q E p j=>⟨_,i e A a s H E p,?_⟩;obtain⟨_,mu,St,ds,d,u,h1,h2,g,l⟩:=j;unfold gM at g;obtain⟨⟨m,o,q⟩,n,g⟩:=Sa g;refine⟨_,mu,St,m,o,q,yZ N h1,h2,n,?_⟩;cases m with
 |nx=>cases g;exact λr H' mu' x t s=>l .non H' mu' x .non s
 |rt d=>cases g;exact l
 |bk=>cases g
 |ct=>cases g
noncomputable def jU(cells:List (Str×dk)):List (Str×Qq)->List (Str×dk)->Option (List (Str×dk))
 |[],acc=>Z acc
 |(n,k)::r,acc=>if k == .free then(cells.lookup n).bind λc=>jU cells r ((n,c)::acc)else jU cells r acc
theorem wK{env:Env}(f:Str×Qq->List (Str×dk)->Sem (ForInStep (List (Str×dk))))(hf:∀n k d,f (n,k) d=if k == .free then(do let c<-cellOf env n;pure (.yield ((n,c)::d)))else pure (.yield d)):
  ∀(a:List (Str×Qq)) (acc b:List (Str×dk)),jU env.cells a acc=Z b->forIn a acc f=(pure b:Sem (List (Str×dk)))
 |[],acc,b,h=>by cases h;rfl
 |(n,k)::r,acc,b,h=>by
  rw[List.forIn_cons,hf];unfold jU at h;split at h
  ·rename_i g;rw[ak g];obtain⟨c,e,h⟩:=Sa h;have:cellOf env n=pure c:=by unfold cellOf;rw[e]
   rw[this,pure_bind,pure_bind];exact wK f hf r _ b h
  ·rename_i g;rw[aj g,pure_bind];exact wK f hf r _ b h
theorem Dj{scope:dF}{env:Env}{cl:List (Str×dk)}(h:jU env.cells scope.names []=Z cl):closureFor scope env=pure cl:=by
 simp only[closureFor];rw[wK (env:=env) _ (λn k a=>by cases hk:k == NameKind.free<;>simp[hk]) scope.names [] cl h];rfl
theorem wJ{a:List (Str×dk)}:∀{b:List (Str×Qq)} {acc d:List (Str×dk)},jU a b acc=Z d->(∀x c,acc.lookup x=Z c->a.lookup x=Z c) -> ∀x c,d.lookup x=Z c->a.lookup x=Z c
 |[],acc,d,h,ha=>by cases h;exact ha
 |(n,k)::r,acc,d,h,ha=>by
  unfold jU at h;split at h
  ·obtain⟨c,e,h⟩:=Sa h;refine wJ h λx f q=>?_;rw[bD]at q;split at q
   ·rename_i g;cases q;rw[RW.mp g];exact e
   ·exact ha x f q
  ·exact wJ h ha
theorem nZ{b:List (Str×dk)}{x:Str}:∀{a:List (Str×Qq)} {acc d:List (Str×dk)},jU b a acc=Z d->(a.lookup x=Z .free\/(acc.lookup x).isSome=M)->(d.lookup x).isSome=M
 |[],acc,d,h,ha=>by
  cases h;rcases ha with q|q
  ·cases q
  ·exact q
 |(n,k)::r,acc,d,h,ha=>by
  unfold jU at h;split at h
  ·obtain⟨c,e,h⟩:=Sa h;refine nZ h ?_;rcases ha with q|q
   ·rw[bD]at q;split at q
    ·rename_i f;right;rw[bD,f];rfl
    ·exact .inl q
   ·right;rw[bD];split
    ·rfl
    ·exact q
  ·rename_i g;refine nZ h ?_;rcases ha with q|q
   ·rw[bD]at q;split at q
    ·cases q;exact absurd O g
    ·exact .inl q
   ·exact .inr q
theorem gQ{x:Str}{c:dk}:∀{a:List (Str×Qq)} {n:Nat} {acc:List (Str×dk)},(Qs n a acc).lookup x=Z c->(n<=c/\(x,c)∈Qs n a [])\/acc.lookup x=Z c
 |[],_,_,h=>.inr h
 |(y,k)::r,n,acc,h=>by
  unfold Qs at h ⊢;split at h
  ·rename_i b;rw [if_pos b];have app:∀ (a:List (Str×Qq)) (m:Nat) (acc:List (Str×dk)),Qs m a acc=Qs m a []++acc:=by
    intro a
    induction a with
    |nil=>intro m acc;rfl
    |cons p r ih=>
     obtain⟨z,q⟩:=p;intro m acc;unfold Qs;split
     ·rw[ih _ ((z,m)::acc),ih _ [(z,m)],bE];rfl
     ·exact ih m acc
   rcases gQ h with⟨h1,h2⟩|h1
   ·refine .inl ⟨by lia,?_⟩;rw[app];exact aH _ h2
   ·rw[bD]at h1;split at h1
    ·rename_i d;cases h1;refine .inl ⟨nR1 _,?_⟩;rw[app,RW.mp d];exact mA1 _ mS1
    ·exact .inr h1
  ·rename_i b;rw[aj b];exact gQ h
theorem qg{x:Str}{c:dk}{n:Nat}{acc:List (Str×dk)}{a:List (Str×Qq)}(hx:a.lookup x=Z .cell)(h:(Qs n a acc).lookup x=Z c):n<=c:=by
 have app:∀(a:List (Str×Qq)) (m:Nat) (acc:List (Str×dk)),Qs m a acc=Qs m a []++acc:=by
  intro a
  induction a with
  |nil=>intro m acc;rfl
  |cons p r ih=>
   obtain⟨z,q⟩:=p;intro m acc;unfold Qs;split
   ·rw[ih _ ((z,m)::acc),ih _ [(z,m)],bE];rfl
   ·exact ih m acc
 rw[app,List.lookup_append]at h;have q:=Qt a n [] (.inl hx);obtain⟨b,e⟩:=aQ.mp q;rw[e]at h;cases h;rcases gQ e with⟨h1,_⟩|h1
 ·exact h1
 ·cases h1
theorem kU {aq:Model}{A:dq}{E:di->dj->Prop}{s:dj}{scope:dF}{globals:dk}{c:List (Str×dk)}{qual:Str}{func:Option dk}{code:di}{env:Env}{b:dk}{Q:Env->dj->Prop}
  (d:Q {scope,locals:=s.heap.objs.size,globals,cells:=Qs (s.heap.objs.size+1) scope.names c,qual,func,code:=env.code,frame:=env.frame,builtins:=env.builtins}
   {s with heap:=pushCells (s.heap.push {cls:=.type "dict",data:=.dict #[]}) scope.names}):
  dz aq A (newFunctionEnv scope globals c [] qual func code (Z env) b) Q E s:=by
 simp only[newFunctionEnv,Option.isSome_some,QC];refine wB1 (wpAny_alloc ?_);refine wB1 (wpAny_layCells _ (λname a cells=>by cases hkc:a == Q5<;>simp[hkc]) _ _ _ _ ?_);rw[show({s with heap:=s.heap.push {cls:=.type "dict",data:=.dict #[]}}:dj).heap.objs.size=s.heap.objs.size+1 from hZ1 ..];refine wB1 ?_;rw[List.forIn_nil];exact wP1 (wP1 d)
noncomputable def cxC(X:Cx)(scope:dF)(cl:List (Str×dk))(T:List Str)(keep:List Nat)(s:dj)(H:Hp)(fp:List dk):Cx where
 prog:=X.prog
 w:=X.w
 K:=X.K
 mg:=X.mg
 base:=X.base
 A:=X.A
 N:=T++keep.map λi=>X.N.getD i (QG "")
 s₀:=s
 H₀:=H
 env:=compEnvC scope (Qs (s.heap.objs.size+1) scope.names cl) s.heap.objs.size X.env
 outer:=X.stack
 stack:=X.stack
 ex:=fp
 fn:=λx=>scope.names.lookup x == Z .cell
 calm:=X.calm
 pn:=[]
 xe:=λ_ _=>False
def sZ(k:Nat)(keep:List Nat)(σ:L2.St):L2.St:=aP k Y++keep.map λi=>(σ[i]?).join
theorem jP{env:Env}{x:Str}:∀ {a:List (Str×Qq)},
  (a.map λ(n,k)=>if(k == NameKind.free&&env.scope.kind == .function&&env.kindOf n == Z .cell)then(n,Q5)else(n,k)).lookup x =
   (a.lookup x).map λk=>if(k == NameKind.free&&env.scope.kind == .function&&env.kindOf x == Z .cell)then Q5 else k
 |[]=>rfl
 |(n,k)::r=>by
  show List.lookup x ((if(k == NameKind.free&&env.scope.kind == .function&&env.kindOf n == Z .cell)=M then(n,Q5)else(n,k))::_)=_;cases hx:x == n with
  |true=>
   have e:=RW.mp hx;subst e;by_cases hc:(k == NameKind.free&&env.scope.kind == .function&&env.kindOf x == Z .cell)=M
   ·rw[ak hc,bD,hx,bD,hx];simp only[oP1,ak hc]
   ·rw[aj hc,bD,hx,bD,hx];simp only[oP1,aj hc]
  |false=>
   have ih:=@jP env x r;by_cases hc:(k == NameKind.free&&env.scope.kind == .function&&env.kindOf n == Z .cell)=M
   ·rw[ak hc,bD,hx,bD,hx];exact ih
   ·rw[aj hc,bD,hx,bD,hx];exact ih
structure KQ (X:Cx)(scope:dF)(T:List Str)(keep:List Nat):Prop where
 kind:scope.kind = .function
 names:∀x∈scope.names,x.2 = .local->scope.names.lookup x.1=some .local
 free:∀i∈keep,∃x,X.N[i]?=some x/\scope.names.lookup x=some .free/\(X.env.kindOf x=some .cell\/X.env.kindOf x=some .free)/\(x,Q5)∉scope.names
theorem uR{X:Cx}{ag:List (dk×Obj)}{σ:L2.St}{H:Hp}{s:dj}{scope:dF}{w:List (Str×dk)}{T:List Str}{keep:List Nat}{fp:List dk}(I:Inv X ag σ H s)(C:KQ X scope T keep)(A:jU X.env.cells scope.names []=some w)(hf:∀b∈fp,kH X ag H b)(L:∀b∈fp,∃o,s.heap.get? b=some o):
  Inv (cxC X scope w T keep s H fp) [] (sZ T.length keep σ) H {s with heap:=pushCells (s.heap.push {cls:=.type "dict",data:=.dict #[]}) scope.names}:=by
 have kept:∀b o,s.heap.get? b=Z o->(pushCells (s.heap.push {cls:=.type "dict",data:=.dict #[]}) scope.names).get? b=Z o:=λb o e=>Q6 _ _ b o (hP1 _ e);have B:=cellsFrom_ok scope.names (s.heap.push {cls:=.type "dict",data:=.dict #[]}) (s.heap.objs.size+1) [] ⟨λ_ _ V=>(nomatch V),List.Pairwise.nil⟩ (by rw[hZ1];exact nR1 _);rw[hZ1]at B;have E:=wJ A (λx c q=>by cases q)
 -- a cell of the block: its own or an elder one
 have d:∀x c,(Qs (s.heap.objs.size+1) scope.names w).lookup x=Z c->(s.heap.objs.size+1<=c/\(x,c)∈Qs (s.heap.objs.size+1) scope.names [])\/X.env.cells.lookup x=Z c:=λx c h=>by
  rcases gQ h with h1|h1
  ·exact .inl h1
  ·exact .inr (E x c h1)
 have g:∀x c,X.env.cells.lookup x=Z c->c<s.heap.objs.size:=λx c e=>by
  obtain⟨v,z⟩:=I.cell x c e;exact z.lt
 have t:∀b∈fp,b<s.heap.objs.size:=λb l=>by
  obtain⟨o,e⟩:=L b l;exact hL1 e
 have fst:∀b∈fp,b∉frs X.stack:=λb l z=>by
  rcases aF.mp (I.stkSub b z)with q|q
  ·exact(hf b l).2.1 q
  ·exact(hf b l).2.2.1 q
 have kindOf:∀x,(cxC X scope w T keep s H fp).env.kindOf x=(scope.names.lookup x).map λk=>if(k == NameKind.free&&X.env.scope.kind == .function&&X.env.kindOf x == Z .cell)then Q5 else k:=λx=>jP
 refine⟨⟨I.ok.mod,C.kind,I.ok.glob,I.ok.blt,nR1 _,λx y c h1 h2=>?_,λx D=>?_,λx c h1 h2=>?_,I.ok.hd,I.ok.frames,.inl O,λb l=>⟨nN1 (t b l),λx c h z=>?_⟩,λb o e=>I.bs b o e,aD I.ok.bsz I.sz,λb o e l=>?_,fst,I.stack,I.stkFree⟩,
  rfl,I.bare,Un.kept kept,⟨λ_=>Y,(Heap.Ns.new s.heap (.type "dict")).keeps (Q6 _ _),λi x v h1 h2 h3=>?_⟩,λx c h=>?_,I.hok.fresh (nR1 _),λx c h=>?_,λp W=>absurd (show p∈([]:List (dk×Obj))from W) (by simp),I.hok.kept kept,?_⟩
 ·rcases d x c h1 with⟨a1,a2⟩|a1<;>rcases d y c h2 with⟨b1,b2⟩|b1
  ·exact name_of_addr B.apart a2 b2
  ·exact absurd (bF (bG a1) (g y c b1)) (aA _)
  ·exact absurd (bF (bG b1) (g x c a1)) (aA _)
  ·exact I.ok.inj x y c a1 b1
 ·have F:scope.names.lookup x=some .cell\/scope.names.lookup x=some .free:=by
   rw[kindOf x]at D;cases e:scope.names.lookup x with
   |none=>rw[e]at D;rcases D with z|z<;>cases z
   |some k=>
    rw[e]at D;simp only[oP1]at D;cases k<;>simp_all
  have:((Qs (s.heap.objs.size+1) scope.names w).lookup x).isSome=M:=by
   rcases F with z|z
   ·exact Qt _ _ _ (.inl z)
   ·exact Qt _ _ _ (.inr (nZ A (.inl z)))
  exact aQ.mp this
 ·have f:scope.names.lookup x=Z .cell:=by simpa[cxC]using h1
  have:=qg f h2;exact aD (aX _) this
 ·subst z;rcases d x c h with⟨a1,_⟩|a1
  ·exact absurd (bF (bG a1) (t c l)) (aA _)
  ·exact(hf c l).2.2.2.2.1 x c a1 O
 ·rcases(hf b l).2.2.2.1 with z|z
  ·exact I.ok.noex b o e z
  ·exact absurd (nL1 (hL1 e) (aD I.ok.bsz z)) (aA _)
 ·-- a name of the block that has a value:one of the outer text's
  have hi:T.length<=i:=by
   refine a0 λhi=>?_;unfold sZ at h2;rw[gL1 (by rw[lR1];exact hi),aS]at h2;split at h2<;>cases h2
  unfold sZ at h2;rw[gR1 (by rw[lR1];exact hi),lR1,gP1]at h2;obtain⟨j,N,h2⟩:=Sb h2;have f:X.N.getD j (QG "")=x:=by
   have f:(T++keep.map λi=>X.N.getD i (QG ""))[i]?=Z x:=h1;rw[gR1 hi,gP1,N]at f;exact Option.some.inj f
  obtain⟨y,aq,P,ky,wq⟩:=C.free j (gM1 N);have K:y=x:=by rw[<- f,bH,aq];rfl
  subst K;have G:σ[j]?=Z (Z v):=by
   cases e:σ[j]? with
   |none=>rw[e]at h2;cases h2
   |some o=>rw[e]at h2;cases h2;rfl
  obtain⟨m,hn,hl⟩:=I.loc;obtain⟨u,ru,S⟩:=hl j y v aq G (by
   rcases ky with z|z
   ·exact .inr (.inl z)
   ·exact .inr (.inr z))
  refine⟨u,ru,?_⟩;rcases S with⟨z,_⟩|⟨_,c,au,Q⟩
  ·rcases ky with q|q<;>(rw[z]at q;cases q)
  ·right;refine⟨?_,c,?_,Q.keeps kept⟩
   ·rw[kindOf,P];simp only[oP1];split
    ·exact .inl O
    ·exact .inr O
   ·obtain⟨c',R⟩:=aQ.mp (Qt scope.names (s.heap.objs.size+1) w (.inr (nZ A (.inl P))):((Qs (s.heap.objs.size+1) scope.names w).lookup y).isSome=M);have av:(Qs (s.heap.objs.size+1) scope.names w).lookup y=Z c':=R;rcases d y c' av with⟨a1,a2⟩|a1
    ·-- an own cell of that name:its kind would be cell
     exfalso;have:∀(names:List (Str×Qq)) (n:Nat),(y,c')∈Qs n names []->(y,Q5)∈names:=by
      have app:∀(names:List (Str×Qq)) (m:Nat) (acc:List (Str×dk)),Qs m names acc=Qs m names []++acc:=by
       intro names
       induction names with
       |nil=>intro m acc;rfl
       |cons p r ih=>
        obtain⟨z,q⟩:=p;intro m acc;unfold Qs;split
        ·rw[ih _ ((z,m)::acc),ih _ [(z,m)],bE];rfl
        ·exact ih m acc
      intro names
      induction names with
      |nil=>intro n h;cases h
      |cons p r ih=>
       obtain⟨z,q⟩:=p;intro n h;unfold Qs at h;split at h
       ·rename_i U;rw[app]at h;rcases aG.mp h with h|h
        ·exact mC1 _ (ih _ h)
        ·have:(y,c')=(z,n):=by simpa using h
         cases this;have ao:q=Q5:=by simpa using U
         subst ao;exact mS1
       ·exact mC1 _ (ih _ h)
     exact wq (this _ _ a2)
    ·rw[au]at a1;cases a1;exact av
 ·rcases d x c h with⟨a1,a2⟩|a1
  ·exact⟨_,(B.empty x c a2).1⟩
  ·obtain⟨v,z⟩:=I.cell x c a1;exact⟨v,z.keeps kept⟩
 ·rcases d x c h with⟨a1,a2⟩|a1
  ·exact I.hok.fresh (bG a1)
  ·exact I.freeC x c a1
 ·show(sZ T.length keep σ).length=(T++keep.map λi=>X.N.getD i (QG "")).length;unfold sZ;rw[lA1,lA1,lR1,lM1,lM1]
noncomputable def lA(p:Pos)(tg:Expr)(ifs:List Expr)(it:di)(env:Env)(emit:Sem Unit)(c:Code):Sem PySem.Fin:=do
 PX p
 match<-P5 it with
 |none=>pure (.done .next)
 |some v=>
  P6 tg it v
  PP tg env v
  let mut ok:=M
  for c in ifs do
   if ok then ok<-isTrue c env (eval c env)
  if ok then emit
  again c
def py(elt:Expr)(acc:di)(env:Env):Sem Unit:=do let _<-call (.builtin "list.append") [acc,<- eval elt env]
noncomputable def rq(e:Expr)(iter:Expr)(acc:di)(env:Env):Sem Unit:=do
 let x<-eval iter env
 PX iter.pos
 let x<-Qc iter env x
 let _<-runOwn (.compStart e 1 (<- PV [x] (P7 x)) acc env) env
theorem AR(elt tg iter:Expr)(ifs:List Expr)(scope:dF)(pos:Pos)(it acc:di)(env:Env):
  Q7 (.ListComp elt [⟨tg,iter,ifs,0⟩] scope pos) 0 it acc env=lA iter.pos tg ifs it env (py elt acc env) (.compLoop (.ListComp elt [⟨tg,iter,ifs,0⟩] scope pos) 0 it acc env):=by rfl
noncomputable def GY(p:Pos)(tg:Expr)(ifs:List Expr)(it:di)(env:Env)(e iter:Expr)(acc:di)(c:Code):Sem PySem.Fin:=do
 PX p
 match<-P5 it with
 |none=>pure (.done .next)
 |some v=>
  P6 tg it v
  PP tg env v
  let mut ok:=M
  for c in ifs do
   if ok then ok<-isTrue c env (eval c env)
  if ok then
   let x<-eval iter env
   PX iter.pos
   let x<-Qc iter env x
   let _<-runOwn (.compStart e 1 (<- PV [x] (P7 x)) acc env) env
  again c
theorem Ep(p:Pos)(tg:Expr)(ifs:List Expr)(it:di)(env:Env)(e iter:Expr)(acc:di)(c:Code):GY p tg ifs it env e iter acc c=lA p tg ifs it env (rq e iter acc env) c:=by
 unfold GY lA rq;simp only[bind_assoc,pure_bind]
theorem HG(elt tg iter tg2 iter2:Expr)(ifs ifs2:List Expr)(scope:dF)(pos:Pos)(it acc:di)(env:Env):
  Q7 (.ListComp elt [⟨tg,iter,ifs,0⟩,⟨tg2,iter2,ifs2,0⟩] scope pos) 0 it acc env =
   lA iter.pos tg ifs it env (rq (.ListComp elt [⟨tg,iter,ifs,0⟩,⟨tg2,iter2,ifs2,0⟩] scope pos) iter2 acc env) (.compLoop (.ListComp elt [⟨tg,iter,ifs,0⟩,⟨tg2,iter2,ifs2,0⟩] scope pos) 0 it acc env):=by
 rw[<- Ep];rfl
theorem HF(elt tg iter tg2 iter2:Expr)(ifs ifs2:List Expr)(scope:dF)(pos:Pos)(it acc:di)(env:Env):
  Q7 (.ListComp elt [⟨tg,iter,ifs,0⟩,⟨tg2,iter2,ifs2,0⟩] scope pos) 1 it acc env =
   lA iter2.pos tg2 ifs2 it env (py elt acc env) (.compLoop (.ListComp elt [⟨tg,iter,ifs,0⟩,⟨tg2,iter2,ifs2,0⟩] scope pos) 1 it acc env):=by rfl
def pS(X:Cx)(ifs:List Expr)(t:TT):Prop:=
 ∀(ag:List (dk×Obj)) (s:dj) (σ:L2.St) (H:Hp) (Q:Bool->Hp->Prop),Inv X ag σ H s->t σ H Q ->
  dz (PB X.prog X.w) X.A (forIn ifs M λc r=>if r=M then do let ok<-isTrue c X.env (eval c X.env);pure (ForInStep.yield ok)else pure (ForInStep.yield r)) (TP X ag σ Q) X.xe s
theorem BE{X:Cx}:pS X [] (fun σ H Q=>Q M H):=λag s σ H Q I h=>wpAny_tests_nil ⟨H,I,h⟩
theorem BD{X:Cx}{c:Expr}{t:TT}(h:PT X c t):pS X [c] t:=λag s σ H Q I q=>wpAny_tests_one (h ag s σ H Q I q)
def PU(X:Cx)(m:Sem Unit)(t:TS):Prop:=
 ∀(ag:List (dk×Obj)) (s:dj) (σ:L2.St) (H:Hp) (E:jx),Inv X ag σ H s->t E σ H->dz (PB X.prog X.w) X.A m (λ_ s'=>∃ σ' H',Inv X ag σ' H' s'/\E.nx σ' H') X.xe s
theorem mW{X:Cx}(hx:X.xe=fun _ _=>False)(hc:X.calm=true){elt:Expr}{c:List Comprehension}{scope:dF}{pos p:Pos}{d:Nat}{tg:Expr}{ifs:List Expr}{acc:di}{emit:Sem Unit}{ao:It}{fp:List dk}{it:dk}{aq:Nat->dB->Prop}{g:TG}{ti:TT}{tb:TS}(eq:Q7 (.ListComp elt c scope pos) d (.ref it) acc X.env=lA p tg ifs (.ref it) X.env emit (.compLoop (.ListComp elt c scope pos) d (.ref it) acc X.env))(T:wT X.prog X.w X.K tg ao fp it aq)(hg:PG X tg g)(hi:pS X ifs ti)(he:PU X emit tb){ag:List (dk×Obj)}{s:dj}{σ:L2.St}{H:Hp}{D:jx}(I:Inv X ag σ H s)(st:aq 0 s.heap)(V:∀b∈fp,kH X ag H b)(h:∃W:Nat->Nat->L2.St->Hp->Prop,(∃m,W 0 m σ H) /\ ∀i m σ H,W i m σ H ->
   (ao.stop i H/\D.nx σ H)\/(ao.go i H /\ ∃N:L2.St->Hp->Prop,(∀a H',N a H' -> ∃L,L<m/\W (i+1) L a H') /\ ∀x H',ao.yld i H x H'->g x σ H' λy H2=>ti y H2 λb w=>if b=M then tb {D with nx:=N} y w else N y w)):
  dA (PB X.prog X.w) X.A (.compLoop (.ListComp elt c scope pos) d (.ref it) acc X.env) (λr s'=>match r with | .ok _=>∃a H',Inv X ag a H' s'/\D.nx a H' | .error _=>False) s:=by
 obtain⟨W,⟨m0,w0⟩,K⟩:=h;have j:∀{H':Hp},(∀b∈fp,H' b=Y) -> ∀b∈fp,kH X ag H' b:=λhn b l=>⟨hn b l,(V b l).2⟩;refine codeAny_loop O (λn s'=>∃i a H',Inv X ag a H' s'/\aq i s'.heap/\(∀b∈fp,H' b=Y)/\W i n a H') ?_ m0 ⟨0,σ,H,I,st,λb l=>(V b l).1,w0⟩;rintro n av ⟨i,k,w,au,B,F,w3⟩;show dz _ _ ((Q7 (.ListComp elt c scope pos) d (.ref it) acc X.env).onRaise (λx=>do noteFrame x X.env;theTreesLotGoes x)) _ _ av;refine wpAny_noted ?_;rw[eq];have no:∀{α:Type} {m:Sem α} {Q:α->dj->Prop} {s:dj} {E:di->dj->Prop},dz (PB X.prog X.w) X.A m Q X.xe s->dz (PB X.prog X.w) X.A m Q E s:=λh=>by
  rw[hx]at h;exact PD h (λ_ _ q=>q) λ_ _ q=>q.elim
 unfold lA;refine wB1 (PZ (wB1 ?_));rcases K i n k w w3 with⟨G,qn⟩|⟨go,N,hN,step⟩
 ·refine no (fh (T.done X O O O hc i ag av k w X.xe au (j F) B G) λr s4 ⟨S,I4⟩=>?_);subst S;exact wP1 ⟨k,w,I4,qn⟩
 ·refine no (fh (T.item X rfl rfl rfl hc i ag av k w X.xe au (j F) B go) fun r s4 ⟨u,S,h4⟩=>?_);subst S;refine wB1 (no (fh h4 fun _ wq ⟨x,H5,I5,r5,y5,t,P⟩=>?_));have R:=I5.pinned (j P) (T.obj _ _ t);refine wB1 (no (fh (hg _ wq k H5 x u _ R r5 (step x H5 y5)) fun _ s6 ⟨C,H6,I6,q6⟩=>?_));refine wB1 (no (fh (hi _ s6 C H6 _ I6 q6) fun ok z ⟨v,A,U⟩=>?_));have again':∀ {f:L2.St} {v:Hp} {z:dj},Inv X (ag++oH fp wq.heap) f v z->N f v -> ∃ m,m<n /\ ∃ i a H',Inv X ag a H' z/\aq i z.heap/\(∀ b∈fp,H' b=none)/\W i m a H':=fun {f v z} A n7=>by
   obtain⟨L,hm,w7⟩:=hN f v n7;refine⟨L,hm,i+1,f,v,A.unpinned,T.keep _ _ _ t λb l o e=>(A.pin (b,o) (mA1 _ (mA1 _ (jh l e)))).1,λb l=>?_,w7⟩;obtain⟨o,e,d⟩:=T.obj _ _ t b l;exact(A.pin (b,o) (mA1 _ (mA1 _ (jh l e)))).2.1
  cases ok with
  |false=>exact wP1 ⟨O,again' A U⟩
  |true=>exact wB1 (no (fh (he _ z C v _ A U) λ_ s8 ⟨σ8,H8,I8,q8⟩=>wP1 ⟨O,again' I8 q8⟩))
def tZ(p:dk)(te:TE):TS:=λD σ H=>te σ H λx H1=>∃xs,H1 p=Z (.lst xs)/\xs.length<dy/\D.nx σ (upd H1 p (.lst (xs++[x])))
theorem sC{X:Cx}{elt:Expr}{te:TE}(h:PE X elt te)(p:dk):PU X (py elt (.ref p) X.env) (tZ p te):=by
 intro ag s σ H E I q;unfold py;refine wB1 (fh (h ag s σ H _ I q) λu g ⟨x,H1,d,c,xs,b,i,f⟩=>?_);refine wB1 (fh (qM ag g σ H1 (.ref p) [x] (.ref p) [u] (λ_ H'=>E.nx σ H') d O (.cons c .nil) ⟨p,xs,x,O,O,b,i,f⟩) λ_ j ⟨_,H2,a,_,e⟩=>?_);exact wP1 ⟨σ,H2,a,e⟩
noncomputable def A0(ao:It)(g:TG)(ti:TT)(tb:TS):TS:=λD σ H=>∃W:Nat->Nat->L2.St->Hp->Prop,(∃m,W 0 m σ H) /\ ∀i m σ H,W i m σ H ->
 (ao.stop i H/\D.nx σ H)\/(ao.go i H /\ ∃N:L2.St->Hp->Prop,(∀ σ' H',N σ' H' -> ∃m',m'<m/\W (i+1) m' σ' H') /\ ∀x H',ao.yld i H x H'->g x σ H' fun σ2 H2=>ti σ2 H2 λb H3=>if b=M then tb {D with nx:=N} σ2 H3 else N σ2 H3)
def AY(wi:TI)(g:TG)(ti:TT)(tb:TS):TS:=λD σ H=>wi σ H λao H1=>A0 ao g ti tb D σ H1
theorem vg{prog:dn}{w:dr}{A:dq}{R:Qm->dj->Prop}{s:dj}{elt tg iter tg2 iter2:Expr}{ifs ifs2:List Expr}{scope:dF}{pos:Pos}{it acc:di}{env:Env}(b:dA (PB prog w) A (.compLoop (.ListComp elt [⟨tg,iter,ifs,0⟩,⟨tg2,iter2,ifs2,0⟩] scope pos) 1 it acc env) R s)(h:dz (PB prog w) A (P7 it) (fun a s'=>dA (PB prog w) A (.compLoop (.ListComp elt [⟨tg,iter,ifs,0⟩,⟨tg2,iter2,ifs2,0⟩] scope pos) 1 a acc env) R s')
   (notedBy (PB prog w) A env λx s'=>R (.error x) s') s):
  dA (PB prog w) A (.compStart (.ListComp elt [⟨tg,iter,ifs,0⟩,⟨tg2,iter2,ifs2,0⟩] scope pos) 1 it acc env) R s:=by
 refine Q8 ?_;show dz _ _ ((compStart (.ListComp elt [⟨tg,iter,ifs,0⟩,⟨tg2,iter2,ifs2,0⟩] scope pos) 1 it acc env).onRaise (λx=>do noteFrame x env;PX theWindowsPlace)) _ _ s;refine wpAny_notedAt ?_;unfold compStart;show dz _ _ (ask >>= _) _ _ s;refine wB1 (Q9 (wpAny_ite ?_));split
 ·first
   |exact wB1 (wP1 (wP1 (And.intro rfl b)))
   |exact wP1 (And.intro rfl b)
 ·first
   |exact wB1 (P2 (wB1 (PZ (wB1 (PD h (λa s' h'=>wP1 (And.intro O h')) λ_ _ x=>x)))))
   |(refine wB1 (P2 ?_);show dz _ _ (PX iter2.pos >>= _) _ _ s;exact wB1 (PZ (wB1 (PD h (λa s' h'=>wP1 (And.intro O h')) λ_ _ x=>x))))
theorem EN{X:Cx}(hx:X.xe=fun _ _=>False)(hc:X.calm=true){elt tg iter tg2 iter2:Expr}{ifs ifs2:List Expr}{scope:dF}{pos:Pos}{acc:di}{d:TI}{g:TG}{i:TT}{tb:TS}(hi:PI X tg2 iter2 d)(hg:PG X tg2 g)(hf:pS X ifs2 i)(he:PU X (py elt acc X.env) tb)(hs:autoParam (∀x,Qc iter2 X.env x=pure x) du0):
  PU X (rq (.ListComp elt [⟨tg,iter,ifs,0⟩,⟨tg2,iter2,ifs2,0⟩] scope pos) iter2 acc X.env) (AY d g i tb):=by
 intro ag s σ H E I q;unfold rq;refine wB1 (fh (hi ag s σ H _ I q) λv u h1=>?_);refine wB1 (PZ (wB1 (Ra (hs v) (wB1 (PY (fh h1 λt p h2=>?_))))));obtain⟨it,fp,w,ao,H2,rfl,k,T,b,o,l⟩:=h2;have a:=mW hx hc (HF elt tg iter tg2 iter2 ifs ifs2 scope pos (.ref it) acc X.env) T hg hf he k b o l;refine wB1 (wpAny_runOwn (h:=Y) ?_);refine Qn (vg a (T.self X.A 0 p _ _ b a)) λr s' j=>?_;cases r with
 |error e=>exact j.elim
 |ok f=>
  obtain⟨c,H',n,m⟩:=j;exact wP1 ⟨c,H',n,m⟩
theorem Un.sameBut{fs ex:List dk}{H H':Hp}{h h1 h2:dB}{c:dk}(u:Un fs ex H H' h h1)(hs:Pz c h1 h2)(hc:h.get? c=Y):Un fs ex H H' h h2:=by
 have ne:∀{b o},h.get? b=Z o->b≠c:=λe z=>by rw[z,hc]at e;cases e
 refine⟨λb o e n d a=>(hs.2 b (ne e)).trans (u.keep b o e n d a),λb o e n d a=>?_,u.free,λb o e a=>?_,u.tups,u.frzs,u.tbls⟩
 ·obtain⟨f,q⟩:=u.slot b o e n d a;exact⟨f,(hs.2 b (ne e)).trans q⟩
 ·obtain⟨o',q⟩:=u.there b o e a;exact⟨o',(hs.2 b (ne e)).trans q⟩
def A1(k:Nat)(keep:List Nat)(wi:TI)(g:TG)(ti:TT)(tb:dk->TS):TE:=fun σ H Q=>wi σ H λao H1=>∀p,H1 p=Y ->
 A0 ao g ti (tb p) {nx:=λ_ H'=>Q (.ref p) H',rt:=λ_ _=>False} (sZ k keep σ) (upd H1 p (.lst []))
theorem E7{X:Cx}(hc:X.calm=true){elt tg iter:Expr}{ifs:List Expr}{rest:List Comprehension}{scope:dF}{pos:Pos}{T:List Str}{keep:List Nat}{j:List (Str×dk)}{K:TI}{g:TG}{aq:TT}{tb:dk->TS}{emit:di->Env->Sem Unit}(eq:∀it k d,Q7 (.ListComp elt (⟨tg,iter,ifs,0⟩::rest) scope pos) 0 it k d=lA iter.pos tg ifs it d (emit k d) (.compLoop (.ListComp elt (⟨tg,iter,ifs,0⟩::rest) scope pos) 0 it k d))(C:KQ X scope T keep)(w:jU X.env.cells scope.names []=some j)(hi:PI X tg iter K)(hb:∀s H fp p,PG (cxC X scope j T keep s H fp) tg g/\pS (cxC X scope j T keep s H fp) ifs aq/\PU (cxC X scope j T keep s H fp) (emit (.ref p) (cxC X scope j T keep s H fp).env) (tb p))(hs:autoParam (∀x,Qc iter X.env x=pure x) du0):
  PE X (.ListComp elt (⟨tg,iter,ifs,0⟩::rest) scope pos) (A1 T.length keep K g aq tb):=by
 intro ag s σ H Q I h;rw[eval_ListComp];refine wpAny_comprehension_free (use:=Y) O hs (Dj w) C.kind C.names ?_;refine fh (hi ag s σ H _ I h) λv s1 h1=>fh h1 λU a h2=>?_;obtain⟨it,fp,tn,ao,H2,rfl,D,TT,t,F,N⟩:=h2;refine wO1 ?_;have G:Inv X ag σ (upd H2 a.heap.objs.size (.lst [])) {a with heap:=a.heap.push {cls:=.type "list",data:=.seq ([]:List di).toArray}}:=D.lnew (t':=a.toks) .nil (bi _);have old:∀b∈fp,∃o,a.heap.get? b=Z o:=λb hb=>by
  obtain⟨o,e,_⟩:=TT.obj 0 a.heap t b hb;exact⟨o,e⟩
 have B:∀b∈fp,b≠a.heap.objs.size:=λb hb z=>by
  obtain⟨o,e⟩:=old b hb;have:=hL1 e;rw[z]at this;exact aA _ this
 have y:∀b∈fp,kH X ag (upd H2 a.heap.objs.size (.lst [])) b:=λb hb=>⟨by rw[d6 (B b hb)];exact(F b hb).1,(F b hb).2⟩;have o3:∀b∈fp,∃o,({a with heap:=a.heap.push {cls:=.type "list",data:=.seq ([]:List di).toArray}}:dj).heap.get? b=Z o:=λb hb=>by
  obtain⟨o,e⟩:=old b hb;exact⟨o,hP1 _ e⟩
 have A:=uR G C w y o3;obtain⟨hg,V,R⟩:=hb {a with heap:=a.heap.push {cls:=.type "list",data:=.seq ([]:List di).toArray}} (upd H2 a.heap.objs.size (.lst [])) fp a.heap.objs.size;refine kU ?_;have P:∀b∈fp,kH (cxC X scope j T keep {a with heap:=a.heap.push {cls:=.type "list",data:=.seq ([]:List di).toArray}} (upd H2 a.heap.objs.size (.lst [])) fp) [] (upd H2 a.heap.objs.size (.lst [])) b:=λb hb=>
  ⟨(y b hb).1,(A.ok.exf b hb).1,A.ok.exfs b hb,.inl hb,(A.ok.exf b hb).2,λp wq=>absurd (show p∈([]:List (dk×Obj))from wq) (by simp)⟩
 have n:tn 0 (pushCells ((a.heap.push {cls:=.type "list",data:=.seq ([]:List di).toArray}).push {cls:=.type "dict",data:=.dict #[]}) scope.names):=
  TT.keep 0 a.heap _ t λb hb o e=>Q6 scope.names _ b o (hP1 _ (hP1 _ e))
 have i:=mW (X:=cxC X scope j T keep {a with heap:=a.heap.push {cls:=.type "list",data:=.seq ([]:List di).toArray}} (upd H2 a.heap.objs.size (.lst [])) fp) O hc (eq (.ref it) (.ref a.heap.objs.size) _) TT hg V R A n P
  (N a.heap.objs.size (D.hok.fresh (nR1 _)))
 refine Qn (codeAny_compStart_list i (TT.self X.A 0 _ _ _ n i)) λr s' L=>?_;cases r with
 |error e=>exact L.elim
 |ok f=>
  obtain⟨au,H',l,av⟩:=L;obtain⟨m,W,_⟩:=id l.loc;refine⟨m,W,λh' u=>⟨.ref a.heap.objs.size,H',?_,O,av⟩⟩;refine G.call' (s':={s' with heap:=h'}) (ch:=fp) l.os (Un.sameBut l.base u (Px (nR1 _))) (λb S e=>?_) l.bare λb hb=>(y b hb).2.2.2 |> λz=>⟨z.1,(y b hb).2.1,z.2.1,z.2.2⟩
  refine(l.hok b S e).stay (λc w' hc q=>(u.2 c ?_).trans q) (λ_ q=>q) λ_ _ q=>q;rintro rfl;have E:=l.free;rcases hc with rfl|hc
  ·exact nomatch E.symm.trans e
  ·exact nomatch E.symm.trans hc
section
variable{K:Fg1}{H:Hp}{mu:List dk}{S:Sto}{p:dk}{u:HO}{o:Ob}{n:Nat}
theorem Rd.ne{a:dk}{x:HO}(h:H p=Y)(q:Rd H a x):a≠p:=by
 rintro rfl;rcases q with q|⟨_,q⟩<;>(rw[h]at q;cases q)
theorem Ext.fresh(hp:H p=Y):Ext mu mu H (upd H p u) where
 pre:=bo
 old:=λa o h _=>by rw[d6 (et h hp)];exact h
 tup:=λa xs h=>by
  have ne:=Rd.ne hp h;rcases h with h|⟨b,h⟩
  ·exact .inl (by rw[d6 ne];exact h)
  ·exact .inr ⟨b,by rw[d6 ne];exact h⟩
 frz:=λa o x h=>by rw[d6 (et h hp)];exact h
 new:=λ_ h=>.inl h
theorem Ext.new_(hp:H p=Y):Ext mu (mu++[p]) H (upd H p u) where
 pre:=bv _ _
 old:=(Ext.fresh (mu:=mu) hp).old
 tup:=(Ext.fresh (mu:=mu) hp).tup
 frz:=(Ext.fresh (mu:=mu) hp).frz
 new:=λa h=>by
  rcases aG.mp h with h|h
  ·exact .inl h
  ·have:a=p:=by simpa using h
   subst this;exact .inr hp
theorem Sim.fresh(s:Sim K H mu S)(hp:H p=Y):Sim K (upd H p u) mu S:=
 ⟨s.len,s.nd,λk o a h1 h2=>(s.ob k o a h1 h2).keep (Ext.fresh hp) λb e=>by rw[d6 (et e hp)];exact e⟩
theorem Sim.notin(s:Sim K H mu S)(hp:H p=Y):p∉mu:=λh=>by
 obtain⟨o,e⟩:=s.here h;rw[hp]at e;cases e
theorem pU.more{a:dk}{mu':List dk}{H':Hp}(e:Ext mu mu' H H')(h:∀o,H a=Z o->H' a=Z o):∀{o:Ob},pU K H mu a o->pU K H' mu' a o
 | .lst _,⟨vs,q,r⟩=>⟨vs,h _ q,r.ext e⟩
 | .dct _,⟨ws,q,r⟩=>⟨ws,h _ q,KR.ext e r⟩
 | .dcT _,⟨ws,q,r,l⟩=>⟨ws,h _ q,KT.ext e r,l⟩
 | .iset _,q=>⟨h _ q.1,q.2⟩
 | .dcF _,⟨ws,⟨o,u,b,c⟩,r,l⟩=>⟨ws,⟨o,u,h _ b,c⟩,KT.ext e r,l⟩
 | .tst _,⟨ws,q,r⟩=>⟨ws,h _ q,KT.ext e r⟩
theorem Sim.new(s:Sim K H mu S)(hp:H p=Y)(ho:pU K (upd H p u) (mu++[p]) p o):Sim K (upd H p u) (mu++[p]) (S++[o]):=by
 refine⟨by rw[lA1,lA1,s.len];rfl,?_,λk o' a h1 h2=>?_⟩
 ·rw[bx];refine⟨s.nd,by simp,λa f b g e=>?_⟩;have:b=p:=by simpa using g
  subst this;subst e;exact s.notin hp f
 ·by_cases d:k<S.length
  ·rw[gL1 d]at h1;rw[gL1 (by rw[s.len];exact d)]at h2;exact(s.ob k o' a h1 h2).more (Ext.new_ hp) λh e=>by rw[d6 (et e hp)];exact e
  ·have c:k=S.length:=by
    have:=(R9 h1).1;rw[lA1]at this;simp at this;lia
   subst c;rw[gR1 (nR1 _)]at h1;rw[<- s.len,gR1 (nR1 _)]at h2;simp at h1 h2;subst h1;subst h2;exact ho
theorem Ext.put{x:HO}(hp:H p=Z x)(hm:KG (Z x))(b:p∈mu):Ext mu mu H (upd H p u) where
 pre:=bo
 old:=λa o h n=>by rw[d6 (λe=>n (by rw[e];exact b))];exact h
 tup:=λa xs h=>by
  have ne:a≠p:=by
   rintro rfl;rcases h with h|⟨_,h⟩<;>(rw[hp]at h;cases h;exact hm)
  rcases h with h|⟨c,h⟩
  ·exact .inl (by rw[d6 ne];exact h)
  ·exact .inr ⟨c,by rw[d6 ne];exact h⟩
 frz:=λa o y h=>by
  rw[d6 (λe=>?_)]
  ·exact h
  ·subst e;rw[hp]at h;cases h;exact hm
 new:=λ_ h=>.inl h
theorem Sim.put(s:Sim K H mu S){x:HO}(hn:mu[n]?=Z p)(hp:H p=Z x)(hm:KG (Z x))(ho:pU K (upd H p u) mu p o):Sim K (upd H p u) mu (S.set n o):=by
 refine⟨by rw[aV];exact s.len,s.nd,λk o' a h1 h2=>?_⟩;by_cases b:n=k
 ·subst b;have f:n<S.length:=by
   have:=(R9 h1).1
   rwa [aV]at this
  rw[aJ f]at h1;cases h1;rw[hn]at h2;cases h2;exact ho
 ·rw [gS1 b] at h1;have ne:a≠p:=fun e=>by
   subst e;obtain⟨g,c⟩:=R9 hn;obtain⟨h,d⟩:=R9 h2;exact b ((aI s.nd).mp (c.trans d.symm))
  exact(s.ob k o' a h1 h2).keep (Ext.put hp hm (gM1 hn)) λi e=>by rw[d6 ne];exact e
theorem Sim.lst(s:Sim K H mu S){ds:List D}{a:dk}(h:S[n]?=Z (.lst ds))(hn:mu[n]?=Z a):∃vs,H a=Z (.lst vs)/\dX K H mu ds vs:=s.ob n _ a h hn
theorem Sim.dcT(s:Sim K H mu S){ks:List (TK×D)}{a:dk}(h:S[n]?=Z (.dcT ks))(hn:mu[n]?=Z a):∃ws,H a=Z (.ext (j7 a ws))/\KT K H mu ks ws/\ws.length<=dy:=s.ob n _ a h hn
theorem Sim.iset(s:Sim K H mu S){xs:List Int}{a:dk}(h:S[n]?=Z (.iset xs))(hn:mu[n]?=Z a):H a=Z (.set (λk=>xs.contains k) xs.length)/\xs.Nodup:=s.ob n _ a h hn
theorem Sim.dct(s:Sim K H mu S){ks:List (Key×D)}{a:dk}(h:S[n]?=Z (.dct ks))(hn:mu[n]?=Z a):∃ws,H a=Z (.dK ws)/\KR K H mu ks ws:=s.ob n _ a h hn
theorem Sim.newL(s:Sim K H mu S){ds:List D}{vs:List V}(r:dX K H mu ds vs)(hp:H p=Y):Sim K (upd H p (.lst vs)) (mu++[p]) (S++[.lst ds]):=s.new hp ⟨vs,d9,r.ext (Ext.new_ hp)⟩
theorem Sim.putL(s:Sim K H mu S){ds:List D}{vs ws:List V}(r:dX K H mu ds vs)(hn:mu[n]?=Z p)(hp:H p=Z (.lst ws)):Sim K (upd H p (.lst vs)) mu (S.set n (.lst ds)):=
 s.put hn hp trivial ⟨vs,d9,r.ext (Ext.put hp trivial (gM1 hn))⟩
end
theorem hO{mu:List dk}{S:Sto}(h:mu.length=S.length)(p:dk):(mu++[p])[S.length]?=Z p:=by
 rw[<- h,gR1 (nR1 _)];simp
noncomputable def eG (a:FA):FE:=λr S=>(a r S).bind λp=>if p.1.length<=dy then some (.tup p.1,p.2)else none
noncomputable def g6 (a:FA):FE:=λr S=>(a r S).bind λp=>if p.1.length<=dy then some (.ref p.2.length,p.2++[.lst p.1])else none
section
variable{es:List Expr}{pos:Pos}{a:FA}
theorem Jq{x1}(h:MA X es a):ME X (.Tuple es x1 pos) (eG a):=eM (Iy h) <| by
 rintro σ H Q ⟨r,mu,S,d,l,j,g,b,hc⟩;obtain⟨⟨ds,m⟩,f,b⟩:=Sa b;dsimp only at b;split at b
 ·rename_i k;cases b;refine⟨r,mu,S,ds,_,j,g,f,λvs H1 mu1 x1 e i=>⟨by rw[<- e.length];exact k,λp c=>?_⟩⟩;exact hc _ _ mu1 (x1.trans (Ext.fresh c)) (.tup (kC.of d9) (e.ext (Ext.fresh c))) (i.fresh c)
 ·cases b
theorem Jw(h:MA X es a):ME X (.List es pos) (g6 a):=eM (ID h) <| by
 rintro σ H Q ⟨r,mu,S,d,m,k,i,b,hc⟩;obtain⟨⟨ds,n⟩,g,b⟩:=Sa b;dsimp only at b;split at b
 ·rename_i l;cases b;refine⟨r,mu,S,ds,_,k,i,g,λvs H1 mu1 j c e=>⟨by rw[<- c.length];exact l,λp f=>?_⟩⟩;exact hc _ _ (mu1++[p]) (j.trans (Ext.new_ f)) (.ref (hO e.len p)) (e.newL c f)
 ·cases b
end
def uS(k:Nat)(keep:List Nat)(r:Ev):Ev:=aP k Y++keep.map λi=>(r[i]?).join
def eY:FT:=λ_ S=>Z (M,S)
theorem LW{K:Fg1}{H:Hp}{mu:List dk}{r:Ev}{σ:L2.St}(k:Nat)(keep:List Nat)(h:fH K H mu r σ):fH K H mu (uS k keep r) (sZ k keep σ):=by
 refine⟨by unfold uS sZ;rw[lA1,lA1,lM1,lM1,lR1,lR1],λi d e=>?_⟩;unfold uS at e;unfold sZ;by_cases hi:i<k
 ·rw[gL1 (by rw[lR1];exact hi),aS]at e;split at e<;>cases e
 ·rw [gR1 (by rw [lR1];lia),lR1,gP1] at e;rw [gR1 (by rw [lR1];lia),lR1,gP1];obtain ⟨j,a,e⟩:=Sb e;rw [a];have b:r[j]? = some (some d):=by
   cases q:r[j]? with
   |none=>rw[q]at e;cases e
   |some o=>rw[q]at e;cases e;rfl
  obtain⟨v,c,f⟩:=h.val j d b;exact⟨v,by rw[oP1,c];rfl,f⟩
theorem BF{ifs:List Expr}{t t':L2.TT}(h:pS X ifs t)(i:∀ σ H Q,t' σ H Q->t σ H Q):pS X ifs t':=λag s σ H Q I q=>h ag s σ H Q I (i σ H Q q)
theorem Fz:pS X [] (AZ X.K eY):=BF BE fun σ H Q ⟨r,mu,S,b,e,d,c,a,hc⟩=>by cases a;exact hc H mu (.refl _ _) c
theorem Fy{c:Expr}{t:FT}(h:MT X c t):pS X [c] (AZ X.K t):=BD h
open PySem.AutoSeq1 (wpAny_loadPart')
def SIt(b:Bool)(h:dB)(it a:dk)(i:Nat):Prop:=match b with
 |true=>h.IsListIter it a i
 |false=>h.IsTupleIter it a i
def SCo(b:Bool)(h:dB)(a:dk)(xs:Array di):Prop:=match b with
 |true=>h.IsList a xs
 |false=>h.IsTuple a xs
theorem SIt.to{b:Bool}{h h':dB}{it a:dk}{i:Nat}(x:SIt b h it a i)(k:∀o,h.get? it=Z o->h'.get? it=Z o):SIt b h' it a i:=by
 cases b<;>(obtain⟨o,e,r⟩:=x;exact⟨o,k o e,r⟩)
theorem SIt.rec_{b:Bool}{h:dB}{it a:dk}{i:Nat}(x:SIt b h it a i):∃o,h.get? it=Z o /\ ∀v,o.data ≠ .cell v:=by
 cases b<;>(obtain⟨o,e,c,d⟩:=x;exact⟨o,e,λv z=>by rw[d]at z;cases z⟩)
theorem SCo.to{b:Bool}{h h':dB}{a:dk}{xs:Array di}(x:SCo b h a xs)(k:∀o,h.get? a=Z o->h'.get? a=Z o):SCo b h' a xs:=by
 cases b<;>(obtain⟨o,e,r⟩:=x;exact⟨o,k o e,r⟩)
noncomputable def gu(b:Bool)(a:dk):Obj:=match b with
 |true=>{cls:=.type "list_iterator",data:=.fields #[.ref a,.int 0 0]}
 |false=>{cls:=.type "tuple_iterator",data:=.fields #[.ref a,.int 0 0]}
section
variable{prog:dn}{w:dr}{A:dq}{E:di->dj->Prop}{s:dj}
theorem sn{b:Bool}{h:dB}{it a:dk}(e:h.get? it=Z (gu b a)):SIt b h it a 0:=by
 cases b<;>exact⟨_,e,O,O⟩
theorem jE{b:Bool}{a:dk}{xs:Array di}{Q:di->dj->Prop}(x:SCo b s.heap a xs)(h:Q (.ref s.heap.objs.size) {s with heap:=s.heap.push (gu b a)}):dz (PB prog w) A (P7 (.ref a)) Q E s:=by
 cases b
 ·exact wpAny_pyIter_tuple x h
 ·exact wpAny_pyIter_list x h
theorem B6{it l:dk}{i:Nat}{xs:Array di}{x:di}{Q:di->dj->Prop}(d:s.heap.IsTupleIter it l i)(tl:s.heap.IsTuple l xs)(hx:xs[i]? = Z x)(f:∀h',h'.IsTupleIter it l (i+1)->Pz it s.heap h'->Q x {s with heap:=h'}):dz (PB prog w) A (Rb (.ref it)) Q E s:=by
 obtain⟨o,b,hc,a⟩:=id d;obtain⟨h,e,_,g,c⟩:=tl;unfold Rb;refine wB1 (QF (name:=QG "__next__") d.typeIs Rc (wE1 Rc d.typeIs F.entry_tuple_iterator_next ?_ (F.args_tuple_iterator_next_1 _)));show dz _ _ (field (.ref it) 0 >>= _) _ _ s;refine wB1 (QE b a (x:=.ref l) O ?_);show dz _ _ (if(Pr l == Pp)=M then _ else _) _ _ s;rw[aj (show¬ ((Pr l == Pp)=M)from aL)];show dz _ _ (field (.ref it) 1 >>= _) _ _ s;refine wB1 (QE b a (x:=.int i 0) O ?_);show dz _ _ (seqItems? (.ref l) >>= _) _ _ s;refine wB1 (Re e c ?_);simp only[Qy,hx];refine wB1 (wpAny_setField b a (by simp) (wP1 ⟨x,O,wP1 (f _ ⟨_,hW1 _ b (Obj.isFreed_of_fields (Obj.data_mapFields a _)),(Obj.cls_mapFields ..).trans hc,by rw[Obj.data_mapFields a];simp[P8]⟩ (Rf ..))⟩))
theorem sN {it l:dk}{i:Nat}{xs:Array di}{Q:di->dj->Prop}(h:A.handled=none)(d:s.heap.IsTupleIter it l i)(tl:s.heap.IsTuple l xs)(hx:xs[i]? = none)
  (j:∀h' e,Heap.ExtBut it s.heap h'->(∃o,h'.get? e=Z o/\o.cls = .type "StopIteration")->E (.ref e) {s with heap:=h'}):dz (PB prog w) A (Rb (.ref it)) Q E s:=by
 obtain⟨o,c,hc,b⟩:=id d;obtain⟨n,f,_,k,g⟩:=tl;unfold Rb;refine wB1 (QF (name:=QG "__next__") d.typeIs Rc (wE1 Rc d.typeIs F.entry_tuple_iterator_next ?_ (F.args_tuple_iterator_next_1 _)));show dz _ _ (field (.ref it) 0 >>= _) _ _ s;refine wB1 (QE c b (x:=.ref l) O ?_);show dz _ _ (if(Pr l == Pp)=M then _ else _) _ _ s;rw[aj (show¬ ((Pr l == Pp)=M)from aL)];show dz _ _ (field (.ref it) 1 >>= _) _ _ s;refine wB1 (QE c b (x:=.int i 0) O ?_);show dz _ _ (seqItems? (.ref l) >>= _) _ _ s;refine wB1 (Re f g ?_);simp only[Qy,hx];refine wB1 (P2 (wB1 (wpAny_setField c b (by simp) ?_)));show dz _ _ (newExc (.type "StopIteration") [] >>= _) _ _ _;refine wB1 ?_;simp only[newExc,newTuple];refine wB1 (wO1 ?_ (by size_fits));refine wB1 (m:=Rg _ _) (Ra (a:=Pp) (by first|rfl|(simp only[Rg];rfl)) ?_);refine wO1 ?_ (by size_fits);simp only[raiseNew];refine wB1 (wpAny_handled ?_)
 first|rw[show A.in1.handled=Y from h] | rw[h]
 refine wB1 (wP1 (wpAny_throw ?_));exact j _ _ (((Rf ..).extBut.push _).push _) ⟨_,hS1 _ O,O⟩
theorem lS{b:Bool}{it l:dk}{i:Nat}{xs:Array di}{x:di}{Q:di->dj->Prop}(c:SIt b s.heap it l i)(tl:SCo b s.heap l xs)(hx:xs[i]? = Z x)(a:∀h',SIt b h' it l (i+1)->Pz it s.heap h'->Q x {s with heap:=h'}):dz (PB prog w) A (Rb (.ref it)) Q E s:=by
 cases b
 ·exact B6 c tl hx a
 ·exact wpAny_nextOf_list_item c tl hx a
theorem jf {b:Bool}{it l:dk}{i:Nat}{xs:Array di}{Q:di->dj->Prop}(c:A.handled=none)(d:SIt b s.heap it l i)(tl:SCo b s.heap l xs)(hx:xs[i]? = none)
  (a:∀h' e,Heap.ExtBut it s.heap h'->(∃o,h'.get? e=Z o/\o.cls = .type "StopIteration")->E (.ref e) {s with heap:=h'}):dz (PB prog w) A (Rb (.ref it)) Q E s:=by
 cases b
 ·exact sN c d tl hx a
 ·exact wpAny_nextOf_list_end c d tl hx a
theorem C6{b:Bool}(l:dk)(xs:Array di):
  Meets (Builtin.«enumerate.__new__» ⟨[.type "enumerate",.ref l],[]⟩) (λ_ R s=>SCo b s.heap l xs /\
   R (.ok (.ret (.ref (s.heap.push (gu b l)).objs.size))) {s with heap:=(s.heap.push (gu b l)).push {cls:=.type "enumerate",data:=.fields #[.none,.bool J,.ref s.heap.objs.size,P8 0,.none,.none]}}):=
 .of_wp λprog w A R s h=>by
  obtain⟨j,g,d,tk,k⟩:=s;obtain⟨f,h⟩:=h;have a:=sub_enumerate
  have i:SCo b (Shared.heap ⟨j,g,d,tk,k⟩) l xs:=f;obtain⟨m,el⟩:∃o,j.get? l=some o:=by cases b<;>(obtain⟨o,e,_⟩:=f;exact⟨o,e⟩)
  wp_walk using wpAny_loadPart' el
  refine wpAny_stack_any λst=>wP1 ?_;split
  ·rename_i c _ _ _ _ _;cases(c == Ps "enumerate")<;>(wp_walk using wpAny_loadPart' el,jE i;exact⟨_,O,h⟩)
  ·wp_walk using wpAny_loadPart' el,jE i
   exact⟨_,O,h⟩
theorem zU{b:Bool}{l:dk}{xs:Array di}{Q:di->dj->Prop}(f:SCo b s.heap l xs)(h:∀h',Rh h' (s.heap.objs.size+1) s.heap.objs.size 0 .none->SIt b h' s.heap.objs.size l 0->h'.objs.size=s.heap.objs.size+2->(∀b o,s.heap.get? b=some o->h'.get? b=some o)->Q (.ref (s.heap.objs.size+1)) {s with heap:=h'}):
  dz (PB prog w) A (call (.type "enumerate") [.ref l]) Q E s:=by
 refine callType_new F.called_enumerate (by decide) (F.typeCall_enumerate_1 _) (F.newCall_enumerate_1 _) (λa=>F.args_object_init_2 a _) F.entry_enumerate_new (C6 (b:=b) l xs) ⟨f,?_⟩;have d:(s.heap.push (gu b l)).objs.size=s.heap.objs.size+1:=hZ1 ..
 show _/\_;rw[d];have e:Rh ((s.heap.push (gu b l)).push {cls:=.type "enumerate",data:=.fields #[.none,.bool J,.ref s.heap.objs.size,P8 0,.none,.none]}) (s.heap.objs.size+1) s.heap.objs.size 0 .none:=by
  have q:=hS1 (s.heap.push (gu b l)) (o:={cls:=.type "enumerate",data:=.fields #[.none,.bool J,.ref s.heap.objs.size,P8 0,.none,.none]}) O;rw[d]at q;exact q
 have hi:(s.heap.push (gu b l)).get? s.heap.objs.size=Z (gu b l):=hS1 _ (by cases b<;>rfl);refine⟨⟨_,e,O⟩,h _ e (sn (hP1 _ hi)) (by rw[hZ1,d]) λc o x=>hP1 _ (hP1 _ x)⟩
theorem zS {b:Bool}{e it l:dk}{i:Nat}{xs:Array di}{x old:di}{Q:Option di->dj->Prop}(he:Rh s.heap e it i old)(U:SIt b s.heap it l i)(tl:SCo b s.heap l xs)(hx:xs[i]? = some x)(n:e≠it)
  (T:∀h',IsEnumOut h' e it ((i:Int)+1) x s.heap.objs.size->SIt b h' it l (i+1)->h'.get? s.heap.objs.size=Z {cls:=.type "tuple",data:=.seq #[.int i s.toks,x]}->h'.objs.size=s.heap.objs.size+1 ->
   (∀b o,b≠e->b≠it->s.heap.get? b=Z o->h'.get? b=Z o)->Q (Z (.ref s.heap.objs.size)) {s with heap:=h',toks:=s.toks+1}):dz (PB prog w) A (P5 (.ref e)) Q E s:=by
 have S:s.TypeIs (.ref e) "enumerate":=⟨_,he,O⟩;unfold P5;refine wB1 (Ri (QF (name:=QG "__next__") S Rj (wE1 Rj S F.entry_enumerate_next ?_ (F.args_enumerate_next_1 _))));obtain⟨j,g,d,tk,t⟩:=s;show dz _ _ (field (.ref e) 2 >>= _) _ _ _;refine wB1 (QE he O (x:=.ref it) O ?_);refine wB1 (lS U tl hx λh1 H D=>?_);replace D:Pz it j h1:=D;have m:Rh h1 e it i old:=(D.2 e n).trans he;show dz _ _ (field (.ref e) 3 >>= _) _ _ ⟨h1,g,d,tk,t⟩;refine wB1 (QE m O (x:=P8 i) O ?_);show dz _ _ (field (.ref e) 4 >>= _) _ _ ⟨h1,g,d,tk,t⟩;refine wB1 (QE m O (x:=.none) O ?_);show dz _ _ (mkInt i >>= _) _ _ ⟨h1,g,d,tk,t⟩;refine wB1 (wpAny_mkInt ?_);show dz _ _ (setField (.ref e) 3 (P8 ((i:Int)+1)) >>= _) _ _ ⟨h1,g,d,tk+1,t⟩;refine wB1 (wS1 m (by simp) λh2 p G=>?_);replace G:Pz e h1 h2:=G;replace p:Rh h2 e it ((i:Int)+1) old:=p;show dz _ _ (setField (.ref e) 4 .none >>= _) _ _ ⟨h2,g,d,tk+1,t⟩;refine wB1 (wS1 p (by simp) λh3 r C=>?_);replace C:Pz e h2 h3:=C;replace r:Rh h3 e it ((i:Int)+1) old:=r;show dz _ _ (newTuple [.int i tk,x] >>= _) _ _ ⟨h3,g,d,tk+1,t⟩;refine wB1 (wpAny_newTuple ?_);have k:Rh (h3.push {cls:=.type "tuple",data:=.seq #[.int i tk,x]}) e it ((i:Int)+1) old:=hP1 _ r;generalize f:h3.push {cls:=.type "tuple",data:=.seq #[.int i tk,x]}=h4 at k;have h:h3.objs.size=j.objs.size:=by rw[C.1,G.1,D.1]
 have L:e<j.objs.size:=hL1 he;have N:h4.get? j.objs.size=Z {cls:=.type "tuple",data:=.seq #[.int i tk,x]}:=by rw[<- f,<- h];exact hS1 _ O
 have aq:h4.objs.size=j.objs.size+1:=by rw[<- f,hZ1,h]
 have av:∀b o,b≠e->b≠it->j.get? b=Z o->h4.get? b=Z o:=λb o a y P=>by
  rw[<- f];exact hP1 _ (C.extBut b o a (G.extBut b o a (D.extBut b o y P)))
 have R:SIt b h4 it l (i+1):=H.to λo q=>by rw[<- f];exact hP1 _ (C.extBut _ _ (Py n) (G.extBut _ _ (Py n) q))
 show dz _ _ (Rk (.ref e) >>= _) _ _ ⟨h4,g,d,tk+1,t⟩;rw[h];clear f r C p G m D H h h3 h2 h1;refine wB1 ?_;unfold Rk;refine wB1 (QE k O (x:=.none) O (wP1 ?_));simp only[QC];refine wB1 (P2 ?_);refine wB1 (QE k O (x:=old) O ?_);refine wB1 (wS1 k (by simp) λh5 u K=>?_);replace K:Pz e h4 h5:=K;replace u:Rh h5 e it ((i:Int)+1) x:=u;show dz _ _ (Rl (.ref e) (.ref j.objs.size) >>= _) _ _ ⟨h5,g,d,tk+1,t⟩;refine wB1 ?_;unfold Rl;refine wB1 (wS1 u (by simp) λh6 B ao=>?_);replace ao:Pz e h5 h6:=ao;replace B:IsEnumOut h6 e it ((i:Int)+1) x j.objs.size:=B;refine wS1 B (by simp) λh7 v I=>?_;replace I:Pz e h6 h7:=I;replace v:IsEnumOut h7 e it ((i:Int)+1) x j.objs.size:=v;have up:∀c o,c≠e->h4.get? c=Z o->h7.get? c=Z o:=λc o z q=>I.extBut _ _ z (ao.extBut _ _ z (K.extBut _ _ z q));refine wB1 (Rm (wP1 ⟨_,O,wP1 (T h7 v (R.to λo q=>up _ o (Py n) q) (up _ _ (nG1 L) N) (by rw[I.1,ao.1,K.1,aq]) λc o a y P=>up c o a (av c o a y P))⟩))
theorem C7{b:Bool}{e it l:dk}{i:Nat}{xs:Array di}{old:di}{Q:Option di->dj->Prop}(g:A.handled=Y)(he:Rh s.heap e it i old)(h:SIt b s.heap it l i)(tl:SCo b s.heap l xs)(hx:xs[i]? = Y)(j:∀h',Heap.ExtBut it s.heap h'->Q Y {s with heap:=h'}):dz (PB prog w) A (P5 (.ref e)) Q E s:=by
 have d:s.TypeIs (.ref e) "enumerate":=⟨_,he,O⟩;unfold P5;refine wB1 (Ri (QF (name:=QG "__next__") d Rj (wE1 Rj d F.entry_enumerate_next ?_ (F.args_enumerate_next_1 _))));show dz _ _ (field (.ref e) 2 >>= _) _ _ _;refine wB1 (QE he O (x:=.ref it) O ?_);refine wB1 (jf g h tl hx λh' x c a=>?_);obtain⟨o,f,hc⟩:=a;refine wB1 (Rn (T:="StopIteration") (b:=M) ⟨o,f,hc⟩ Ro ?_);exact wP1 (j _ c)
theorem ro{e it:dk}{i:Int}{old:di}{Q:di->dj->Prop}(he:Rh s.heap e it i old)(h:Q (.ref e) s):dz (PB prog w) A (P7 (.ref e)) Q E s:=by
 have a:s.TypeIs (.ref e) "enumerate":=⟨_,he,O⟩;refine wpAny_pyIter_slot a F.slot_enumerate_iter (wE1 F.slot_enumerate_iter a F.entry_enumerate_iter ?_ (F.args_enumerate_iter_1 _));show dz _ _ (ret (.ref e)) _ _ s;exact wP1 ⟨_,O,"enumerate",_,a,F.slot_enumerate_next.lookup,h⟩
end
open PySem.AutoSeq1 (wpAny_loadPart')
structure NZ (z ti to i1 i2:dk):Prop where
 a1:ti≠z
 a2:to≠z
 a3:i1≠z
 a4:i2≠z
 a5:ti≠to
 a6:ti≠i1
 a7:ti≠i2
 a8:to≠i1
 a9:to≠i2
 a10:i1≠i2
section
variable{prog:dn}{w:dr}{A:dq}{E:di->dj->Prop}{s:dj}{b1 b2:Bool}
theorem SCo.ne{b:Bool}{h:dB}{a c:dk}{xs:Array di}{o:Obj}(x:SCo b h a xs)(e:h.get? c=Z o)(n:∀ys k,o.data ≠ .seq ys k):a≠c:=by
 rintro rfl;cases b<;>(obtain⟨o',f,g,k,d⟩:=x;rw[e]at f;cases f;exact n _ _ d)
theorem SCo.ne_it{b f:Bool}{h:dB}{a it l:dk}{xs:Array di}{i:Nat}(x:SCo b h a xs)(y:SIt f h it l i):a≠it:=by
 cases f<;>(obtain⟨o,e,c,d⟩:=y;exact x.ne e λys k z=>by rw[d]at z;cases z)
theorem Av{z g to i1 i u n:dk}{P av:Nat}{xs ys:Array di}{x y a b:di}{Q:Option di->dj->Prop}(D:NZ z g to i1 i)(hz:Rp s.heap z g to .none)(R:Rq s.heap g (.ref i1) (.ref i))(hto:Rq s.heap to a b)(n1:u≠to)(n2:n≠to)(h1:SIt b1 s.heap i1 u P)(h2:SIt b2 s.heap i n av)(c1:SCo b1 s.heap u xs)(c2:SCo b2 s.heap n ys)(hx:xs[P]?=some x)(hy:ys[av]?=some y)(hQ:∀h',Rp h' z g to (P8 s.heap.objs.size)->Rq h' to x y->SIt b1 h' i1 u (P+1)->SIt b2 h' i n (av+1)->Rq h' s.heap.objs.size x y->h'.objs.size=s.heap.objs.size+1 ->
   (∀c o,c≠z->c≠to->c≠i1->c≠i->s.heap.get? c=Z o->h'.get? c=Z o)->Q (Z (.ref s.heap.objs.size)) {s with heap:=h'}):dz (PB prog w) A (P5 (.ref z)) Q E s:=by
 have hT:s.TypeIs (.ref z) "zip":=⟨_,hz,O⟩;have X:u≠z:=c1.ne hz λ_ _ q=>by cases q
 have l2z:n≠z:=c2.ne hz λ_ _ q=>by cases q
 have ao:n≠i1:=c2.ne_it h1;unfold P5;refine wB1 (Ri (QF (name:=QG "__next__") hT Rr (wE1 Rr hT F.entry_zip_next ?_ (F.args_zip_next_1 _))));show dz _ _ (field (.ref z) 2 >>= _) _ _ _;refine wB1 (QE hz O (x:=.bool J) O ?_);show dz _ _ (field (.ref z) 3 >>= _) _ _ _;refine wB1 (QE hz O (x:=.ref g) O ?_);refine wB1 (Re R O ?_);show dz _ _ (Rk (.ref z) >>= _) _ _ _;refine wB1 ?_;unfold Rk;refine wB1 (QE hz O (x:=.none) O (wP1 ?_));simp only[QC];refine wB1 (P2 ?_);refine wB1 (QE hz O (x:=.ref to) O ?_);refine wB1 (wS1 hz (by simp) λg1 m p=>?_);replace m:Rp g1 z g to .ellipsis:=m;refine wB1 ?_;simp only[List.zipIdx_cons,List.zipIdx_nil,List.forIn_cons,List.forIn_nil];refine wB1 (wB1 (wpAny_onRaise ?_));show dz _ _ (Rb (.ref i1) >>= _) _ _ _
 refine wB1 (lS (h1.to λo q=>p.extBut _ _ D.a3 q) (c1.to λo q=>p.extBut _ _ X q) hx λg2 T B=>wP1 ?_);have l:Rq g2 to a b:=B.extBut _ _ D.a8 (p.extBut _ _ D.a2 hto);refine wB1 (Re l O ?_);refine wB1 (Rs l λg3 f v=>?_);replace f:Rq g3 to x b:=f;refine wB1 (Rm (wP1 ?_));refine wB1 (wB1 (wpAny_onRaise ?_));show dz _ _ (Rb (.ref i) >>= _) _ _ _
 refine wB1 (lS (h2.to λo q=>v.extBut _ _ D.a9.symm (B.extBut _ _ D.a10.symm (p.extBut _ _ D.a4 q))) (c2.to λo q=>v.extBut _ _ n2 (B.extBut _ _ ao (p.extBut _ _ l2z q))) hy λg4 W I=>wP1 ?_);have k:Rq g4 to x b:=I.extBut _ _ D.a9 f;refine wB1 (Re k O ?_);refine wB1 (Rs k λd e K=>?_);replace e:Rq d to x y:=e;refine wB1 (Rm (wP1 (wP1 ?_)));refine wB1 (Re e O ?_);refine wB1 (wpAny_newTuple ?_);have C:d.objs.size=s.heap.objs.size:=by rw[K.1,I.1,v.1,B.1,p.1]
 have aq:Rp d z g to .ellipsis:=K.extBut _ _ D.a2.symm (I.extBut _ _ D.a4.symm (v.extBut _ _ D.a2.symm (B.extBut _ _ D.a3.symm m)));have hk5:∀c o,c≠z->c≠to->c≠i1->c≠i->s.heap.get? c=Z o->d.get? c=Z o:=λc o t N S q4 q=>K.extBut _ _ N (I.extBut _ _ q4 (v.extBut _ _ N (B.extBut _ _ S (p.extBut _ _ t q))));have wq:SIt b1 d i1 u (P+1):=T.to λo q=>K.extBut _ _ D.a8.symm (I.extBut _ _ D.a10 (v.extBut _ _ D.a8.symm q));have h25:SIt b2 d i n (av+1):=W.to λo q=>K.extBut _ _ D.a9.symm q;have j:z<d.objs.size:=hL1 aq;show dz _ _ (Rl (.ref z) (.ref d.objs.size) >>= _) _ _ _;refine wB1 ?_;unfold Rl;have V:Rp (d.push {cls:=.type "tuple",data:=.seq #[x,y]}) z g to .ellipsis:=hP1 _ aq;refine wB1 (wS1 V (by simp) λg7 r U=>?_);replace r:Rp g7 z g to (P8 d.objs.size):=r;refine wS1 r (by simp) λG h au=>?_;replace h:Rp G z g to (P8 d.objs.size):=h;have up:∀c o,c≠z->d.get? c=Z o->G.get? c=Z o:=λc o t q=>au.extBut _ _ t (U.extBut _ _ t (hP1 _ q));have L:Rq G d.objs.size x y:=au.extBut _ _ (nG1 j) (U.extBut _ _ (nG1 j) (hS1 _ O));have H:G.objs.size=d.objs.size+1:=by rw[au.1,U.1,hZ1]
 rw[C]at h L H;refine wP1 ⟨_,O,wP1 ?_⟩;show Q (Z (.ref d.objs.size)) _;rw[C]
 exact hQ G h (up _ _ D.a2 e) (wq.to λo q=>up _ o D.a3 q) (h25.to λo q=>up _ o D.a4 q) L H λc o t N S q4 q=>up c o t (hk5 c o t N S q4 q)
theorem Eb{z n to i1 p G r:dk}{S P:Nat}{xs ys:Array di}{a b:di}{Q:Option di->dj->Prop}(hh:A.handled=Y)(D:NZ z n to i1 p)(hz:Rp s.heap z n to .none)(H:Rq s.heap n (.ref i1) (.ref p))(R:Rq s.heap to a b)(n1:G≠to)(n2:r≠to)(h1:SIt b1 s.heap i1 G S)(h2:SIt b2 s.heap p r P)(I:SCo b1 s.heap G xs)(av:SCo b2 s.heap r ys)(y:xs[S]?=Y\/ys[P]?=Y)(X:∀h',(∀c o,c≠z->c≠to->c≠i1->c≠p->s.heap.get? c=Z o->h'.get? c=Z o)->Q Y {s with heap:=h'}):dz (PB prog w) A (P5 (.ref z)) Q E s:=by
 have V:s.TypeIs (.ref z) "zip":=⟨_,hz,O⟩;have t:G≠z:=I.ne hz λ_ _ q=>by cases q
 have N:r≠z:=av.ne hz λ_ _ q=>by cases q
 have B:r≠i1:=av.ne_it h1;unfold P5;refine wB1 (Ri (QF (name:=QG "__next__") V Rr (wE1 Rr V F.entry_zip_next ?_ (F.args_zip_next_1 _))));show dz _ _ (field (.ref z) 2 >>= _) _ _ _;refine wB1 (QE hz O (x:=.bool J) O ?_);show dz _ _ (field (.ref z) 3 >>= _) _ _ _;refine wB1 (QE hz O (x:=.ref n) O ?_);refine wB1 (Re H O ?_);show dz _ _ (Rk (.ref z) >>= _) _ _ _;refine wB1 ?_;unfold Rk;refine wB1 (QE hz O (x:=.none) O (wP1 ?_));simp only[QC];refine wB1 (P2 ?_);refine wB1 (QE hz O (x:=.ref to) O ?_);refine wB1 (wS1 hz (by simp) λg1 g i=>?_);replace g:Rp g1 z n to .ellipsis:=g;refine wB1 ?_;simp only[List.zipIdx_cons,List.zipIdx_nil,List.forIn_cons,List.forIn_nil];refine wB1 (wB1 (wpAny_onRaise ?_));show dz _ _ (Rb (.ref i1) >>= _) _ _ _
 cases hx:xs[S]? with
 |none=>
  refine wB1 (jf hh (h1.to λo q=>i.extBut _ _ D.a3 q) (I.to λo q=>i.extBut _ _ t q) hx λK e k L=>?_);obtain⟨aq,d,f⟩:=L;have v:Rp K z n to .ellipsis:=k _ _ D.a3.symm g;have m:e≠z:=λq=>by subst q;rw[v]at d;cases d;simp at f
  refine wS1 v (by simp) λU _ l=>?_;refine wB1 (Rn (T:="StopIteration") (b:=M) ⟨aq,l.extBut _ _ m d,f⟩ Ro ?_);exact wP1 (X U λc o C _ ao _ q=>l.extBut _ _ C (k _ _ ao (i.extBut _ _ C q)))
 |some x=>
  have hy:ys[P]?=Y:=by rcases y with h|h;rw[hx]at h;cases h;exact h
  refine wB1 (lS (h1.to λo q=>i.extBut _ _ D.a3 q) (I.to λo q=>i.extBut _ _ t q) hx λK h12 k=>wP1 ?_);have j:Rq K to a b:=k.extBut _ _ D.a8 (i.extBut _ _ D.a2 R);refine wB1 (Re j O ?_);refine wB1 (Rs j λU wq l=>?_);refine wB1 (Rm (wP1 ?_));refine wB1 (wB1 (wpAny_onRaise ?_));show dz _ _ (Rb (.ref p) >>= _) _ _ _
  refine wB1 (jf hh (h2.to λo q=>l.extBut _ _ D.a9.symm (k.extBut _ _ D.a10.symm (i.extBut _ _ D.a4 q))) (av.to λo q=>l.extBut _ _ n2 (k.extBut _ _ B (i.extBut _ _ N q))) hy λg4 e W L=>?_);obtain⟨aq,d,f⟩:=L;have u:Rp g4 z n to .ellipsis:=W _ _ D.a4.symm (l.extBut _ _ D.a2.symm (k.extBut _ _ D.a3.symm g));have m:e≠z:=λq=>by subst q;rw[u]at d;cases d;simp at f
  refine wS1 u (by simp) λg5 _ au=>?_;refine wB1 (Rn (T:="StopIteration") (b:=M) ⟨aq,au.extBut _ _ m d,f⟩ Ro ?_);exact wP1 (X g5 λc o C q2 ao q4 q=>au.extBut _ _ C (W _ _ q4 (l.extBut _ _ q2 (k.extBut _ _ ao (i.extBut _ _ C q)))))
def zH(b1 b2:Bool)(h:dB)(l1 l2:dk):dB:=((((h.push (gu b1 l1)).push (gu b2 l2)).push {cls:=.type "tuple",data:=.seq #[.ref h.objs.size,.ref (h.objs.size+1)]}).push {cls:=.type "tuple",data:=.seq #[.none,.none]}).push
 {cls:=.type "zip",data:=.fields #[.none,.bool J,.bool J,.ref (h.objs.size+2),.ref (h.objs.size+3)]}
theorem D9(a b:dk)(xs ys:Array di):Meets (Builtin.«zip.__new__» ⟨[.type "zip",.ref a,.ref b],[]⟩) (λ_ R s=>SCo b1 s.heap a xs/\SCo b2 s.heap b ys/\R (.ok (.ret (.ref (s.heap.objs.size+4)))) {s with heap:=zH b1 b2 s.heap a b}):=
 .of_wp λprog w A R s h=>by
  obtain⟨c,g,d,tk,f⟩:=s;obtain⟨l,k,h⟩:=h;have e:=sub_zip
  have j:SCo b1 (Shared.heap ⟨c,g,d,tk,f⟩) a xs:=l;have i:SCo b2 (Shared.heap ⟨c.push (gu b1 a),g,d,tk,f⟩) b ys:=k.to λo q=>hP1 _ q
  wp_walk using jE j,jE i
  refine⟨_,O,?_⟩;have m:(c.push (gu b1 a)).objs.size=c.objs.size+1:=hZ1 ..
  simp only[hZ1,zH]at h ⊢;exact h
theorem Aw{a b:dk}{xs ys:Array di}{Q:di->dj->Prop}(m:SCo b1 s.heap a xs)(j:SCo b2 s.heap b ys)(h:∀h',Rp h' (s.heap.objs.size+4) (s.heap.objs.size+2) (s.heap.objs.size+3) .none->Rq h' (s.heap.objs.size+2) (.ref s.heap.objs.size) (.ref (s.heap.objs.size+1))->Rq h' (s.heap.objs.size+3) .none .none ->
   SIt b1 h' s.heap.objs.size a 0->SIt b2 h' (s.heap.objs.size+1) b 0->h'.objs.size=s.heap.objs.size+5->(∀c o,s.heap.get? c=Z o->h'.get? c=Z o)->Q (.ref (s.heap.objs.size+4)) {s with heap:=h'}):
  dz (PB prog w) A (call (.type "zip") [.ref a,.ref b]) Q E s:=by
 refine callType_new F.called_zip (by decide) (F.typeCall_zip_2 _ _) (F.newCall_zip_2 _ _) (λg=>F.args_object_init_3 g _ _) F.entry_zip_new (D9 (b1:=b1) (b2:=b2) a b xs ys) ⟨m,j,?_⟩;have up:∀{h:dB} {o:Obj} {c:dk} {u:Obj},h.get? c=Z u->(h.push o).get? c=Z u:=λq=>hP1 _ q;have d:∀{h:dB} {o:Obj} {n:Nat},h.objs.size=n->o.isFreed=J->(h.push o).get? n=Z o:=λe f=>by rw[<- e];exact hS1 _ f
 have l:(gu b1 a).isFreed=J:=by cases b1<;>rfl
 have r:(gu b2 b).isFreed=J:=by cases b2<;>rfl
 have k:(zH b1 b2 s.heap a b).get? s.heap.objs.size=Z (gu b1 a):=up (up (up (up (d O l))));have t:(zH b1 b2 s.heap a b).get? (s.heap.objs.size+1)=Z (gu b2 b):=up (up (up (d (by simp only[hZ1]) r)));have v:Rq (zH b1 b2 s.heap a b) (s.heap.objs.size+2) (.ref s.heap.objs.size) (.ref (s.heap.objs.size+1)):=up (up (d (by simp only[hZ1]) O));have p:Rq (zH b1 b2 s.heap a b) (s.heap.objs.size+3) .none .none:=up (d (by simp only[hZ1]) O);have i:Rp (zH b1 b2 s.heap a b) (s.heap.objs.size+4) (s.heap.objs.size+2) (s.heap.objs.size+3) .none:=d (by simp only[hZ1]) O;exact⟨⟨_,i,O⟩,h _ i v p (sn k) (sn t) (by simp only[zH,hZ1]) λc o q=>up (up (up (up (up q))))⟩
end
def tP(K:Fg1)(b:Bool)(H:Hp)(a:dk)(xs:List V):Prop:=match b with
 |true=>mX K H a xs
 |false=>kC K H a xs
section
variable{ag:List (dk×Obj)}{σ:L2.St}{H:Hp}{s:dj}
theorem eW{b:Bool}{a:dk}{xs:List V}(I:Inv X ag σ H s)(h:tP X.K b H a xs):∃c:List di,ee xs c/\SCo b s.heap a c.toArray/\xs.length<=dy:=by
 cases b
 ·obtain⟨c,r,p,z⟩:=I.tuple h;exact⟨c,r,p,z⟩
 ·obtain⟨c,r,p,z⟩:=I.list h;exact⟨c,r,p.isList,z⟩
theorem nO{b:Bool}{a:dk}{xs ys:List V}(I:Inv X ag σ H s)(h:tP X.K b H a xs)(h':tP X.K b H a ys):xs=ys:=by
 cases b
 ·exact I.tuple_inj h h'
 ·exact I.list_inj h h'
theorem se{b:Bool}{a c:dk}{xs:List V}(I:Inv X ag σ H s)(h:tP X.K b H a xs)(f:kH X ag H c):a≠c:=by
 rintro rfl;have d:∀{o},X.K.lookup a=Z o->False:=λ{o} e=>by
  have g:=I.ok.mod.kin _ _ e;rcases f.2.2.2.1 with z|z
  ·exact I.ok.noex _ _ g z
  ·exact absurd (nL1 (hL1 g) (aD I.ok.bsz z)) (aA _)
 cases b
 ·rcases h with(h|⟨_,h⟩)|⟨_,_,_,h,_⟩
  ·rw[f.1]at h;cases h
  ·rw[f.1]at h;cases h
  ·exact d h
 ·rcases h with(h|⟨_,h⟩)|⟨_,_,_,h,_⟩
  ·rw[f.1]at h;cases h
  ·rw[f.1]at h;cases h
  ·exact d h
theorem uQ(I:Inv X ag σ H s){fp:List dk}(hf:∀ b∈fp,kH X ag H b){h':dB}{p:dk}{xs:List V}{its:List di}{t':Nat}(hp:s.heap.objs.size<=p)(d:∀ b o,b∉fp->s.heap.get? b=Z o->h'.get? b=Z o)(i:ms h' p its.toArray)(j:ee xs its)(hz:xs.length<=dy):Inv X ag σ (upd H p (.tup xs)) {s with heap:=h',toks:=t'}:=by
 have f:H p=Y:=I.hok.fresh hp;have g:∀{b o},s.heap.get? b=Z o->b≠p:=λe=>nN1 (nL1 (hL1 e) hp);have h:∀{b u},H b=Z u->b∉fp:=λe z=>by rw[(hf _ z).1]at e;cases e
 refine I.step (g':=s.gens) (d':=s.drawn) (ch:=fp) (λb a=>⟨(hf b a).2.2.2.1,(hf b a).2.1,(hf b a).2.2.2.2.1,(hf b a).2.2.2.2.2⟩) (λb o _ _ hc e _=>d b o hc e) (λb o _ _ hc e _=>⟨o.slots,d b o hc e⟩) (λb o _ e n=>?_)
  (λb o hc e=>⟨o,d b o hc e⟩) (λb ys e=>?_) (λb o u e=>?_) (λb ps e=>⟨#[],?_⟩) (λm l=>?_) (λb u e=>?_) I.bare
 ·rw[d6 (g e)];exact n
 ·rw[d6 (et e f)];exact e
 ·rw[d6 (et e f)];exact e
 ·rw[d6 (et e f),e];simp
 ·obtain⟨o,es,ep,k,r⟩:=l;exact⟨o,es,ep,d _ o (λz=>(hf _ z).2.1 O) k,r⟩
 ·by_cases a:b=p
  ·subst a;rw[d9]at e;cases e;exact⟨hz,its,j,i⟩
  ·rw[d6 a]at e;refine(I.hok b u e).stay (λc v hc q=>d c v ?_ q) (λc q=>by rw[d6 (et q f)];exact q) λc ys q=>by rw[d6 (et q f)];exact q
   rcases hc with z|z
   ·rw[z];exact h e
   ·exact h z
theorem pf(I:Inv X ag σ H s){fp:List dk}(hf:∀b∈fp,kH X ag H b){h':dB}{t':Nat}(a:∀b o,b∉fp->s.heap.get? b=Z o->h'.get? b=Z o):Inv X ag σ H {s with heap:=h',toks:=t'}:=by
 have f:∀{b u},H b=Z u->b∉fp:=λe z=>by rw[(hf _ z).1]at e;cases e
 refine I.step (g':=s.gens) (d':=s.drawn) (ch:=fp) (λb d=>⟨(hf b d).2.2.2.1,(hf b d).2.1,(hf b d).2.2.2.2.1,(hf b d).2.2.2.2.2⟩) (λb o _ _ hc e _=>a b o hc e) (λb o _ _ hc e _=>⟨o.slots,a b o hc e⟩) (λb o _ e n=>n)
  (λb o hc e=>⟨o,a b o hc e⟩) (λb ys e=>e) (λb o u e=>e) (λb ps e=>⟨#[],by rw[e];simp⟩) (λm h=>?_) (λb u e=>?_) I.bare
 ·obtain⟨o,es,ep,g,r⟩:=h;exact⟨o,es,ep,a _ o (λz=>(hf _ z).2.1 O) g,r⟩
 ·refine(I.hok b u e).stay (λc v hc q=>a c v ?_ q) (λc q=>q) λc ys q=>q;rcases hc with z|z
  ·rw[z];exact f e
  ·exact f z
end
theorem tY:(2:Nat)<=dy:=by decide
def Ox(K:Fg1)(b:Bool)(a:dk):It:=
 ⟨λi H=>∃xs x,tP K b H a xs/\xs[i]?=Z x,λi H x H'=>∃p v,H p=Y/\x = .ref p/\H'=upd H p (.tup [.int i,v]) /\ ∀xs,tP K b H a xs->xs[i]?=Z v,λi H=>∃xs,tP K b H a xs/\xs.length<=i⟩
theorem yR{P:dn}{w:dr}{K:Fg1}{elts:List Expr}{k:Nat}{pos:Pos}(b:Bool)(a e it:dk)(ne:e≠it):wT P w K (.Tuple elts k pos) (Ox K b a) [e,it] e (λi h=>(∃old,Rh h e it (i:Nat) old)/\SIt b h it a i) where
 mem:=by simp
 obj:=by
  rintro i h ⟨⟨old,st⟩,L⟩ c hc;rcases aF.mp hc with z|z
  ·subst z;exact⟨_,st,λv q=>by cases q⟩
  ·have wq:c=it:=by simpa using z
   subst wq;exact L.rec_
 keep:=λi h h' ⟨⟨old,st⟩,L⟩ av=>⟨⟨old,av e (by simp) _ st⟩,L.to λo q=>av it (by simp) o q⟩
 item:=by
  intro X n A p hc i ag s σ H E I l st F;subst n A p;obtain⟨⟨old,g⟩,m⟩:=st;obtain⟨xs,x,j,ao⟩:=F;obtain⟨G,r,co,au⟩:=eW I j;obtain⟨u,U,ru⟩:=r.get ao;refine zS g m co (x:=u) (by simpa using U) ne λh1 D C y V B=>?_;refine⟨.ref s.heap.objs.size,O,?_⟩;refine wpAny_letOwnedTupleGo_enum D λh2 aq d=>?_;have Q:s.heap.objs.size≠e:=nG1 (hL1 g);have t:∀c o,c∉[e,it]->s.heap.get? c=Z o->h2.get? c=Z o:=λc o hc q=>by
   have f:c≠e:=λz=>hc (by simp[z]);have c2:c≠it:=λz=>hc (by simp[z]);exact d.extBut _ _ f (B c o f c2 q)
  have tp:ms h2 s.heap.objs.size [.int (i:Nat) s.toks,u].toArray:=⟨_,d.extBut _ _ Q y,O,_,O,O⟩;have R:=uQ I l (t':=s.toks+1) (nR1 _) t tp (xs:=[.int i,x]) (.cons ⟨_,O⟩ (.cons ru .nil)) tY;have W:H s.heap.objs.size=Y:=I.hok.fresh (nR1 _);refine⟨.ref s.heap.objs.size,_,R,O,⟨_,x,W,O,O,λys T=>by rw[nO I T j];exact ao⟩,⟨⟨u,?_⟩,C.to λo q=>d.extBut _ _ (Py ne) q⟩,λc hc=>?_⟩
  ·have:((i+1:Nat):Int)=(i:Int)+1:=by push_cast;rfl
   rw[this];exact aq
  ·have f:c≠s.heap.objs.size:=fun z=>by
    rcases aF.mp hc with q|q
    ·exact Q (z.symm.trans q)
    ·have S:c=it:=by simpa using q
     obtain⟨o,N,_⟩:=m.rec_;rw[<- S,z]at N;exact aA _ (hL1 N)
   rw[d6 f];exact(l c hc).1
 done:=by
  intro X n A p hc i ag s σ H E I l st F;subst n A p;obtain⟨⟨old,g⟩,m⟩:=st;obtain⟨xs,j,ao⟩:=F;obtain⟨G,r,co,au⟩:=eW I j;have hl:=r.length;refine C7 (I.ok.hd hc) g m co (by simp;lia) λh' eb=>⟨O,pf I (t':=s.toks) l λc o hc q=>eb c o (λz=>hc (by simp[z])) q⟩
 self:=λ_ _ _ _ _ ⟨⟨_,st⟩,_⟩ h=>ro st h
def Ou(K:Fg1)(b1 b2:Bool)(a1 a2:dk):It:=
 ⟨λi H=>∃xs ys x y,tP K b1 H a1 xs/\tP K b2 H a2 ys/\xs[i]?=Z x/\ys[i]?=Z y,λi H x H'=>∃p v u,H p=Y/\x = .ref p/\H'=upd H p (.tup [v,u])/\(∀xs,tP K b1 H a1 xs->xs[i]?=Z v) /\ ∀ys,tP K b2 H a2 ys->ys[i]?=Z u,
  λi H=>∃xs ys,tP K b1 H a1 xs/\tP K b2 H a2 ys/\(xs.length<=i\/ys.length<=i)⟩
theorem AQ{P:dn}{w:dr}{K:Fg1}{elts:List Expr}{k:Nat}{pos:Pos}(b1 b2:Bool)(a1 a2 z t to A n:dk)(D:NZ z t to A n):wT P w K (.Tuple elts k pos) (Ou K b1 b2 a1 a2) [z,t,to,A,n] z
  (λi h=>Rp h z t to .none/\Rq h t (.ref A) (.ref n)/\(∃u v,Rq h to u v)/\SIt b1 h A a1 i/\SIt b2 h n a2 i) where
 mem:=by simp
 obj:=by
  rintro i h ⟨l,b,⟨u,v,d⟩,j,f⟩ c hc;simp only[aF,bI,Rt]at hc;rcases hc with rfl|rfl|rfl|rfl|rfl
  ·exact⟨_,l,λv q=>by cases q⟩
  ·exact⟨_,b,λv q=>by cases q⟩
  ·exact⟨_,d,λv q=>by cases q⟩
  ·exact j.rec_
  ·exact f.rec_
 keep:=λi h h' ⟨l,b,⟨u,v,d⟩,j,f⟩ G=>⟨G z (by simp) _ l,G t (by simp) _ b,⟨u,v,G to (by simp) _ d⟩,j.to λo q=>G A (by simp) o q,f.to λo q=>G n (by simp) o q⟩
 item:=by
  intro X N S L hc i ag s σ H E I g st V;subst N S L;obtain⟨l,b,⟨u0,v0,d⟩,j,f⟩:=st;obtain⟨xs,ys,x,y,C,B,ex,ey⟩:=V;obtain⟨W,aq,co,hz⟩:=eW I C;obtain⟨F,r,p,T⟩:=eW I B;obtain⟨u,hu,ru⟩:=aq.get ex;obtain⟨R,au,U⟩:=r.get ey;refine Av D l b d (se I C (g to (by simp))) (se I B (g to (by simp))) j f co p (x:=u) (y:=R) (by simpa using hu) (by simpa using au) λh1 p1 p2 p3 p4 p5 p6 ao=>?_;refine⟨.ref s.heap.objs.size,O,?_⟩;refine wpAny_letOwnedTupleGo_zip p1 λh2 z2 a=>?_;have lt:∀c∈[z,t,to,A,n],c≠s.heap.objs.size:=λc hc e=>by
   obtain⟨o,wq⟩:∃o,s.heap.get? c=some o:=by
    simp only[aF,bI,Rt]at hc;rcases hc with rfl|rfl|rfl|rfl|rfl
    ·exact⟨_,l⟩
    ·exact⟨_,b⟩
    ·exact⟨_,d⟩
    ·obtain⟨o,e,_⟩:=j.rec_;exact⟨o,e⟩
    ·obtain⟨o,e,_⟩:=f.rec_;exact⟨o,e⟩
   rw[e]at wq;exact aA _ (hL1 wq)
  have Q:∀c o,c∉[z,t,to,A,n]->s.heap.get? c=Z o->h2.get? c=Z o:=λc o hc q=>by
   simp only[aF,bI,Rt,not_or]at hc;exact a.extBut _ _ hc.1 (ao c o hc.1 hc.2.2.1 hc.2.2.2.1 hc.2.2.2.2 q)
  have tp:ms h2 s.heap.objs.size [u,R].toArray:=⟨_,a.extBut _ _ (Py (lt z (by simp))) p5,O,_,O,O⟩;have I2:=uQ I g (t':=s.toks) (nR1 _) Q tp (xs:=[x,y]) (.cons ru (.cons U .nil)) tY;have hn:H s.heap.objs.size=Y:=I.hok.fresh (nR1 _);refine⟨.ref s.heap.objs.size,_,I2,O,⟨_,x,y,hn,O,O,λav m=>by rw[nO I m C];exact ex,λav m=>by rw[nO I m B];exact ey⟩,
   ⟨z2,a.extBut _ _ D.a1 (ao _ _ D.a1 D.a5 D.a6 D.a7 b),⟨u,R,a.extBut _ _ D.a2 p2⟩,p3.to λo q=>a.extBut _ _ D.a3 q,p4.to λo q=>a.extBut _ _ D.a4 q⟩,λc hc=>?_⟩
  rw[d6 (lt c hc)];exact(g c hc).1
 done:=by
  intro X N S L hc i ag s σ H E I g st V;subst N S L;obtain⟨l,b,⟨u0,v0,d⟩,j,f⟩:=st;obtain⟨xs,ys,C,B,hl⟩:=V;obtain⟨W,aq,co,hz⟩:=eW I C;obtain⟨F,r,p,T⟩:=eW I B;have l1:=aq.length;have l2:=r.length;refine Eb (I.ok.hd hc) D l b d (se I C (g to (by simp))) (se I B (g to (by simp))) j f co p (by simp;lia) λh' eb=>⟨O,pf I (t':=s.toks) g λc o hc q=>?_⟩;simp only[aF,bI,Rt,not_or]at hc;exact eb c o hc.1 hc.2.2.1 hc.2.2.2.1 hc.2.2.2.2 q
 self:=λ_ _ _ _ _ ⟨st,_⟩ h=>wpAny_pyIter_zip st h
section
variable{elts:List Expr}{k:Nat}{tpos:Pos}
def L0(K:Fg1)(ta:TA):TI:=fun σ H R=>ta σ H λvs H1=>∃a b,vs=[.ref a]/\(∃xs,tP K b H1 a xs)/\R (Ox K b a) H1
theorem E2 {a:Expr}{ta:TA}{p pos:Pos}(hg:Gl X "enumerate")(hm:X.mg "enumerate"=Y)(ha:PA X [a] ta)(hs:autoParam (dw [a] X.env=[(J,eval a X.env)]) cu0):PI X (.Tuple elts k tpos) (.Call (.Name "enumerate" p) [a] [] pos) (L0 X.K ta):=by
 intro ag s σ H R I h;refine Call_ (jQ I hg hm boot_enumerate (Qb (fh (ha pos ag s σ H _ I h) λA g ⟨vs,H1,f,l,n⟩=>?_) hs O));obtain⟨c,b,e,⟨xs,y⟩,q⟩:=n;subst e;cases l with
 |cons r v=>
  cases v;cases r;obtain⟨u,B,co,C⟩:=eW f y;refine zU co λh' i x t w=>ro i ?_;have j:Inv X ag σ H1 {g with heap:=h'}:=f.kept (t':=g.toks) w;refine⟨g.heap.objs.size+1,[g.heap.objs.size+1,g.heap.objs.size],_,_,H1,O,j,yR b c _ _ (Nat.succ_ne_self _),⟨⟨.none,i⟩,x⟩,λd o=>?_,q⟩;rcases aF.mp o with z|z
  ·subst z;exact f.fpOk (aX _) (f.hok.fresh (aX _))
  ·have m:d=g.heap.objs.size:=by simpa using z
   subst m;exact f.fpOk (nR1 _) (f.hok.fresh (nR1 _))
def NJ(K:Fg1)(ta:TA):TI:=fun σ H R=>ta σ H λvs H1=>∃a1 b1 a2 b2,vs=[.ref a1,.ref a2]/\(∃xs,tP K b1 H1 a1 xs)/\(∃xs,tP K b2 H1 a2 xs)/\R (Ou K b1 b2 a1 a2) H1
theorem Ir {a b:Expr}{ta:TA}{p pos:Pos}(hg:Gl X "zip")(hm:X.mg "zip"=none)(ha:PA X [a,b] ta)(hs:autoParam (dw [a,b] X.env=[(false,eval a X.env),(false,eval b X.env)]) cu0)(hs2:autoParam (dw [b] X.env=[(false,eval b X.env)]) cu0):
  PI X (.Tuple elts k tpos) (.Call (.Name "zip" p) [a,b] [] pos) (NJ X.K ta):=by
 intro ag s σ H R I h;refine Call_ (jQ I hg hm boot_zip (Qb (fh (ha pos ag s σ H _ I h) λL c ⟨vs,H1,g,x,F⟩=>?_) (by rw[hs,hs2]) (by rw[hs2];rfl)));obtain⟨t,b1,C,b2,e,⟨xs,ao⟩,⟨ys,w⟩,q⟩:=F;subst e;cases x with
 |cons r j=>
  cases j with
  |cons y j=>
   cases j;cases r;cases y;obtain⟨G,aq,co,N⟩:=eW g ao;obtain⟨l,D,i,B⟩:=eW g w;refine Aw co i λh' m v A E u P K=>wpAny_pyIter_zip m ?_;have o:Inv X ag σ H1 {c with heap:=h'}:=g.kept (t':=c.toks) K;refine⟨c.heap.objs.size+4,[c.heap.objs.size+4,c.heap.objs.size+2,c.heap.objs.size+3,c.heap.objs.size,c.heap.objs.size+1],_,_,H1,O,o,AQ b1 b2 t C _ _ _ _ _ ?_,⟨m,v,⟨_,_,A⟩,E,u⟩,λd n=>?_,q⟩
   ·constructor<;>(intro z;have av:((_:Nat)=_):=z;lia)
   ·have f:c.heap.objs.size<=d:=by
     simp only[aF,bI,Rt]at n;rcases n with rfl|rfl|rfl|rfl|rfl
     ·exact br _ _
     ·exact br _ _
     ·exact br _ _
     ·exact nR1 _
     ·exact br _ _
    exact g.fpOk f (g.hok.fresh f)
end
noncomputable def dZ (S:Sto):D->Option (Bool×List D)
 | .tup xs=>some (false,xs)
 | .rol xs=>some (true,xs)
 | .ref n=>match S[n]? with
  |some (.lst xs)=>some (true,xs)
  |_=>none
 |_=>none
def jV(S:Sto):D->List (Nat×List D)
 | .ref n=>match S[n]? with
  |some (.lst xs)=>[(n,xs)]
  |_=>[]
 |_=>[]
section
variable{K:Fg1}{H:Hp}{mu:List dk}{S:Sto}
theorem dW{d:D}{v:V}{b:Bool}{xs:List D}(r:eU K H mu d v)(s:Sim K H mu S)(h:dZ S d=Z (b,xs)):∃a vs,v = .ref a/\tP K b H a vs/\dX K H mu xs vs:=by
 cases d with
 |tup ys=>cases h;cases r with|tup q t=>exact⟨_,_,rfl,q,t⟩
 |rol ys=>cases h;cases r with|rol q t=>exact⟨_,_,rfl,q.sq,t⟩
 |ref n=>
  rw[dZ]at h;split at h
  ·rename_i ys e;cases h;cases r with
   |ref q=>
    obtain⟨vs,c,f⟩:=s.lst e q;exact⟨_,vs,O,mX.of c,f⟩
  ·cases h
 |_=>cases h
theorem iV{d:D}{a:dk}{b:Bool}{xs:List D}(r:eU K H mu d (.ref a))(s:Sim K H mu S)(h:dZ S d=some (b,xs)){H1:Hp}{mu1:List dk}{S1:Sto}(x:tU mu mu1 H H1)(g:Sim K H1 mu1 S1)(ok:oR S1 (jV S d)=true):
  ∃vs,tP K b H1 a vs/\dX K H1 mu1 xs vs:=by
 have f:=r.exw x;have h1:dZ S1 d=Z (b,xs):=by
  cases d with
  |ref n=>
   rw[dZ]at h;split at h
   ·rename_i ys e;cases h;rw[jV,e]at ok;dsimp only[oR]at ok;rw[bJ]at ok;rw[dZ];split at ok
    ·rename_i zs c
     first|rw[c,D.sames_eq ok] | rw[D.sames_eq ok]
    ·cases ok
   ·cases h
  |_=>exact h
 obtain⟨i,vs,e,q,t⟩:=dW f g h1;cases e;exact⟨vs,q,t⟩
end
noncomputable def g9 (m:FE):FI:=λr S=>(m r S).bind λp=>(dZ p.2 p.1).bind λq=>some (⟨q.2,jV p.2 p.1⟩,p.2)
def u8:Nat->List D->List D
 |_,[]=>[]
 |n,d::ds=>.tup [.int n,d]::u8 (n+1) ds
noncomputable def qa (m:FA):FI:=λr S=>(m r S).bind λp=>match p.1 with
 |[d]=>(dZ p.2 d).bind λq=>some (⟨u8 0 q.2,jV p.2 d⟩,p.2)
 |_=>none
def wY:List D->List D->List D
 |x::xs,y::ys=>.tup [x,y]::wY xs ys
 |_,_=>[]
def Hj(m:FA):FI:=λr S=>(m r S).bind λp=>match p.1 with
 |[d,e]=>(dZ p.2 d).bind λq=>(dZ p.2 e).bind λt=>Z (⟨wY q.2 t.2,jV p.2 d++jV p.2 e⟩,p.2)
 |_=>Y
noncomputable def fT(lo:Int):Nat->List D
 |0=>[]
 |n+1=>.int lo::fT (lo+1) n
noncomputable def nK (m:FA):FI:=λr S=>(m r S).bind λp=>match p.1 with
 |[.int j]=>if-(2^62)<=j/\j<2^62 then some (⟨fT 0 j.toNat,[]⟩,p.2)else none
 |_=>none
def KM(m:FA):FI:=λr S=>(m r S).bind λp=>match p.1 with
 |[.int i,.int j]=>if-(2^62)<=i/\i<2^62 /\ -(2^62)<=j/\j<2^62 then Z (⟨fT i (j-i).toNat,[]⟩,p.2)else Y
 |_=>Y
theorem gD:∀(ds:List D) (n i:Nat),(u8 n ds)[i]?=(ds[i]?).map λd=>.tup [.int ((n+i:Nat):Int),d]
 |[],n,i=>by simp[u8]
 |d::ds,n,0=>by simp[u8]
 |d::ds,n,i+1=>by
  rw[u8,gC1,gD ds (n+1) i,gC1];rw[show n+1+i=n+(i+1) by lia]
theorem gO:∀(ds:List D) (n:Nat),(u8 n ds).length=ds.length
 |[],_=>rfl
 |d::ds,n=>by rw[u8,lC1,gO ds,lC1]
theorem wX:∀(xs ys:List D) (i:Nat) (d:D),(wY xs ys)[i]?=Z d -> ∃x y,xs[i]?=Z x/\ys[i]?=Z y/\d = .tup [x,y]
 |[],_,i,d,h=>by simp[wY]at h
 |_::_,[],i,d,h=>by simp[wY]at h
 |x::xs,y::ys,0,d,h=>by simp[wY]at h;exact⟨x,y,O,O,h.symm⟩
 |x::xs,y::ys,i+1,d,h=>by
  rw[wY,gC1]at h;obtain⟨b,c,a,e,f⟩:=wX xs ys i d h;exact⟨b,c,by simpa using a,by simpa using e,f⟩
theorem wW:∀(xs ys:List D) (i:Nat),(wY xs ys).length<=i->xs.length<=i\/ys.length<=i
 |[],_,i,_=>.inl (bi _)
 |_::_,[],i,_=>.inr (bi _)
 |x::xs,y::ys,0,h=>by simp[wY]at h
 |x::xs,y::ys,i+1,h=>by
  rcases wW xs ys i (by simpa[wY]using h)with q|q
  ·exact .inl (by simpa using q)
  ·exact .inr (by simpa using q)
theorem uy:∀(n:Nat) (lo:Int) (i:Nat) (d:D),(fT lo n)[i]?=Z d->i<n/\d = .int (lo+i)
 |0,lo,i,d,h=>by simp[fT]at h
 |n+1,lo,0,d,h=>by simp[fT]at h;exact⟨bK _,by rw[<- h];simp⟩
 |n+1,lo,i+1,d,h=>by
  rw[fT,gC1]at h;obtain⟨h1,h2⟩:=uy n (lo+1) i d h;refine⟨Nat.succ_lt_succ h1,?_⟩;rw[h2,show lo+1+(i:Int)=lo+((i+1:Nat):Int) by push_cast;lia]
theorem eo:∀(n:Nat) (lo:Int),(fT lo n).length=n
 |0,_=>rfl
 |n+1,lo=>by rw[fT,lC1,eo n]
theorem xI{S:Sto}:∀{c c':List (Nat×List D)},oR S (c++c')=M->oR S c=M/\oR S c'=M
 |[],_,h=>⟨O,h⟩
 |(n,xs)::c,c',h=>by
  rw[bj,oR,bA1]at h;obtain⟨h1,h2⟩:=xI h.2;exact⟨by rw[oR,bA1];exact⟨h.1,h1⟩,h2⟩
section
variable{tg:Expr}
theorem uO(K:Fg1)(lo:Int)(n:Nat)(mu:List dk)(H:Hp):N8 K (MC lo n) ⟨fT lo n,[]⟩ mu H:=by
 intro i H1 mu1 e x s ok;refine⟨λd c=>?_,λh=>by rw[eo]at h;exact h⟩;obtain⟨h1,h2⟩:=uy n lo i d c;refine⟨h1,λy H2 ⟨a,b⟩=>?_⟩;subst a;subst b;subst h2;exact⟨.refl _ _,s,.int _⟩
theorem Jh{e:Expr}{m:FE}(h:ME X e m):MI X tg e (g9 m):=oI (Ls (E1 h) (Iu h)) <| by
 rintro σ H R ⟨r,mu,S,ao,I,E,D,l,hc⟩;obtain⟨⟨d,K⟩,C,l⟩:=Sa l;obtain⟨⟨b,xs⟩,o,l⟩:=Sa l;cases l;cases b with
 |true=>
  left;refine⟨r,mu,S,d,_,E,D,C,λv H1 mu1 z g f=>?_⟩;obtain⟨a,vs,rfl,q,t⟩:=dW g f o;refine⟨a,O,⟨vs,q⟩,hc _ H1 mu1 z (λi H2 u G A n ok=>?_) f⟩;obtain⟨ws,c,k⟩:=iV g f o A n ok;refine⟨λd w=>?_,λB=>⟨ws,c,by rw[<- k.length];exact B⟩⟩;obtain⟨v,j,p⟩:=k.get w;refine⟨⟨ws,v,c,j⟩,λy F ⟨s,x⟩=>?_⟩;subst s;have:=x ws c;rw[j]at this;cases this;exact⟨.refl _ _,n,p⟩
 |false=>
  right;refine⟨r,mu,S,d,_,E,D,C,λv H1 mu1 z g f=>?_⟩;obtain⟨a,vs,rfl,q,t⟩:=dW g f o;refine⟨a,O,⟨vs,q⟩,hc _ H1 mu1 z (λi H2 u G A n ok=>?_) f⟩;obtain⟨ws,c,k⟩:=iV g f o A n ok;refine⟨λd w=>?_,λB=>⟨ws,c,by rw[<- k.length];exact B⟩⟩;obtain⟨v,j,p⟩:=k.get w;refine⟨⟨ws,v,c,j⟩,λy F ⟨s,x⟩=>?_⟩;subst s;have:=x ws c;rw[j]at this;cases this;exact⟨.refl _ _,n,p⟩
theorem oF{K:Fg1}{H:Hp}{mu:List dk}{d:D}{vs:List V}(r:dX K H mu [d] vs):∃v,vs=[v]/\eU K H mu d v:=by
 cases r with|cons r t=>cases t;exact⟨_,O,r⟩
theorem ui{K:Fg1}{H:Hp}{mu:List dk}{d e:D}{vs:List V}(r:dX K H mu [d,e] vs):∃v u,vs=[v,u]/\eU K H mu d v/\eU K H mu e u:=by
 cases r with|cons r t=>cases t with|cons q t=>cases t;exact⟨_,_,O,r,q⟩
theorem zr {a:Expr}{m:FA}{p pos:Pos}(hg:Gl X "range")(hm:X.mg "range"=Y)(ha:MA X [a] m)(hs:autoParam (dw [a] X.env=[(J,eval a X.env)]) cu0):MI X tg (.Call (.Name "range" p) [a] [] pos) (nK m):=
 oI (zj hg hm ha hs) <| by
  rintro σ H R ⟨r,mu,S,ao,i,h,hs,hm,hc⟩;obtain⟨⟨ds,k⟩,c,hm⟩:=Sa hm;dsimp only at hm;split at hm
  ·rename_i j;split at hm
   ·rename_i b;cases hm;refine⟨r,mu,S,_,_,h,hs,c,λvs H1 mu1 f d g=>?_⟩;obtain⟨v,rfl,e⟩:=oF d;cases e;exact⟨j,O,b.1,b.2,hc _ H1 mu1 f (uO _ _ _ _ _) g⟩
   ·cases hm
  ·cases hm
theorem zq {a b:Expr}{m:FA}{p pos:Pos}(hg:Gl X "range")(hm:X.mg "range"=Y)(ha:MA X [a,b] m)(hs:autoParam (dw [a,b] X.env=[(J,eval a X.env),(J,eval b X.env)]) cu0)(hs2:autoParam (dw [b] X.env=[(J,eval b X.env)]) cu0):MI X tg (.Call (.Name "range" p) [a,b] [] pos) (KM m):=
 oI (zi hg hm ha hs hs2) <| by
  rintro σ H R ⟨r,mu,S,ao,n,l,hs,hm,hc⟩;obtain⟨⟨ds,o⟩,c,hm⟩:=Sa hm;dsimp only at hm;split at hm
  ·rename_i i j;split at hm
   ·rename_i k;cases hm;refine⟨r,mu,S,_,_,l,hs,c,λvs H1 mu1 f d g=>?_⟩;obtain⟨v,u,rfl,e,h⟩:=ui d;cases e;cases h;exact⟨i,j,O,k,hc _ H1 mu1 f (uO _ _ _ _ _) g⟩
   ·cases hm
  ·cases hm
variable{elts:List Expr}{k:Nat}{tpos:Pos}
theorem FB {a:Expr}{m:FA}{p pos:Pos}(hg:Gl X "enumerate")(hm:X.mg "enumerate"=Y)(ha:MA X [a] m)(hs:autoParam (dw [a] X.env=[(J,eval a X.env)]) cu0):MI X (.Tuple elts k tpos) (.Call (.Name "enumerate" p) [a] [] pos) (qa m):=
 oI (E2 hg hm ha hs) <| by
  rintro σ H R ⟨r,mu,S,ao,I,z,hs,hm,hc⟩;obtain⟨⟨ds,K⟩,w,hm⟩:=Sa hm;dsimp only at hm;split at hm
  ·rename_i d;obtain⟨⟨b,xs⟩,o,hm⟩:=Sa hm;cases hm;refine⟨r,mu,S,_,_,z,hs,w,λvs H1 mu1 F B g=>?_⟩;obtain⟨v,rfl,j⟩:=oF B;obtain⟨a,vs,rfl,q,t⟩:=dW j g o;refine⟨a,b,O,⟨vs,q⟩,hc _ H1 mu1 F (λi H2 A N G u ok=>?_) g⟩;obtain⟨ws,e,n⟩:=iV j g o G u ok;refine⟨λd c=>?_,λs=>⟨ws,e,by rw[gO]at s;rw[<- n.length];exact s⟩⟩;rw[gD]at c;obtain⟨av,C,c⟩:=Sb c;obtain⟨v,l,h⟩:=n.get C;refine⟨⟨ws,v,e,l⟩,λy aq ⟨p,L,f,x,E,D⟩=>?_⟩;have:=D ws e;rw[l]at this;cases this;subst x;subst E;subst c;rw[bL];exact⟨Ext.fresh f,u.fresh f,.tup (kC.of d9) (.cons (.int _) (.cons (h.ext (Ext.fresh f)) .nil))⟩
  ·cases hm
theorem Jg {a b:Expr}{m:FA}{p pos:Pos}(hg:Gl X "zip")(hm:X.mg "zip"=Y)(ha:MA X [a,b] m)(hs:autoParam (dw [a,b] X.env=[(J,eval a X.env),(J,eval b X.env)]) cu0)(hs2:autoParam (dw [b] X.env=[(J,eval b X.env)]) cu0):MI X (.Tuple elts k tpos) (.Call (.Name "zip" p) [a,b] [] pos) (Hj m):=
 oI (Ir hg hm ha hs hs2) <| by
  rintro σ H R ⟨r,mu,S,ao,S',P,hs,hm,hc⟩;obtain⟨⟨ds,S1⟩,aq,hm⟩:=Sa hm;dsimp only at hm;split at hm
  ·rename_i d e;obtain⟨⟨b1,xs⟩,I,hm⟩:=Sa hm;obtain⟨⟨b2,ys⟩,K,hm⟩:=Sa hm;cases hm;refine⟨r,mu,S,_,_,P,hs,aq,λvs H1 mu1 x1 U f=>?_⟩;obtain⟨v,u,rfl,x,F⟩:=ui U;obtain⟨a1,o,rfl,q1,t1⟩:=dW x f I;obtain⟨a2,s,rfl,N,t2⟩:=dW F f K;refine⟨a1,b1,a2,b2,O,⟨o,q1⟩,⟨s,N⟩,hc _ H1 mu1 x1 (λi H2 Q S2 E t ok=>?_) f⟩;obtain⟨n,h⟩:=xI ok;obtain⟨ws,j,A⟩:=iV x f I E t n;obtain⟨c,q,B⟩:=iV F f K E t h;refine⟨λd V=>?_,λhl=>⟨ws,c,j,q,?_⟩⟩
   ·obtain⟨x',y',ex,W,rfl⟩:=wX xs ys i d V;obtain⟨v,C,w⟩:=A.get ex;obtain⟨u,L,l⟩:=B.get W;refine⟨⟨ws,c,v,u,j,q,C,L⟩,λy H3 ⟨p,v',u',g,av,wq,au,T⟩=>?_⟩;have D:=au ws j;have G:=T c q;rw[C]at D;cases D;rw[L]at G;cases G;subst av;subst wq;exact⟨Ext.fresh g,t.fresh g,.tup (kC.of d9) (.cons (w.ext (Ext.fresh g)) (.cons (l.ext (Ext.fresh g)) .nil))⟩
   ·rcases wW xs ys i hl with z|z
    ·exact .inl (by rw[<- A.length];exact z)
    ·exact .inr (by rw[<- B.length];exact z)
  ·cases hm
end
abbrev G1:=D->Sto->Option (D×Sto)
abbrev G2:=D->D->Sto->Option (D×Sto)
abbrev G3:=D->D->D->Sto->Option (D×Sto)
noncomputable def b1 (f:G1):FN:=λds S=>match ds with
 |[a]=>f a S
 |_=>none
noncomputable def b2 (f:G2):FN:=λds S=>match ds with
 |[a,b]=>f a b S
 |_=>none
noncomputable def b3 (f:G3):FN:=λds S=>match ds with
 |[a,b,c]=>f a b c S
 |_=>none
section
variable{K:Fg1}{H:Hp}{Q:VK}
theorem pW{f:G2}{x y:V}(h:rN K (b2 f) [x,y] H Q):∃mu S d e r a,eU K H mu d x/\eU K H mu e y/\Sim K H mu S/\f d e S=Z (r,a)/\tS K mu H r a Q:=by
 obtain⟨mu,S,ds,r,a,i,b,g,hc⟩:=h;cases i with
 |cons q t=>cases t with
  |cons c t=>cases t;exact⟨mu,S,_,_,r,a,q,c,b,g,hc⟩
theorem Bu{f:G1}{xs:List V}(h:rN K (b1 f) xs H Q):∃x mu S d r a,xs=[x]/\eU K H mu d x/\Sim K H mu S/\f d S=Z (r,a)/\tS K mu H r a Q:=by
 obtain⟨mu,S,ds,r,a,e,c,b,hc⟩:=h;cases e with
 |nil=>cases b
 |cons q t=>cases t with
  |nil=>exact⟨_,mu,S,_,r,a,O,q,c,b,hc⟩
  |cons g t=>cases b
theorem zf{f:G2}{xs:List V}(h:rN K (b2 f) xs H Q):∃x y mu S d e r a,xs=[x,y]/\eU K H mu d x/\eU K H mu e y/\Sim K H mu S/\f d e S=Z (r,a)/\tS K mu H r a Q:=by
 obtain⟨mu,S,ds,r,a,i,c,b,hc⟩:=h;cases i with
 |nil=>cases b
 |cons q t=>cases t with
  |nil=>cases b
  |cons g t=>cases t with
   |nil=>exact⟨_,_,mu,S,_,_,r,a,O,q,g,c,b,hc⟩
   |cons j t=>cases b
theorem tS.now{mu:List dk}{S:Sto}{d:D}{v:V}(c:tS K mu H d S Q)(r:eU K H mu d v)(s:Sim K H mu S):Q v H:=c v H mu (.refl _ _) r s
end
noncomputable def e6(i j:Int):Bool:=(decide (-(2^64)<i)&&decide (i<2^64))||(decide (-(2^64)<j)&&decide (j<2^64))||(decide (i.natAbs<2^1000)&&decide (j.natAbs<2^1000))
noncomputable def fX:G2:=λd e S=>match d,e with
 | .int i,.int j=>Z (.int (i+j),S)
 | .tup xs,.tup ys=>if xs.length+ys.length<=dy then Z (.tup (xs++ys),S)else Y
 | .str x,.str y=>if x.length+y.length<=dy then Z (.str (x++y),S)else Y
 | .ref a,.ref b=>match S[a]?,S[b]? with
  |some (.lst xs),Z (.lst ys)=>if xs.length+ys.length<=dy then Z (.ref S.length,S++[.lst (xs++ys)])else Y
  |_,_=>Y
 |_,_=>Y
def gSub:G2:=λd e S=>match d,e with
 | .int i,.int j=>Z (.int (i-j),S)
 |_,_=>Y
def mR:G2:=λd e S=>match d,e with
 | .int i,.int j=>if e6 i j=M then Z (.int (i*j),S)else Y
 |_,_=>Y
def l5:G2:=λd e S=>match d,e with
 | .int i,.int j=>if 0<j then Z (.int (i%j),S)else Y
 |_,_=>Y
def nL:G2:=λd e S=>match d,e with
 | .int i,.int j=>if 0<j/\j<1073741824 then Z (.int (i/j),S)else Y
 |_,_=>Y
def wv:G2:=λd e S=>match d,e with
 | .int i,.int j=>if 0<=j/\j<=1000000/\i.natAbs<2^64 then Z (.int (i^j.toNat),S)else Y
 |_,_=>Y
theorem wj{i j:Int}(h:e6 i j=M):IntMulOk i j:=by
 unfold e6 at h;simp only[bM,bA1,am]at h;rcases h with(⟨h1,h2⟩|⟨h1,h2⟩)|⟨h1,h2⟩
 ·exact .of_left (intBits_le_64 h1 h2)
 ·exact .of_right (intBits_le_64 h1 h2)
 ·exact .of_bits (aD (intBits_le h1) (by decide)) (aD (intBits_le h2) (by decide))
theorem nT{f:di->di->Sem di}{g:G2}{c:Int->Int->Prop}{v:Int->Int->D}(hg:∀ d e S r a,g d e S=Z (r,a) -> ∃ i j,d = .int i/\e = .int j/\c i j/\r=v i j/\a=S){b:Int->Int->V}(hv:∀i j K H mu,eU K H mu (v i j) (b i j))(ho:gE X f (rI c b)):gE X f (r2 X.K (b2 g)):=by
 intro ag s σ H x y u w Q I k p h;obtain⟨mu,S,d,e,r,a,l,r2,m,o,hc⟩:=pW h;obtain⟨i,j,rfl,rfl,n,rfl,rfl⟩:=hg d e S r a o;cases l;cases r2;exact ho ag s σ H _ _ u w Q I k p ⟨i,j,O,O,n,hc.now (hv i j _ _ _) m⟩
theorem oJ{f:di->di->Sem di}{g:G2}{v:Int->Int->D}(hg:∀ d e S r a,g d e S=Z (r,a) -> ∃ i j,d = .int i/\e = .int j/\r=v i j/\a=S){b:Int->Int->V}(hv:∀i j K H mu,eU K H mu (v i j) (b i j))(ho:gE X f (G8 b)):gE X f (r2 X.K (b2 g)):=by
 intro ag s σ H x y u w Q I c n h;obtain⟨mu,S,d,e,r,a,k,r2,l,m,hc⟩:=pW h;obtain⟨i,j,rfl,rfl,rfl,rfl⟩:=hg d e S r a m;cases k;cases r2;exact ho ag s σ H _ _ u w Q I c n ⟨i,j,O,O,hc.now (hv i j _ _ _) l⟩
theorem ni:gE X (Qd .Mult) (r2 X.K (b2 mR)):=nT (c:=λi j=>IntMulOk i j) (v:=λi j=>.int (i*j)) (λd e S r a h=>by
 unfold mR at h;split at h
 ·split at h
  ·rename_i q;cases h;exact⟨_,_,O,O,wj q,O,O⟩
  ·cases h
 ·cases h) (λ_ _ _ _ _=>.int _) (MQ λ_ _ _ _ _ _ _ hc q=>mul_int q hc)
theorem nj:gE X (Qd .Mod) (r2 X.K (b2 l5)):=nT (c:=λ_ j=>0<j) (v:=λi j=>.int (i%j)) (λd e S r a h=>by
 unfold l5 at h;split at h
 ·split at h
  ·rename_i q;cases h;exact⟨_,_,O,O,q,O,O⟩
  ·cases h
 ·cases h) (λ_ _ _ _ _=>.int _) IL
theorem ux:gE X (Qd .FloorDiv) (r2 X.K (b2 nL)):=nT (c:=MF) (v:=λi j=>.int (i/j)) (λd e S r a h=>by
 unfold nL at h;split at h
 ·split at h
  ·rename_i q;cases h;exact⟨_,_,O,O,q,O,O⟩
  ·cases h
 ·cases h) (λ_ _ _ _ _=>.int _) Ff
theorem B0:gE X (Qd .Pow) (r2 X.K (b2 wv)):=nT (c:=MD) (v:=λi j=>.int (i^j.toNat)) (λd e S r a h=>by
 unfold wv at h;split at h
 ·split at h
  ·rename_i q;cases h;exact⟨_,_,O,O,q,O,O⟩
  ·cases h
 ·cases h) (λ_ _ _ _ _=>.int _) IK
theorem Aa{s:dj}{prog:dn}{w:dr}{A:dq}{E:di->dj->Prop}{t b:dk}{ws:List di}{Q:di->dj->Prop}(ht:IsTup s.heap t ([]:List di).toArray)(hb:IsTup s.heap b ws.toArray)(h:Q (.ref b) s):
  dz (PB prog w) A (Qd .Add (.ref t) (.ref b)) Q E s:=by
 obtain⟨⟨o,q,k,p⟩,l,hc,n,i⟩:=id ht;obtain⟨⟨j,e,f,g⟩,c,d,m,a⟩:=id hb;simp only at hc i d a;subst hc i d a;exact concat_meets ⟨_,l,O⟩ ⟨_,c,O⟩ noFill_tuple_add seq_tuple_add Qv Qw (Qx _ _) (tuple_addW0 t b ([]:List di).toArray ws.toArray n m q e p g (by simp)) ⟨l,c,h⟩
theorem fY:gE X (Qd .Add) (r2 X.K (b2 fX)):=by
 intro ag s σ H x y u w Q I o q h;obtain⟨mu,S,d,e,r,P,v,r2,f,c,hc⟩:=pW h;unfold fX at c;split at c
 ·cases c;cases v;cases r2;exact IP ag s σ H _ _ u w Q I o q ⟨_,_,O,O,hc.now (.int _) f⟩
 ·rename_i xs ys;split at c
  ·rename_i t;cases c;cases v with
   |tup B k=>
    cases r2 with
    |tup A l=>
     rename_i g a1 m a2;by_cases E:g=[]
     ·subst E;have:xs=[]:=by cases k;rfl
      subst this;cases o;cases q;obtain⟨C,G,K,_⟩:=I.tuple B;obtain⟨D,aq,p2,_⟩:=I.tuple A;have:C=[]:=G.nil_iff.mpr O;subst this;exact Aa K p2 ⟨.ref a2,H,I,O,hc.now (.tup A l) f⟩
     ·refine Fg ag s σ H _ _ u w Q I o q ⟨a1,a2,g,m,O,O,B,A,E,by rw[<- k.length,<- l.length];exact t,λz=>?_,λz p n=>?_⟩
      ·subst z;have:ys=[]:=by cases l;rfl
       subst this;rw[aN]at hc;exact hc.now (.tup B k) f
      ·exact hc _ _ mu (Ext.fresh n) (.tup (kC.of d9) ((k.append l).ext (Ext.fresh n))) (f.fresh n)
  ·cases c
 ·rename_i i j;split at c
  ·rename_i t;cases c;cases v;cases r2;exact wb ag s σ H _ _ u w Q I o q ⟨i,j,O,O,t,hc.now (.str _) f⟩
  ·cases c
 ·rename_i a b;split at c
  ·rename_i xs ys av eb;split at c
   ·rename_i t;cases c;cases v with
    |ref ao=>
     cases r2 with
     |ref L=>
      obtain⟨g,F,k⟩:=f.lst av ao;obtain⟨m,N,l⟩:=f.lst eb L;refine IN ag s σ H _ _ u w Q I o q ⟨_,_,g,m,O,O,F,N,by rw[<- k.length,<- l.length];exact t,λp n=>?_⟩;exact hc _ _ (mu++[p]) (Ext.new_ n) (.ref (hO f.len p)) (f.newL (k.append l) n)
   ·cases c
  ·cases c
 ·cases c
def jm(p:Int->Int->Bool):G2:=λd e S=>match d,e with
 | .int i,.int j=>Z (.bl (p i j),S)
 |_,_=>Y
theorem tj{p:Int->Int->Bool}(d e:D)(S:Sto)(r:D)(S':Sto)(h:jm p d e S=Z (r,S')):∃i j,d = .int i/\e = .int j/\r = .bl (p i j)/\S'=S:=by
 unfold jm at h;split at h
 ·cases h;exact⟨_,_,O,O,O,O⟩
 ·cases h
theorem Ny:gE X (Qe .LtE) (r2 X.K (b2 (jm λi j=>decide (i<=j)))):=oJ tj (λ_ _ _ _ _=>.bl _) Ly
theorem Fk:gE X (Qe .Gt) (r2 X.K (b2 (jm λi j=>decide (j<i)))):=oJ tj (λ_ _ _ _ _=>.bl _) Lz
theorem LF:gE X (Qe .GtE) (r2 X.K (b2 (jm λi j=>decide (j<=i)))):=oJ tj (λ_ _ _ _ _=>.bl _) LA
def l6:D->Bool
 | .non=>M
 | .bl _=>M
 | .int _=>M
 | .str _=>M
 |_=>J
noncomputable def MY:D->D->Option Bool
 | .non,.non=>some true
 | .bl a,.bl b=>some (a == b)
 | .bl a,.int b=>some ((if a then 1 else 0) == b)
 | .int a,.bl b=>some (a == (if b then 1 else 0))
 | .int a,.int b=>some (a == b)
 | .str a,.str b=>some (a == b)
 |d,e=>if l6 d&&l6 e then some false else none
def wF(f:D->D->Option Bool):List D->List D->Option Bool
 |x::xs,y::ys=>(f x y).bind λb=>(wF f xs ys).map λc=>b&&c
 |[],[]=>Z M
 |_,_=>Z J
def i8(S:Sto):Nat->D->D->Option Bool
 |0,_,_=>Y
 |n+1,d,e=>match dZ S d,dZ S e with
  |some p,Z q=>if p.1=q.1 then(if p.1=M/\p.2.length≠q.2.length then Z J else wF (i8 S n) p.2 q.2)else Z J
  |some _,Y=>if l6 e=M then Z J else Y
  |none,Z _=>if l6 d=M then Z J else Y
  |none,Y=>MY d e
section
variable{ag:List (dk×Obj)}{σ:L2.St}{H:Hp}{s:dj}{mu:List dk}{S:Sto}
theorem fP{K:Fg1}{d:D}{v:V}(r:eU K H mu d v)(h:l6 d=M):kZ v=M /\ ∀e w,eU K H mu e w->l6 e=M->MY d e=Z (vH v w):=by
 cases d with
 |non=>cases r;refine⟨O,λe w q f=>?_⟩;cases e with
  |non=>cases q;rfl
  |bl _=>cases q;rfl
  |int _=>cases q;rfl
  |str _=>cases q;rfl
  |_=>cases f
 |bl b=>cases r;refine⟨O,λe w q f=>?_⟩;cases e with
  |non=>cases q;rfl
  |bl _=>cases q;rfl
  |int _=>cases q;rfl
  |str _=>cases q;rfl
  |_=>cases f
 |int i=>cases r;refine⟨O,λe w q f=>?_⟩;cases e with
  |non=>cases q;rfl
  |bl _=>cases q;rfl
  |int _=>cases q;rfl
  |str _=>cases q;rfl
  |_=>cases f
 |str x=>cases r;refine⟨O,λe w q f=>?_⟩;cases e with
  |non=>cases q;rfl
  |bl _=>cases q;rfl
  |int _=>cases q;rfl
  |str _=>cases q;rfl
  |_=>cases f
 |_=>cases h
theorem pw{d e:D}{b:Bool}(h:MY d e=Z b):l6 d=M/\l6 e=M:=by
 cases d<;>cases e<;>first|exact⟨rfl,rfl⟩|(cases h;done)|exact nomatch h|(simp[MY,l6]at h)
theorem C3{v:V}(h:kZ v=M):vH v v=M:=by
 cases v<;>first|rfl|(cases h;done)|exact Ru _|(simp[vH];done)
theorem u6(I:Inv X ag σ H s)(hs:Sim X.K H mu S):∀(n:Nat) {d e:D} {v:V} {b:Bool},eU X.K H mu d v->eU X.K H mu e v->i8 S n d e=Z b->b=M
 |0,_,_,_,_,_,_,h=>by cases h
 |n + 1,d,e,v,b,y,l,h=>by
  rw[i8]at h;have g:∀{xs ys:List D} {vs:List V} {b:Bool},dX X.K H mu xs vs->dX X.K H mu ys vs->wF (i8 S n) xs ys=Z b->b=M:=by
   intro xs
   induction xs with
   |nil=>intro ys vs b A w h;cases A;cases w;cases h;rfl
   |cons x xs ih=>
    intro ys vs b A w h;cases A with
    |cons r t=>
     cases w with
     |cons ao F=>
      rw[wF]at h;obtain⟨b1,i,h⟩:=Sa h;obtain⟨b2,c,h⟩:=Sb h;subst h;rw[u6 I hs n r ao i,ih t F c];rfl
  cases hd:dZ S d with
  |some p=>
   obtain⟨C,xs⟩:=p;obtain⟨a,vs,rfl,q,t⟩:=dW y hs hd;cases he:dZ S e with
   |some p2=>
    obtain⟨qb,ys⟩:=p2;obtain⟨a2,B,c,m,z⟩:=dW l hs he;cases c;rw[hd,he]at h;dsimp only at h;obtain⟨Q,T,co,_⟩:=eW I q;obtain⟨E,aq,j,_⟩:=eW I m;have P:C=qb:=by
     cases C<;>cases qb
     ·rfl
     ·obtain⟨o,i,u,_⟩:=co;obtain⟨N,c,k,_⟩:=j;rw[i]at c;cases c;rw[u]at k;exact absurd k (by decide)
     ·obtain⟨o,i,u,_⟩:=co;obtain⟨N,c,k,_⟩:=j;rw[i]at c;cases c;rw[u]at k;exact absurd k (by decide)
     ·rfl
    subst P;have R:=nO I q m;subst R;rw[ak O,aj (by rw[t.length,z.length];simp)]at h;exact g t z h
   |none=>
    rw[hd,he]at h;dsimp only at h;split at h
    ·rename_i f;have:=(fP l f).1;cases this
    ·cases h
  |none=>
   cases he:dZ S e with
   |some p2=>
    obtain⟨qb,ys⟩:=p2;obtain⟨a2,B,c,m,z⟩:=dW l hs he;subst c;rw[hd,he]at h;dsimp only at h;split at h
    ·rename_i f;have:=(fP y f).1;cases this
    ·cases h
   |none=>
    rw[hd,he]at h;dsimp only at h;obtain⟨K,L⟩:=pw h;obtain⟨av,G⟩:=fP y K;rw[G e v l L]at h;cases h;exact C3 av
theorem fw{A:dq}{b:Bool}{a:dk}{its:Array di}{v:V}{u:di}(c:SCo b s.heap a its)(r:d4 v u)(f:kZ v=true)(d:A.units<Ql):
   QO A s (.ref a) u J/\QO A s u (.ref a) J/\Rv A s (.ref a) u J/\Rv A s u (.ref a) J:=by
 cases v with
 | non => cases r;cases b
          · exact⟨.tuple_none c d,.none_tuple c d,.tuple_none c d,.none_tuple c d⟩
          · exact⟨.list_none c d,.none_list c d,.list_none c d,.none_list c d⟩
 | bl k => cases r;cases b
           · exact⟨.tuple_bool k c d,.bool_tuple k c d,.tuple_bool k c d,.bool_tuple k c d⟩
           · exact⟨.list_bool k c d,.bool_list k c d,.list_bool k c d,.bool_list k c d⟩
 | int i => obtain ⟨t,rfl⟩:=r;cases b
            · exact⟨.tuple_int i t c d,.int_tuple i t c d,.tuple_int i t c d,.int_tuple i t c d⟩
            · exact⟨.list_int i t c d,.int_list i t c d,.list_int i t c d,.int_list i t c d⟩
 | str x => obtain ⟨t,rfl⟩:=r;cases b
            · exact⟨.tuple_str x t c d,.str_tuple x t c d,.tuple_str x t c d,.str_tuple x t c d⟩
            · exact⟨.list_str x t c d,.str_list x t c d,.list_str x t c d,.str_list x t c d⟩
 |_=>cases f
theorem EK{A:dq}{x y:V}{u w:di}(c:d4 x u)(a:d4 y w)(h:kZ x=M)(g:kZ y=M):Rv A s u w (vH x y):=by
 cases x with
 |non=>cases c;cases y with
  |non=>cases a;exact .none_none
  |bl k=>cases a;exact .none_bool k
  |int i=>obtain⟨t,rfl⟩:=a;exact .none_int i t
  |str z=>obtain⟨t,rfl⟩:=a;exact .none_str z t
  |_=>cases g
 |bl f=>cases c;cases y with
  |non=>cases a;exact .bool_none f
  |bl k=>cases a;exact .bool_bool f k
  |int i=>obtain⟨t,rfl⟩:=a;exact .bool_int f i t
  |str z=>obtain⟨t,rfl⟩:=a;exact .bool_str f z t
  |_=>cases g
 |int e=>obtain⟨b,rfl⟩:=c;cases y with
  |non=>cases a;exact .int_none e b
  |bl k=>cases a;exact .int_bool e b k
  |int i=>obtain⟨t,rfl⟩:=a;exact .int_int e b i t
  |str z=>obtain⟨t,rfl⟩:=a;exact .int_str e b z t
  |_=>cases g
 |str d=>obtain⟨b,rfl⟩:=c;cases y with
  |non=>cases a;exact .str_none d b
  |bl k=>cases a;exact .str_bool d b k
  |int i=>obtain⟨t,rfl⟩:=a;exact .str_int d b i t
  |str z=>obtain⟨t,rfl⟩:=a;exact .str_str d b z t
  |_=>cases g
 |_=>cases h
theorem wE(f:D->D->Option Bool):∀{xs ys:List D} {b:Bool},wF f xs ys=Z b -> ∃e:Nat->Bool,(∀j x y,xs[j]?=Z x->ys[j]?=Z y->f x y=Z (e j))/\b=((af (min xs.length ys.length)).all e&&xs.length == ys.length)
 |[],[],b,h=>by cases h;exact⟨λ_=>M,λj x y h=>by simp at h,O⟩
 |[],y::ys,b,h=>by cases h;exact⟨λ_=>M,λj x y h=>by simp at h,by simp⟩
 |x::xs,[],b,h=>by cases h;exact⟨λ_=>M,λj x y h h'=>by simp at h',by simp⟩
 |x::xs,y::ys,b,h=>by
  rw[wF]at h;obtain⟨b1,d,h⟩:=Sa h;obtain⟨b2,l,h⟩:=Sb h;obtain⟨e,m,k⟩:=wE f l;refine⟨λj=>match j with|0=>b1|j+1=>e j,λj g i a c=>?_,?_⟩
  ·cases j with
   |zero=>simp at a c;subst a;subst c;exact d
   |succ j=>exact m j g i (by simpa using a) (by simpa using c)
  ·rw[<- h,k,lC1,lC1,Nat.succ_min_succ,List.range_succ_eq_map,bN,List.all_map];have:((xs.length+1 == ys.length+1):Bool)=(xs.length == ys.length):=by simp
   rw[this,Bool.and_assoc];rfl
theorem lm(I:Inv X ag σ H s)(hs:Sim X.K H mu S):∀(n:Nat) {A:dq} {d e:D} {v w:V} {u z:di} {b:Bool},A.units+n<Ql->eU X.K H mu d v->eU X.K H mu e w->d4 v u->d4 w z->i8 S n d e=Z b->QO A s u z b/\Rv A s u z b
 |0,_,_,_,_,_,_,_,_,_,_,_,_,_,h=>by cases h
 |n + 1,A,d,e,v,w,u,z,b,hu,N,o,P,K,h=>by
  have i:A.units<Ql:=by lia
  have h0:=h;rw[i8]at h;cases hd:dZ S d with
  |some p=>
   obtain⟨T,xs⟩:=p;obtain⟨a,vs,rfl,q,t⟩:=dW N hs hd;obtain⟨k,aq,co,_⟩:=eW I q;cases P;cases he:dZ S e with
   |some p2=>
    obtain⟨qb,ys⟩:=p2;obtain⟨a2,L,rfl,R,av⟩:=dW o hs he;obtain⟨c,m,g,_⟩:=eW I R;cases K;rw[hd,he]at h;dsimp only at h;have l:Rv A s (.ref a) (.ref a2) b->QO A s (.ref a) (.ref a2) b/\Rv A s (.ref a) (.ref a2) b:=λrc=>by
     refine⟨?_,rc⟩;by_cases ha:a=a2
     ·subst ha;rw[u6 I hs (n+1) N o h0];exact .same _
     ·exact .of_refs ha rc
    split at h
    ·rename_i Q;have U:T=qb:=Q;subst U;split at h
     ·rename_i hl;cases h;obtain⟨h1,h2⟩:=hl;subst h1;refine l (.lists_lengths co g ?_ i);have l1:=t.length;have l2:=av.length;have l3:=aq.length;have l4:=m.length
      simp only[sT1,bne_iff_ne,ne_eq];lia
     ·rename_i hl;obtain ⟨f,hf,C⟩:=wE _ h;have elts:∀ j (h1:j<k.toArray.size) (h2:j<c.toArray.size),QO A.in1 s k.toArray[j] c.toArray[j] (f j):=fun j h1 h2=>by
       have F:j<k.length:=by simpa using h1
       have E:j<c.length:=by simpa using h2
       have k1:j<vs.length:=by rw[aq.length];exact F
       have k2:j<L.length:=by rw[m.length];exact E
       obtain⟨x,ex,rx⟩:=t.getV (gG1 k1);obtain⟨y,ey,ry⟩:=av.getV (gG1 k2);obtain⟨u1,B,au⟩:=aq.get (gG1 k1);obtain⟨u2,ao,W⟩:=m.get (gG1 k2);have r:k.toArray[j]=u1:=by
        rw[gG1 F]at B;simpa using B
       have wq:c.toArray[j]=u2:=by
        rw[gG1 E]at ao;simpa using ao
       rw[r,wq];exact(lm I hs n (A:=A.in1) (by show A.units+1+n<Ql;lia) rx ry au W (hf j x y ex ey)).1
      have l1:=t.length;have l2:=av.length;have l3:=aq.length;have l4:=m.length
      cases T with
      |false=>
       refine l ?_;have:=SeqAt.RcAt.tuples co g i elts;rw[C];have r:k.toArray.size=xs.length:=by simp;lia
       have wq:c.toArray.size=ys.length:=by simp;lia
       rw[r,wq]at this;exact this
      |true=>
       refine l ?_;have G:xs.length=ys.length:=by
        by_cases z:xs.length=ys.length
        ·exact z
        ·exact absurd ⟨O,z⟩ hl
       have:=SeqAt.RcAt.lists co g (by simp;lia) i elts;rw[C];have r:k.toArray.size=xs.length:=by simp;lia
       rw[r]at this;rw[G,Nat.min_self,Ru,bJ,<- G];exact this
    ·rename_i Q;cases h;cases T with
     |true=>
      cases qb with
      |true=>exact absurd O Q
      |false=>exact⟨.list_tuple co g i,.list_tuple co g i⟩
     |false=>
      cases qb with
      |false=>exact absurd O Q
      |true=>exact⟨.tuple_list co g i,.tuple_list co g i⟩
   |none=>
    rw[hd,he]at h;dsimp only at h;split at h
    ·rename_i f;cases h;obtain⟨r1,r2,r3,r4⟩:=fw co K (fP o f).1 i;exact⟨r1,r3⟩
    ·cases h
  |none=>
   cases he:dZ S e with
   |some p2=>
    obtain⟨qb,ys⟩:=p2;obtain⟨a2,L,rfl,R,av⟩:=dW o hs he;obtain⟨c,m,g,_⟩:=eW I R;cases K;rw[hd,he]at h;dsimp only at h;split at h
    ·rename_i f;cases h;obtain⟨r1,r2,r3,r4⟩:=fw g P (fP N f).1 i;exact⟨r2,r4⟩
    ·cases h
   |none=>
    rw[hd,he]at h;dsimp only at h;obtain⟨f1,f2⟩:=pw h;obtain⟨g1,g2⟩:=fP N f1;have g3:=(fP o f2).1;rw[g2 e w o f2]at h;cases h;exact⟨lp P K g1 g3,EK P K g1 g3⟩
end
def d8:Nat:=60
def gEq:G2:=λd e S=>(i8 S d8 d e).map λb=>(.bl b,S)
theorem iZ(l:X.A.units+64<Ql):gE X (Qe .Eq) (r2 X.K (b2 gEq)):=by
 intro ag s σ H x y u w Q I f j h;obtain⟨mu,S,d,e,r,k,i,r2,c,a,hc⟩:=pW h;obtain⟨b,g,a⟩:=Sb a;cases a;exact(lm I c d8 (by show _+60<Ql;lia) i r2 f j g).2 X.prog X.w X.xe _ ⟨.bl b,H,I,O,hc.now (.bl b) c⟩
section
variable{ag:List (dk×Obj)}{σ:L2.St}{H:Hp}{s:dj}{mu:List dk}{S:Sto}
theorem Fo{A:dq}{x y:V}{u w:di}(c:d4 x u)(a:d4 y w)(h:kZ x=M)(g:kZ y=M):SeqAt.RcNeAt A s u w (!vH x y):=by
 cases x with
 |non=>cases c;cases y with
  |non=>cases a;exact .none_none
  |bl k=>cases a;exact .none_bool k
  |int i=>obtain⟨t,rfl⟩:=a;exact .none_int i t
  |str z=>obtain⟨t,rfl⟩:=a;exact .none_str z t
  |_=>cases g
 |bl f=>cases c;cases y with
  |non=>cases a;exact .bool_none f
  |bl k=>cases a;exact .bool_bool f k
  |int i=>obtain⟨t,rfl⟩:=a;exact .bool_int f i t
  |str z=>obtain⟨t,rfl⟩:=a;exact .bool_str f z t
  |_=>cases g
 |int e=>obtain⟨b,rfl⟩:=c;cases y with
  |non=>cases a;exact .int_none e b
  |bl k=>cases a;exact .int_bool e b k
  |int i=>obtain⟨t,rfl⟩:=a;exact .int_int e b i t
  |str z=>obtain⟨t,rfl⟩:=a;exact .int_str e b z t
  |_=>cases g
 |str d=>obtain⟨b,rfl⟩:=c;cases y with
  |non=>cases a;exact .str_none d b
  |bl k=>cases a;exact .str_bool d b k
  |int i=>obtain⟨t,rfl⟩:=a;exact .str_int d b i t
  |str z=>obtain⟨t,rfl⟩:=a;exact .str_str d b z t
  |_=>cases g
 |_=>cases h
theorem nk{A:dq}{b:Bool}{a:dk}{its:Array di}{v:V}{u:di}(c:SCo b s.heap a its)(r:d4 v u)(f:kZ v=M)(d:A.units<Ql):SeqAt.RcNeAt A s (.ref a) u M/\SeqAt.RcNeAt A s u (.ref a) M:=by
 cases v with
 | non => cases r;cases b
          · exact⟨.tuple_none c d,.none_tuple c d⟩
          · exact⟨.list_none c d,.none_list c d⟩
 | bl k => cases r;cases b
           · exact⟨.tuple_bool k c d,.bool_tuple k c d⟩
           · exact⟨.list_bool k c d,.bool_list k c d⟩
 | int i => obtain ⟨t,rfl⟩:=r;cases b
            · exact⟨.tuple_int i t c d,.int_tuple i t c d⟩
            · exact⟨.list_int i t c d,.int_list i t c d⟩
 | str x => obtain ⟨t,rfl⟩:=r;cases b
            · exact⟨.tuple_str x t c d,.str_tuple x t c d⟩
            · exact⟨.list_str x t c d,.str_list x t c d⟩
 |_=>cases f
theorem IX(I:Inv X ag σ H s)(hs:Sim X.K H mu S)(n:Nat){A:dq}{d e:D}{v w:V}{u z:di}{b:Bool}(hu:A.units+n<Ql)(Q:eU X.K H mu d v)(o:eU X.K H mu e w)(W:d4 v u)(K:d4 w z)(h:i8 S n d e=Z b):SeqAt.RcNeAt A s u z (!b):=by
 cases n with
 |zero=>cases h
 |succ n=>
  have i:A.units<Ql:=by lia
  rw[i8]at h;cases hd:dZ S d with
  |some p=>
   obtain⟨av,xs⟩:=p;obtain⟨a,vs,rfl,q,t⟩:=dW Q hs hd;obtain⟨k,N,co,_⟩:=eW I q;cases W;cases he:dZ S e with
   |some p2=>
    obtain⟨qb,ys⟩:=p2;obtain⟨a2,ao,rfl,aq,T⟩:=dW o hs he;obtain⟨c,l,g,_⟩:=eW I aq;cases K;rw[hd,he]at h;dsimp only at h;have l1:=t.length;have l2:=T.length;have l3:=N.length;have l4:=l.length
    split at h
    ·rename_i L;have P:av=qb:=L;subst P;split at h
     ·rename_i wq;cases h;obtain⟨h1,h2⟩:=wq;subst h1;refine .lists_lengths co g ?_ i;simp only[sT1,bne_iff_ne,ne_eq];lia
     ·rename_i wq;obtain ⟨f,hf,B⟩:=wE _ h;have elts:∀ j (h1:j<k.toArray.size) (h2:j<c.toArray.size),QO A.in1 s k.toArray[j] c.toArray[j] (f j):=fun j h1 h2=>by
       have E:j<k.length:=by simpa using h1
       have C:j<c.length:=by simpa using h2
       have k1:j<vs.length:=by rw[N.length];exact E
       have k2:j<ao.length:=by rw[l.length];exact C
       obtain⟨x,ex,rx⟩:=t.getV (gG1 k1);obtain⟨y,ey,ry⟩:=T.getV (gG1 k2);obtain⟨u1,r,U⟩:=N.get (gG1 k1);obtain⟨u2,F,R⟩:=l.get (gG1 k2);have m:k.toArray[j]=u1:=by
        rw[gG1 E]at r;simpa using r
       have au:c.toArray[j]=u2:=by
        rw[gG1 C]at F;simpa using F
       rw[m,au];exact(lm I hs n (A:=A.in1) (by show A.units+1+n<Ql;lia) rx ry U R (hf j x y ex ey)).1
      cases av with
      |false=>
       have:=SeqAt.RcNeAt.tuples co g i elts;rw[B];have m:k.toArray.size=xs.length:=by simp;lia
       have au:c.toArray.size=ys.length:=by simp;lia
       rw[m,au]at this;exact this
      |true=>
       have G:xs.length=ys.length:=by
        by_cases z:xs.length=ys.length
        ·exact z
        ·exact absurd ⟨O,z⟩ wq
       have:=SeqAt.RcNeAt.lists co g (by simp;lia) i elts;rw[B];have m:k.toArray.size=xs.length:=by simp;lia
       rw[m]at this;rw[G,Nat.min_self,Ru,bJ,<- G];exact this
    ·rename_i L;cases h;cases av with
     |true=>
      cases qb with
      |true=>exact absurd O L
      |false=>exact .list_tuple co g i
     |false=>
      cases qb with
      |false=>exact absurd O L
      |true=>exact .tuple_list co g i
   |none=>
    rw[hd,he]at h;dsimp only at h;split at h
    ·rename_i f;cases h;exact(nk co K (fP o f).1 i).1
    ·cases h
  |none=>
   cases he:dZ S e with
   |some p2=>
    obtain⟨qb,ys⟩:=p2;obtain⟨a2,ao,rfl,aq,T⟩:=dW o hs he;obtain⟨c,l,g,_⟩:=eW I aq;cases K;rw[hd,he]at h;dsimp only at h;split at h
    ·rename_i f;cases h;exact(nk g W (fP Q f).1 i).2
    ·cases h
   |none=>
    rw[hd,he]at h;dsimp only at h;obtain⟨f1,f2⟩:=pw h;obtain⟨g1,g2⟩:=fP Q f1;have g3:=(fP o f2).1;rw[g2 e w o f2]at h;cases h;exact Fo W K g1 g3
end
def ww:G2:=λd e S=>(i8 S d8 d e).map λb=>(.bl (!b),S)
def D3(f:D->D->Option Bool)(x:D):List D->Option Bool
 |[]=>Z J
 |y::ys=>(f y x).bind λb=>(D3 f x ys).map λc=>b||c
def KN:G2:=λd e S=>(dZ S e).bind λp=>(D3 (i8 S d8) d p.2).map λb=>(.bl b,S)
def mQ:G2:=λd e S=>(dZ S e).bind λp=>(D3 (i8 S d8) d p.2).map λb=>(.bl (!b),S)
noncomputable def rd:D->Bool
 | .non=>M
 |_=>J
def NM:G2:=λd e S=>match e with
 | .non=>Z (.bl (rd d),S)
 |_=>Y
def Gp:G2:=λd e S=>match e with
 | .non=>Z (.bl (!rd d),S)
 |_=>Y
section
theorem wg(l:X.A.units+64<Ql):gE X (Qe .NotEq) (r2 X.K (b2 ww)):=by
 intro ag s σ H x y u w Q I f j h;obtain⟨mu,S,d,e,r,k,i,r2,c,a,hc⟩:=pW h;obtain⟨b,g,a⟩:=Sb a;cases a;exact IX I c d8 (by show _+60<Ql;lia) i r2 f j g X.prog X.w X.xe _ ⟨.bl (!b),H,I,O,hc.now (.bl _) c⟩
theorem CK(f:D->D->Option Bool)(x:D):∀{ys:List D} {b:Bool},D3 f x ys=Z b -> ∃bs:List Bool,bs.length=ys.length/\(∀(j:Nat) (y:D) (k:Bool),ys[j]?=Z y->bs[j]?=Z k->f y x=Z k)/\b=bs.any id
 |[],b,h=>by cases h;exact⟨[],O,λj y k h=>by simp at h,O⟩
 |y::ys,b,h=>by
  rw[D3]at h;obtain⟨b1,e,h⟩:=Sa h;obtain⟨b2,l,h⟩:=Sb h;obtain⟨bs,m,i,a⟩:=CK f x l;refine⟨b1::bs,by simp[m],λj g k d c=>?_,?_⟩
  ·cases j with
   |zero=>simp at d c;subst d;subst c;exact e
   |succ j=>exact i j g k (by simpa using d) (by simpa using c)
  ·rw[<- h,a];simp
open Classical in
theorem Hi{ag:List (dk×Obj)}{σ:L2.St}{H:Hp}{s:dj}{mu:List dk}{S:Sto}(I:Inv X ag σ H s)(hs:Sim X.K H mu S){A:dq}(K:A.units+61<Ql){x:D}{v:V}{u:di}(t:eU X.K H mu x v)(F:d4 v u){ys:List D}{vs:List V}{a:List di}{b:Bool}(q:dX X.K H mu ys vs)(o:ee vs a)(h:D3 (i8 S d8) x ys=Z b):∃e:di->Bool,(∀w∈a,QO A.in1 s w u (e w))/\a.any e=b:=by
 obtain⟨bs,N,G,rfl⟩:=CK _ x h;have ao:=q.length;have L:=o.length;have l:∀(j:Nat) w k,a[j]?=Z w->bs[j]?=Z k->QO A.in1 s w u k:=λj w k g f=>by
  have r:j<a.length:=(R9 g).1;obtain⟨y,C,B⟩:=q.getV (i:=j) (v:=vs[j]'(by lia)) (gG1 (by lia));obtain⟨aq,p,r2⟩:=o.get (i:=j) (x:=vs[j]'(by lia)) (gG1 (by lia));rw[g]at p;cases p;exact(lm I hs d8 (A:=A.in1) (by show A.units+1+60<Ql;lia) B t r2 F (G j y k C f)).1
 refine⟨λw=>decide (∃j:Nat,a[j]?=Z w/\bs[j]?=Z M),λw g=>?_,?_⟩
 ·by_cases z:∃j:Nat,a[j]?=Z w/\bs[j]?=Z M
  ·dsimp only;rw[ah z];obtain⟨j,n,c⟩:=z;exact l j w M n c
  ·dsimp only;rw[ai z];obtain⟨j,d⟩:=bq g;have r:j<a.length:=(R9 d).1;have m:j<bs.length:=by lia
   have c:=gG1 m;cases f:bs[j]with
   |true=>rw[f]at c;exact absurd ⟨j,d,c⟩ z
   |false=>rw[f]at c;exact l j w J d c
 ·rw[bO,bP,bP];constructor
  ·rintro⟨w,g,z⟩;obtain⟨j,n,c⟩:=Q4 z;exact⟨M,gM1 c,O⟩
  ·rintro⟨k,f,z⟩;obtain⟨j,d⟩:=bq f;have r:j<bs.length:=(R9 d).1;have m:j<a.length:=by lia
   have E:k=M:=z;subst E;exact⟨a[j],bQ m,ah ⟨j,gG1 m,d⟩⟩
theorem Nz(E:X.A.units+64<Ql):gE X (Qe .In) (r2 X.K (b2 KN)):=by
 intro ag s σ H x y u w Q I m C h;obtain⟨mu,S,d,e,r,D,o,r2,j,i,hc⟩:=pW h;obtain⟨⟨v,ys⟩,n,i⟩:=Sa i;obtain⟨b,B,i⟩:=Sb i;cases i;obtain⟨a,vs,rfl,q,t⟩:=dW r2 j n;cases C;obtain⟨c,p,co,_⟩:=eW I q;obtain⟨f,l,z⟩:=Hi I j (A:=X.A) (by lia) o m t p B;have g:EP X ag σ Q (.bool (c.toArray.any f)) s:=⟨.bl b,H,I,by rw[show c.toArray.any f=c.any f by simp,z];rfl,hc.now (.bl b) j⟩;cases v
 ·exact SeqAt.in_tupleAt f co (λy k=>l y (by simpa using k)) g
 ·exact SeqAt.in_listAt f co (λy k=>l y (by simpa using k)) g
theorem Fj(E:X.A.units+64<Ql):gE X (Qe .NotIn) (r2 X.K (b2 mQ)):=by
 intro ag s σ H x y u w Q I m C h;obtain⟨mu,S,d,e,r,D,o,r2,j,i,hc⟩:=pW h;obtain⟨⟨v,ys⟩,n,i⟩:=Sa i;obtain⟨b,B,i⟩:=Sb i;cases i;obtain⟨a,vs,rfl,q,t⟩:=dW r2 j n;cases C;obtain⟨c,p,co,_⟩:=eW I q;obtain⟨f,l,z⟩:=Hi I j (A:=X.A) (by lia) o m t p B;have g:EP X ag σ Q (.bool (!c.toArray.any f)) s:=⟨.bl (!b),H,I,by rw[show c.toArray.any f=c.any f by simp,z];rfl,hc.now (.bl _) j⟩;cases v
 ·exact SeqAt.notIn_tupleAt f co (λy k=>l y (by simpa using k)) g
 ·exact SeqAt.notIn_listAt f co (λy k=>l y (by simpa using k)) g
theorem xK{K:Fg1}{H:Hp}{mu:List dk}{d:D}{v:V}(r:eU K H mu d v):rd d=decide (v = .non):=by
 cases r<;>simp[rd]
theorem LC:gE X (Qe .Is) (r2 X.K (b2 NM)):=by
 intro ag s σ H x y u w Q I b g h;obtain⟨mu,S,d,e,r,i,c,r2,f,a,hc⟩:=pW h;cases e with
 |non=>
  cases a;cases r2;refine IM ag s σ H _ _ u w Q I b g ⟨O,?_⟩;rw[<- xK c];exact hc.now (.bl _) f
 |_=>cases a
theorem IT:gE X (Qe .IsNot) (r2 X.K (b2 Gp)):=by
 intro ag s σ H x y u w Q I b g h;obtain⟨mu,S,d,e,r,i,c,r2,f,a,hc⟩:=pW h;cases e with
 |non=>
  cases a;cases r2;refine Fe ag s σ H _ _ u w Q I b g ⟨O,?_⟩;rw[<- xK c];exact hc.now (.bl _) f
 |_=>cases a
end
def eB:G1:=λd S=>match d with
 | .str x=>if x.length<=dy then Z (.int x.length,S)else Y
 |_=>(dZ S d).map λp=>(.int p.2.length,S)
def D5:G2:=λd e S=>match e with
 | .int i=>(dZ S d).bind λp=>(wM p.2 i).map λx=>(x,S)
 |_=>Y
def gTup:G1:=λd S=>(dZ S d).map λp=>(.tup p.2,S)
def Go:G1:=λd S=>(dZ S d).map λp=>(.ref S.length,S++[.lst p.2])
def lj:G3:=λo i v S=>match o,i with
 | .ref n,.int k=>match S[n]? with
  |some (.lst xs)=>(zE xs.length k).map λj=>(.non,S.set n (.lst (xs.set j v)))
  |_=>Y
 |_,_=>Y
def DD:List D->Option Bool
 |[]=>Z M
 | .bl b::r=>(DD r).map λc=>b&&c
 |_=>Y
def qc:G1:=λd S=>(dZ S d).bind λp=>(DD p.2).map λb=>(.bl b,S)
def pk:G1:=λd S=>match d with
 | .int i=>Z (.int i,S)
 | .bl b=>Z (.int (if b then 1 else 0),S)
 |_=>Y
def Gm:G2:=λd e S=>match d,e with
 | .int i,.int j=>Z (.int (if j>i then j else i),S)
 |_,_=>Y
def Gk:G2:=λd e S=>match d,e with
 | .int i,.int j=>Z (.int (if j<i then j else i),S)
 |_,_=>Y
theorem eH:eQ X (.builtin "len") (rN X.K (b1 eB)):=by
 intro ag s σ H xs f Q I r h;obtain⟨x,mu,S,d,k,l,rfl,g,e,c,hc⟩:=Bu h;unfold eB at c;split at c
 ·split at c
  ·rename_i z j;cases c;cases g;exact tI ag s σ H _ f Q I r ⟨_,O,j,hc.now (.int _) e⟩
  ·cases c
 ·obtain⟨⟨b,ys⟩,i,c⟩:=Sb c;cases c;obtain⟨a,vs,rfl,q,t⟩:=dW g e i;refine tJ ag s σ H _ f Q I r ⟨a,vs,O,?_,?_⟩
  ·cases b
   ·exact .inr q
   ·exact .inl q
  ·rw[<- t.length];exact hc.now (.int _) e
theorem GK{K:Fg1}{H:Hp}{mu:List dk}{ds:List D}{vs:List V}{i:Int}{d:D}(t:dX K H mu ds vs)(h:wM ds i=Z d):∃v,wM vs i=Z v/\eU K H mu d v:=by
 unfold wM at h ⊢;rw[<- t.length];obtain⟨j,a,h⟩:=Sa h;obtain⟨v,b,c⟩:=t.get h;exact⟨v,by rw[a];exact b,c⟩
theorem M5:Hw X (r2 X.K (b2 D5)):=by
 intro value c ag s σ H x y v u Q I k o h g;obtain⟨mu,S,d,e,r,B,w,r2,j,f,hc⟩:=pW h;cases e with
 |int i=>
  obtain⟨⟨b,ys⟩,p,f⟩:=Sa f;obtain⟨z,A,f⟩:=Sb f;cases f;cases r2;obtain⟨a,vs,rfl,q,t⟩:=dW w j p;obtain⟨n,m,l⟩:=GK t A;cases b
  ·exact JR value c ag s σ H _ _ v u Q I k o ⟨a,vs,i,n,O,O,q,m,hc.now l j⟩ g
  ·exact F7 value c ag s σ H _ _ v u Q I k o ⟨a,vs,i,n,O,O,q,m,hc.now l j⟩ g
 |_=>cases f
theorem eO:eQ X (.type "tuple") (rN X.K (b1 gTup)):=by
 intro ag s σ H xs g Q I r h;obtain⟨x,mu,S,d,k,m,rfl,j,c,f,hc⟩:=Bu h;obtain⟨⟨b,ys⟩,i,f⟩:=Sb f;cases f;obtain⟨a,vs,rfl,q,t⟩:=dW j c i;refine qh ag s σ H _ g Q I r ⟨a,vs,O,?_⟩;cases b
 ·exact .inr ⟨q,hc.now (.tup q t) c⟩
 ·exact .inl ⟨q,λl e=>hc _ _ mu (Ext.fresh e) (.tup (kC.of d9) (t.ext (Ext.fresh e))) (c.fresh e)⟩
theorem Kk:eQ X (.type "list") (rN X.K (b1 Go)):=by
 intro ag s σ H xs g Q I r h;obtain⟨x,mu,S,d,k,m,rfl,j,c,e,hc⟩:=Bu h;obtain⟨⟨b,ys⟩,i,e⟩:=Sb e;cases e;obtain⟨a,vs,rfl,q,t⟩:=dW j c i;refine tH ag s σ H _ g Q I r ⟨a,vs,O,?_,λl f=>hc _ _ (mu++[l]) (Ext.new_ f) (.ref (hO c.len l)) (c.newL t f)⟩;cases b
 ·exact .inr q
 ·exact .inl q
theorem Ld:wU X (rU X.K (b3 lj)):=by
 intro ag s σ H o i v r B u Q I C x l h;obtain⟨mu,S,ds,d,D,z,f,a,hc⟩:=h;cases z with
 |cons A m=>cases m with
  |cons g y=>cases y with
   |cons p q=>
    cases q;rename_i F G E;dsimp only[b3]at a;unfold lj at a;split at a
    ·rename_i n k;split at a
     ·rename_i xs e;obtain⟨j,w,a⟩:=Sb a;cases a;cases A with
      |ref b=>
       cases g;obtain⟨vs,c,t⟩:=f.lst e b;refine Bl ag s σ H _ _ v r B u Q I C x l ⟨_,vs,k,j,O,O,c,by rw[<- t.length];exact w,?_⟩;exact hc _ mu (Ext.put c trivial (gM1 b)) (f.putL (t.set p j) b c)
     ·cases a
    ·cases a
theorem GN{K:Fg1}{H:Hp}{mu:List dk}:∀{ds:List D} {vs:List V} {a:List di} {b:Bool},dX K H mu ds vs->ee vs a->DD ds=Z b -> ∃bs:List Bool,a=bs.map Pq/\b=bs.all id:=by
 intro ds
 induction ds with
 |nil=>intro vs a b r v h;cases r;cases v;cases h;exact⟨[],O,O⟩
 |cons d ds ih=>
  intro vs a b r v h;cases r with
  |cons g t=>
   cases v with
   |cons r i=>
    cases g
    case bl k=>
     obtain⟨c,e,h⟩:=Sb h;obtain⟨bs,f,j⟩:=ih t i e;cases r;exact⟨k::bs,by rw[f];rfl,by rw[<- h,j];rfl⟩
    all_goals cases h
theorem qx(bs:List Bool):(af bs.length).all (λi=>bs.getD i M)=bs.all id:=by
 rw[bO,bA,bA];constructor
 ·intro h b c;obtain⟨i,hi,rfl⟩:=List.mem_iff_getElem.mp c;have:=h i (aC.mpr hi);simpa[bH,hi]using this
 ·intro h i hi;have a:=aC.mp hi;have:=h _ (bQ a);simpa[bH,a]using this
theorem vO{s:dj}{b:Bool}{a:dk}{bs:List Bool}(hc:X.A.handled=Y)(co:SCo b s.heap a (bs.map Pq).toArray){Q:di->dj->Prop}(all:∀h' tk,(∀c o,s.heap.get? c=Z o->h'.get? c=Z o)->Q (.bool (bs.all id)) {s with heap:=h',toks:=tk}):dz (PB X.prog X.w) X.A (call (.builtin "all") [.ref a]) Q X.xe s:=by
 refine call_all_walk (jE co ?_);have g:a<s.heap.objs.size:=by cases b<;>(obtain⟨o,e,_⟩:=co;exact hL1 e)
 have ne:a≠s.heap.objs.size:=nN1 g;have j:TruthOf X.prog X.w X.A.in1 (λi v=>(bs.map Pq).toArray[i]?=Z v) (λi=>bs.getD i M):=λi v s' p n m h=>by
  have d:(bs.map Pq)[i]?=Z v:=by simpa using m
  rw[gP1]at d;obtain⟨k,l,rfl⟩:=Sb d;dsimp only at h;rw[bH,l]at h;exact PJ h
 have keep:∀(h':dB),(∀c o,c∉[s.heap.objs.size]->(s.heap.push (gu b a)).get? c=Z o->h'.get? c=Z o) -> ∀c o,s.heap.get? c=Z o->h'.get? c=Z o:=λh' f c o e=>
  f c o (by simpa using nN1 (hL1 e)) (hP1 _ e)
 have hi:(s.heap.push (gu b a)).get? s.heap.objs.size=Z (gu b a):=hS1 _ (by cases b<;>rfl);cases b with
 |true=>
  refine⟨s.heap.objs.size,_,_,_,_,_,_,O,Walks.list (A:=X.A.in1) hc s.heap.objs.size a ne (bs.map Pq).toArray,⟨⟨_,hi,O,O⟩,SCo.to (b:=M) co λo e=>hP1 _ e⟩,j,λh' tk f=>?_⟩;have e:(bs.map Pq).toArray.size=bs.length:=by simp
  rw[e,qx];exact all h' tk (keep h' f)
 |false=>
  refine⟨s.heap.objs.size,_,_,_,_,_,_,O,Walks.tuple (A:=X.A.in1) hc s.heap.objs.size a ne (bs.map Pq).toArray,⟨⟨_,hi,O,O⟩,SCo.to (b:=J) co λo e=>hP1 _ e⟩,j,λh' tk f=>?_⟩;have e:(bs.map Pq).toArray.size=bs.length:=by simp
  rw[e,qx];exact all h' tk (keep h' f)
theorem Ds(hc:X.calm=M):eQ X (.builtin "all") (rN X.K (b1 qc)):=by
 intro ag s σ H xs p Q I r h;obtain⟨x,mu,S,d,v,w,rfl,i,f,c,e⟩:=Bu h;obtain⟨⟨b,ys⟩,g,c⟩:=Sa c;obtain⟨k,n,c⟩:=Sb c;cases c;obtain⟨a,vs,rfl,q,t⟩:=dW i f g;obtain⟨u,rfl,m⟩:=iR r;cases m;obtain⟨l,j,co,_⟩:=eW I q;obtain⟨bs,rfl,rfl⟩:=GN t j n;exact vO (I.ok.hd hc) co λh' tk o=>⟨.bl _,H,I.kept o,O,e.now (.bl _) f⟩
theorem vq:eQ X (.type "int") (rN X.K (b1 pk)):=by
 intro ag s σ H xs c Q I r h;obtain⟨x,mu,S,d,g,j,rfl,e,f,a,hc⟩:=Bu h;cases d with
 |int i=>cases a;cases e;exact rF ag s σ H _ c Q I r (.inl ⟨i,O,hc.now (.int _) f⟩)
 |bl b=>cases a;cases e;exact rF ag s σ H _ c Q I r (.inr ⟨b,O,hc.now (.int _) f⟩)
 |_=>cases a
theorem Mo(hc:X.calm=M):eQ X (.builtin "max") (rN X.K (b2 Gm)):=by
 intro ag s σ H xs c Q I r h;obtain⟨x,y,mu,S,d,e,i,j,rfl,f,r2,g,a,b⟩:=zf h;unfold Gm at a;split at a
 ·cases a;cases f;cases r2;exact Ai hc ag s σ H _ c Q I r ⟨_,_,O,b.now (.int _) g⟩
 ·cases a
theorem Mn(hc:X.calm=M):eQ X (.builtin "min") (rN X.K (b2 Gk)):=by
 intro ag s σ H xs c Q I r h;obtain⟨x,y,mu,S,d,e,i,j,rfl,f,r2,g,a,b⟩:=zf h;unfold Gk at a;split at a
 ·cases a;cases f;cases r2;exact Ah hc ag s σ H _ c Q I r ⟨_,_,O,b.now (.int _) g⟩
 ·cases a
open PySem.SeqAt
open PySem.AutoSeq1 (wpAny_loadPart')
open PySem.MeetsSeq PySem.MeetsSeq2 PySem.MeetsSeq3
def GU(A:dq)(s:dj)(y x:di)(b:Bool):Prop:=∀(prog:dn) (w:dr) (E:di->dj->Prop) (Q:di->dj->Prop),Q (.bool b) s->dz (PB prog w) A (richCompare .Lt y x) Q E s
inductive Ar (A:dq)(s:dj):List di->List di->Bool->Prop
 |nn:Ar A s [] [] false
 |nc (y:di) (ys:List di):Ar A s [] (y::ys) true
 |cn (x:di) (xs:List di):Ar A s (x::xs) [] false
 |eq {x y:di} {xs ys:List di} {k:Bool} (e:EqAt A.in1 s x y true) (t:Ar A s xs ys k):Ar A s (x::xs) (y::ys) k
 |lt {x y:di} {xs ys:List di} {k:Bool} (e:EqAt A.in1 s x y false) (t:GU A.in1 s x y k):Ar A s (x::xs) (y::ys) k
theorem HH(l b:dk)(items items2:Array di)(n D:Nat)(dd o:Option dk)(sl r:Array (Option di))(c:Bool):
  Meets (Builtin.«tuple.__lt__» ⟨[.ref l,.ref b],[]⟩) (fun A R s=>s.heap.get? l=some {cls:=.type "tuple",dict:=dd,data:=.seq items n,slots:=sl}/\s.heap.get? b=some {cls:=.type "tuple",dict:=o,data:=.seq items2 D,slots:=r} /\
    Ar A s items.toList items2.toList c/\R (.ok (.ret (.bool c))) s):=
 .of_wp λprog w A R s h=>by
  obtain⟨u,g,d,tk,v⟩:=s;obtain⟨F,E,z,h⟩:=h;have G:=AutoSeq1.sub_tuple_tuple
  wp_walk using wpAny_loadPart' F,wpAny_loadPart' E,Rx _ (λrest b s'=>b.1=Y/\s'=⟨u,g,d,tk,v⟩ /\ ∃vs ws:List di,rest=vs.zip ws/\Ar A ⟨u,g,d,tk,v⟩ vs ws c/\vs.length+items2.size=ws.length+items.size) _
  case turn=>
   rintro⟨y,x⟩ rest b s' ⟨j,rfl,vs,ws,f,p,a⟩;cases p with
   |nn=>cases f
   |nc _ _=>cases f
   |cn _ _=>cases f
   |eq e t=>
    rw[bR]at f;injection f with k i;injection k with m q;subst m q
    simp only[lC1]at a;refine wB1 (e prog w _ _ ?_)
    wp_walk
    exact⟨O,O,_,_,i,t,by lia⟩
   |lt e t=>
    rw[bR]at f;injection f with k i;injection k with m q;subst m q
    refine wB1 (e prog w _ _ ?_);have B:=t prog w
    wp_walk using B
    exact⟨_,O,by simpa using h⟩
  case fin=>
   rintro⟨b1,b2⟩ s' ⟨j,rfl,vs,ws,f,p,a⟩;simp only at j;subst j;have C:c=decide (items.size<items2.size):=by
    cases p with
    |nn=>simp only[bf]at a;exact(ai (by lia)).symm
    |nc _ _=>simp only[bf,lC1]at a;exact(ah (by lia)).symm
    |cn _ _=>simp only[bf,lC1]at a;exact(ai (by lia)).symm
    |eq _ _=>rw[bR]at f;cases f
    |lt _ _=>rw[bR]at f;cases f
   rw[C]at h
   wp_walk
   exact⟨_,O,by simpa[Builtin.Tuple.tupleCompareSizes]using h⟩
  case h=>exact⟨O,O,items.toList,items2.toList,O,z,by simp;lia⟩
theorem Cs(l b:dk)(items items2:Array di)(n E:Nat)(dd u:Option dk)(sl z:Array (Option di))(c:Bool)(k:Nat):
  ∀i:Nat,items.size-i=k->i<=items.size->i<=items2.size->Meets (Builtin.«list.__eq__.loop» ⟨[.ref l,.ref b,P8 i,P8 0],[]⟩)
   (λA R s=>s.heap.get? l=Z {cls:=.type "list",dict:=dd,data:=.seq items n,slots:=sl}/\s.heap.get? b=Z {cls:=.type "list",dict:=u,data:=.seq items2 E,slots:=z} /\
    Ar A s (items.toList.drop i) (items2.toList.drop i) c/\R (.ok (.ret (.bool c))) s):=by
 induction k with
 |zero=>
  intro i H r x prog w A R s h;obtain⟨F,g,d,tk,G⟩:=s;obtain⟨m,f,a,h⟩:=h
  wp_walk using wpAny_loadPart' m,wpAny_loadPart' f
  have o:items[((i:Nat):Int).toNat]?=Y:=by simp;lia
  have v:items.toList.drop i=[]:=by simp;lia
  rw[v]at a;rw[o]
  wp_walk using wpAny_loadPart' m,wpAny_loadPart' f
  have I:c=decide (items.size<items2.size):=by
   cases h2:items2.toList.drop i with
   |nil=>
    rw[h2]at a;cases a;have:=congrArg List.length h2;simp at this;exact(ai (by lia)).symm
   |cons y ys=>
    rw[h2]at a;cases a;have:=congrArg List.length h2;simp at this;exact(ah (by lia)).symm
  show R (.ok (.ret (.bool (decide (items.size<items2.size))))) _;rw[<- I];exact h
 |succ k ih=>
  intro i H r x prog w A R s h;obtain⟨F,g,d,tk,G⟩:=s;obtain⟨m,f,a,h⟩:=h;have p:i<items.size:=by lia
  have v:items.toList.drop i=items[i]::items.toList.drop (i+1):=by simp[List.drop_eq_getElem_cons,p]
  have o:items[((i:Nat):Int).toNat]?=Z items[i]:=by simp[p]
  have hc:((i:Int)+1)=((i+1:Nat):Int):=by push_cast;rfl
  rw[v]at a;rcases bS i items2.size with j|D
  ·have B:items2.toList.drop i=items2[i]::items2.toList.drop (i+1):=by simp[List.drop_eq_getElem_cons,j]
   have q:items2[((i:Nat):Int).toNat]?=Z items2[i]:=by simp[j]
   rw[B]at a
   wp_walk using wpAny_loadPart' m,wpAny_loadPart' f
   rw[o,q];cases a with
   |eq e t=>
    refine wB1 (e prog w _ _ ?_)
    wp_walk
    rw[hc];exact⟨Ry plain_eq_loop _,wD1 entry_eq_loop (by rw[Rz plain_eq_loop _];exact ih (i+1) (by lia) (by lia) (by lia) prog w A R _ ⟨m,f,t,h⟩)⟩
   |lt e t=>
    refine wB1 (e prog w _ _ ?_);have C:=t prog w
    wp_walk using wpAny_loadPart' m,wpAny_loadPart' f
    rw[o,q]
    wp_walk using C
    simpa using h
  ·have q:items2[((i:Nat):Int).toNat]?=Y:=by simp;lia
   have B:items2.toList.drop i=[]:=by simp;lia
   rw[B]at a;cases a
   wp_walk using wpAny_loadPart' m,wpAny_loadPart' f
   rw[o,q]
   wp_walk using wpAny_loadPart' m,wpAny_loadPart' f
   show R (.ok (.ret (.bool (decide (items.size<items2.size))))) _;rw[ai (by lia)];exact h
theorem JE(l b:dk)(items items2:Array di)(n f:Nat)(dd a:Option dk)(sl e:Array (Option di))(c:Bool):
  Meets (Builtin.«list.__lt__» ⟨[.ref l,.ref b],[]⟩) (fun A R s=>s.heap.get? l=some {cls:=.type "list",dict:=dd,data:=.seq items n,slots:=sl}/\s.heap.get? b=some {cls:=.type "list",dict:=a,data:=.seq items2 f,slots:=e} /\
    Ar A s items.toList items2.toList c/\R (.ok (.ret (.bool c))) s):=by
 intro prog w A R s h;obtain⟨p,g,d,tk,o⟩:=s;obtain⟨j,i,k,h⟩:=h;have m:=AutoSeq1.sub_list_list
 wp_walk using wpAny_loadPart' j,wpAny_loadPart' i
 exact⟨Ry plain_eq_loop _,wD1 entry_eq_loop (by rw[Rz plain_eq_loop _];exact Cs l b items items2 n f dd a sl e c _ 0 O (bi _) (bi _) prog w A R _ ⟨j,i,by simpa using k,h⟩)⟩
theorem HZ{A:dq}{s:dj}{k:Bool}{l b:dk}{xs ys:Array di}{c:Bool}(z:SCo k s.heap l xs)(y:SCo k s.heap b ys)(B:A.units<Ql)(h:Ar A s xs.toList ys.toList c):GU A s (.ref l) (.ref b) c:=λprog w E Q q=>by
 cases k
 ·obtain⟨⟨t,u,p,v⟩,o,hc,n,j⟩:=id z;obtain⟨⟨m,f,g,i⟩,d,e,r,a⟩:=id y;simp only at hc j e a;subst hc j e a;exact richCompare_meets_room (op:=.Lt) ⟨_,o,O⟩ ⟨_,d,O⟩ PySem.F.slot_tuple_lt PySem.F.entry_tuple_lt (PySem.F.args_tuple_lt_2 _ _) (HH l b xs ys n r u f v i c) ⟨o,d,h,show Pq c≠Value.notImplemented/\Q (.bool c) s from⟨(λx=>nomatch x),q⟩⟩ B
 ·obtain⟨⟨t,u,p,v⟩,o,hc,n,j⟩:=id z;obtain⟨⟨m,f,g,i⟩,d,e,r,a⟩:=id y;simp only at hc j e a;subst hc j e a;exact richCompare_meets_room (op:=.Lt) ⟨_,o,O⟩ ⟨_,d,O⟩ PySem.F.slot_list_lt PySem.F.entry_list_lt (PySem.F.args_list_lt_2 _ _) (JE l b xs ys n r u f v i c) ⟨o,d,h,show Pq c≠Value.notImplemented/\Q (.bool c) s from⟨(λx=>nomatch x),q⟩⟩ B
noncomputable def LQ(f g:D->D->Option Bool):List D->List D->Option Bool
 |[],[]=>Z J
 |[],_::_=>Z M
 |_::_,[]=>Z J
 |x::xs,y::ys=>(f x y).bind λb=>if b=M then LQ f g xs ys else g x y
def NC:D->D->Option Bool
 | .int i,.int j=>Z (decide (i<j))
 | .str x,.str y=>Z (decide (x.cps.toList<y.cps.toList))
 |_,_=>Y
def Hd(S:Sto):Nat->D->D->Option Bool
 |0,_,_=>Y
 |n+1,d,e=>match NC d e with
  |some b=>Z b
  |none=>match dZ S d,dZ S e with
   |some p,Z q=>if p.1=q.1 then LQ (i8 S n) (Hd S n) p.2 q.2 else Y
   |_,_=>Y
def gLt:G2:=λd e S=>(Hd S d8 d e).map λb=>(.bl b,S)
section
variable{ag:List (dk×Obj)}{σ:L2.St}{H:Hp}{s:dj}{mu:List dk}{S:Sto}
theorem JD(I:Inv X ag σ H s)(hs:Sim X.K H mu S){n:Nat}{A:dq}(r:A.units+1+n<Ql)(ih:∀ {d e:D} {v w:V} {u z:di} {b:Bool},eU X.K H mu d v->eU X.K H mu e w->d4 v u->d4 w z->Hd S n d e=some b->GU A.in1 s u z b):
  ∀{xs ys:List D} {vs ws:List V} {f zs:List di} {b:Bool},dX X.K H mu xs vs->dX X.K H mu ys ws->ee vs f->ee ws zs->LQ (i8 S n) (Hd S n) xs ys=Z b->Ar A s f zs b
 :=by
 intro xs
 induction xs with
 |nil=>
  intro ys vs ws f zs b a r2 g c h;cases a;cases g;cases r2 with
  |nil=>cases c;cases h;exact .nn
  |cons _ _=>cases c;cases h;exact .nc _ _
 |cons x xs q=>
  intro ys vs ws f zs b a r2 g c h;cases a with
  |cons a o=>
   cases g with
   |cons j p=>
    cases r2 with
    |nil=>cases c;cases h;exact .cn _ _
    |cons r2 m=>
     cases c with
     |cons i p2=>
      rw[LQ]at h;obtain⟨k,l,h⟩:=Sa h;have eq:=(lm I hs n (A:=A.in1) r a r2 j i l).1;cases k with
      |true=>exact .eq eq (q o m p p2 h)
      |false=>exact .lt eq (ih a r2 j i h)
theorem Cr(I:Inv X ag σ H s)(hs:Sim X.K H mu S):∀(n:Nat) {A:dq} {d e:D} {v w:V} {u z:di} {b:Bool},A.units+n<Ql->eU X.K H mu d v->eU X.K H mu e w->d4 v u->d4 w z->Hd S n d e=Z b->GU A s u z b
 |0,_,_,_,_,_,_,_,_,_,_,_,_,_,h=>by cases h
 |n + 1,A,d,e,v,w,u,z,b,U,l,f,o,r,h=>by
  rw[Hd]at h;split at h
  ·rename_i k c;cases h;unfold NC at c;split at c
   ·cases c;cases l;cases f;obtain⟨t,rfl⟩:=o;obtain⟨g,rfl⟩:=r;exact λprog w E Q q=>(PyProof.Rows.lt_int q:dz (PB prog w) A (Qe .Lt (.int _ t) (.int _ g)) Q E s)
   ·cases c;cases l;cases f;obtain⟨t,rfl⟩:=o;obtain⟨g,rfl⟩:=r;exact λprog w E Q q=>(PyProof.Rows.lt_str q:dz (PB prog w) A (Qe .Lt (.str _ t) (.str _ g)) Q E s)
   ·cases c
  ·split at h
   ·rename_i p q L G;split at h
    ·rename_i av;obtain⟨C,xs⟩:=p;obtain⟨qb,ys⟩:=q;have i:C=qb:=av;subst i;obtain⟨a,vs,rfl,P,F⟩:=dW l hs L;obtain⟨a2,T,rfl,y,aq⟩:=dW f hs G;cases o;cases r;obtain⟨R,B,co,_⟩:=eW I P;obtain⟨x,m,j,_⟩:=eW I y;refine HZ co j (by lia) ?_;have:=JD I hs (A:=A) (n:=n) (by lia) (λao r2 K N h=>Cr I hs n (A:=A.in1) (by show A.units+1+n<Ql;lia) ao r2 K N h) F aq B m h;simpa using this
    ·cases h
   ·cases h
theorem kS(l:X.A.units+64<Ql):gE X (Qe .Lt) (r2 X.K (b2 gLt)):=by
 intro ag s σ H x y u w Q I f j h;obtain⟨mu,S,d,e,r,k,i,r2,c,a,hc⟩:=pW h;obtain⟨b,g,a⟩:=Sb a;cases a;exact Cr I c d8 (by show _+60<Ql;lia) i r2 f j g X.prog X.w X.xe _ ⟨.bl b,H,I,O,hc.now (.bl b) c⟩
end
inductive Ty where
 |int|bool|str|tuple|list|dict
 deriving DecidableEq
def Ty.nm:Ty->String
 | .int=>"int" | .bool=>"bool" | .str=>"str" | .tuple=>"tuple" | .list=>"list" | .dict=>"dict"
noncomputable def uP (S:Sto)(T:Ty):D->Option Bool
 | .non=>some false
 | .bl _=>some (decide (T = .bool)||decide (T = .int))
 | .int _=>some (decide (T = .int))
 | .str _=>some (decide (T = .str))
 | .tup _=>some (decide (T = .tuple))
 | .rol _=>some (decide (T = .list))
 | .ref n=>match S[n]? with
  |some (.lst _)=>some (decide (T = .list))
  |some (.dct _)=>some (decide (T = .dict))
  |some (.dcT _)=>some (decide (T = .dict))
  |_=>none
 | .fn _=>none
def sQ(T:Ty)(m:FE):FE:=λr S=>(m r S).bind λp=>(uP p.2 T p.1).map λb=>(.bl b,p.2)
section
variable{ag:List (dk×Obj)}{σ:L2.St}{H:Hp}{s:dj}{mu:List dk}{S:Sto}{K:Fg1}
theorem F3(T:Ty):Qi K (.type "NoneType") (.type T.nm)=Z J:=by cases T<;>rfl
theorem JK(T:Ty):Qi K (.type "bool") (.type T.nm)=Z (decide (T = .bool)||decide (T = .int)):=by cases T<;>rfl
theorem F5(T:Ty):Qi K (.type "int") (.type T.nm)=Z (decide (T = .int)):=by cases T<;>rfl
theorem F2(T:Ty):Qi K (.type "str") (.type T.nm)=Z (decide (T = .str)):=by cases T<;>rfl
theorem F1(T:Ty):Qi K (.type "tuple") (.type T.nm)=Z (decide (T = .tuple)):=by cases T<;>rfl
theorem F4(T:Ty):Qi K (.type "list") (.type T.nm)=Z (decide (T = .list)):=by cases T<;>rfl
theorem xY(T:Ty):Qi K (.type "dict") (.type T.nm)=Z (decide (T = .dict)):=by cases T<;>rfl
theorem Gb{T:Ty}{d:D}{v:V}{u:di}{b:Bool}{Q:di->dj->Prop}{E:di->dj->Prop}(I:Inv X ag σ H s)(hs:Sim X.K H mu S)(r:eU X.K H mu d v)(f:d4 v u)(h:uP S T d=some b)(q:∀ tk,Q (.bool b) {s with toks:=tk}):
  dz (PB X.prog X.w) X.A (call (.builtin "isinstance") [u,.type T.nm]) Q E s:=by
 have g:∀{k:Bool} {a:dk} {vs:List V},tP X.K k H a vs->b=(match k with|true=>decide (T = .list)|false=>decide (T = .tuple))->dz (PB X.prog X.w) X.A (call (.builtin "isinstance") [.ref a,.type T.nm]) Q E s:=λ{k a vs} j p=>by
  obtain⟨y,B,co,_⟩:=eW I j;cases k
  ·obtain⟨o,e,c,_⟩:=co;subst p;exact Qj PySem.W.kitx_tuple I.kIn ⟨o,e,c⟩ (F1 T) (λz=>nomatch z) q
  ·obtain⟨o,e,c,_⟩:=co;subst p;exact Qj PySem.W.kitx_list I.kIn ⟨o,e,c⟩ (F4 T) (λz=>nomatch z) q
 cases d with
 |non=>cases h;cases r;exact i6 I f .non (F3 T) q
 |bl k=>cases h;cases r;exact i6 I f (.bl k) (JK T) q
 |int i=>cases h;cases r;exact i6 I f (.int i) (F5 T) q
 |str x=>cases h;cases r;exact i6 I f (.str x) (F2 T) q
 |tup xs=>
  cases h;obtain⟨a,vs,rfl,j,t⟩:=dW (S:=S) r hs O;cases f;exact g j O
 |fn x=>cases h
 |rol xs=>
  cases h;obtain⟨a,vs,rfl,j,t⟩:=dW (S:=S) r hs O;cases f;exact g j O
 |ref n=>
  rw[uP]at h;split at h
  ·rename_i xs e;cases h;obtain⟨a,vs,rfl,j,t⟩:=dW (S:=S) r hs (by rw[dZ,e]);cases f;exact g j O
  ·rename_i ks e;cases h;cases r with
   |ref m=>
    obtain⟨ws,l,_⟩:=hs.dct e m;exact i6 I f (.dK l) (xY T) q
  ·rename_i ks e;cases h;cases r with
   | @ref _ a m=>
    cases(show u=Pr a from f);obtain⟨ws,l,_⟩:=hs.dcT e m;obtain⟨⟨_,_,o,_,_,A,w,_⟩,_⟩:=(show eP X.prog X.w H s.heap a (.ext (j7 a ws))from I.hok a _ l);exact Qj PySem.W.kitx_dict I.kIn ⟨o,A,w.1⟩ (xY T) (λz=>nomatch z) q
  ·cases h
theorem Dq(T:Ty):eQ X (.builtin "isinstance") (λxs H Q=>∃x mu S d b,xs=[x,.ty T.nm]/\eU X.K H mu d x/\Sim X.K H mu S/\uP S T d=Z b/\Q (.bl b) H):=by
 intro ag s σ H xs g Q I r h;obtain⟨x,mu,S,d,b,rfl,a,c,f,hc⟩:=h;obtain⟨u,i,rfl,e,rt⟩:=AK r;cases rt;exact Gb I c a e f λtk=>⟨.bl b,H,I.tok tk,O,hc⟩
theorem zu (T:Ty){e:Expr}{m:FE}{nm:Str}{p p2 pos:Pos}(hg:Gl X "isinstance")(hm:X.mg "isinstance"=none)(hg2:Gl X nm)(hm2:X.mg nm=none)(hv2:Pv nm=some (.type T.nm))(h:ME X e m)
  (hn:autoParam (nm≠"__name__") bu0) (hd:autoParam ((nm == ("__debug__":Str))=J) bu0)
  (hs1:autoParam (dw [e,.Name nm p2] X.env=(J,eval e X.env)::dw [.Name nm p2] X.env) cu0) (hs2:autoParam (dw [.Name nm p2] X.env=(J,eval (.Name nm p2) X.env)::dw [] X.env) cu0)
  (hpl:autoParam ((PC pos (dw [.Name nm p2] X.env)).any (·.1)=J) cu0):ME X (.Call (.Name "isinstance" p) [e,.Name nm p2] [] pos) (sQ T m):=
 eM (lM (Dq T) hg hm (by decide+kernel) (iE h (iE (Fa (v:=.ty T.nm) hg2 hm2 hv2 O hn hd) lh hs2) hs1) (by decide) (by decide) hs1 hpl) <| by
  rintro σ H Q ⟨r,mu,S,d,n,l,i,hm,hc⟩;obtain⟨⟨a,o⟩,f,hm⟩:=Sa hm;obtain⟨b,k,hm⟩:=Sb hm;cases hm;refine⟨r,mu,S,a,_,l,i,f,λv H1 mu1 j g c=>?_⟩;exact⟨v,mu1,_,a,b,O,g,c,k,hc _ H1 mu1 j (.bl b) c⟩
end
abbrev FO:=Ev->Sto->Option (Option Int×Sto)
def OB(K:Fg1)(m:FO):TO:=fun σ H Q=>∃r mu S o S',fH K H mu r σ/\Sim K H mu S/\m r S=Z (o,S') /\ ∀H' mu',Ext mu mu' H H'->Sim K H' mu' S'->Q o H'
abbrev MO(X:Cx)(e:Option Expr)(m:FO):Prop:=PO X e (OB X.K m)
def i0:FO:=λ_ S=>Z (Y,S)
def js(m:FE):FO:=λr S=>(m r S).bind λp=>match p.1 with
 | .int i=>Z (Z i,p.2)
 |_=>Y
def ma(xs:List D)(lo hi:Option Int):List D:=(xs.drop (HT.sIx xs.length 0 lo)).take (HT.sIx xs.length xs.length hi-HT.sIx xs.length 0 lo)
theorem Fx:MO X Y i0:=by
 rintro ag s σ H Q I ⟨r,mu,S,o,d,c,b,a,hc⟩;cases a;exact EX ag s σ H Q I (hc H mu (.refl _ _) b)
theorem Fw{e:Expr}{m:FE}(h:ME X e m):MO X (Z e) (js m):=by
 rintro ag s σ H Q I ⟨r,mu,S,o,l,k,f,a,hc⟩;obtain⟨⟨d,n⟩,b,a⟩:=Sa a;cases d with
 |int i=>
  cases a;refine EW h ag s σ H Q I ⟨r,mu,S,_,_,k,f,b,λv H1 mu1 g c j=>?_⟩;cases c;exact⟨i,O,hc H1 mu1 g j⟩
 |_=>cases a
theorem yv{K:Fg1}{H:Hp}{mu:List dk}{ds:List D}{vs:List V}(t:dX K H mu ds vs)(lo hi:Option Int):dX K H mu (ma ds lo hi) (vf vs lo hi):=by
 unfold ma vf;rw[<- t.length];exact(t.drop _).take _
def K1(ta:TA):TE:=fun σ H Q=>ta σ H λvs H1=>∃j:Int,vs=[.int j] /\ ∀p,H1 p=Y->Q (.ref p) (upd H1 p (.rng 0 j))
theorem zk {a:Expr}{ta:TA}{p pos:Pos}(hg:Gl X "range")(hm:X.mg "range"=Y)(ha:PA X [a] ta)(hs:autoParam (dw [a] X.env=[(J,eval a X.env)]) cu0):PE X (.Call (.Name "range" p) [a] [] pos) (K1 ta):=by
 intro ag s σ H Q I h;refine Call_ (jQ I hg hm boot_range (Qb (fh (ha pos ag s σ H _ I h) λk g ⟨vs,H1,c,d,f⟩=>?_) hs O));obtain⟨j,e,q⟩:=f;subst e;cases d with
 |cons r i=>
  cases i;obtain⟨t,rfl⟩:=r;refine call_range_1 ⟨.ref g.heap.objs.size,_,c.laid (λb o e=>hP1 _ e) (nR1 _) (o:=.rng 0 j) ?_,O,q _ (c.hok.fresh (nR1 _))⟩;exact⟨_,_,_,hS1 _ O⟩
def nB(i:Int):Nat->List V
 |0=>[]
 |n+1=>.int i::nB (i+1) n
theorem oE:∀(n:Nat) (i:Int),(nB i n).length=n
 |0,_=>rfl
 |n+1,i=>by rw[nB,lC1,oE n]
theorem uf:∀(n:Nat) (i:Int) (k:Nat) (v:V),(nB i n)[k]?=Z v->v = .int (i+k)
 |0,i,k,v,h=>by simp[nB]at h
 |n+1,i,0,v,h=>by simp[nB]at h;rw[<- h];simp
 |n+1,i,k+1,v,h=>by
  rw[nB,gC1]at h;rw[uf n (i+1) k v h,show i+1+(k:Int)=i+((k+1:Nat):Int) by push_cast;lia]
theorem ue{K:Fg1}{H:Hp}{mu:List dk}:∀(n:Nat) (i:Int),dX K H mu (fT i n) (nB i n)
 |0,_=>.nil
 |n+1,i=>.cons (.int i) (ue n (i+1))
theorem xb:∀{xs:List V} {a:List di},xs.length=a.length->(∀(i:Nat) x u,xs[i]?=Z x->a[i]?=Z u->d4 x u)->ee xs a
 |[],[],_,_=>.nil
 |x::xs,u::a,h,f=>.cons (f 0 x u O O) (xb (by simpa using h) λi y w h1 h2=>f (i+1) y w (by simpa using h1) (by simpa using h2))
 |[],_::_,h,_=>by simp at h
 |_::_,[],h,_=>by simp at h
theorem GD(hc:X.calm=M):eQ X (.type "list") (λxs H Q=>∃p i j,xs=[.ref p]/\H p=Z (.rng i j)/\(-(2^62)<=i/\i<2^62 /\ -(2^62)<=j/\j<2^62)/\(j-i).toNat<=2^20 /\ ∀l,H l=Y->Q (.ref l) (upd H l (.lst (nB i (j-i).toNat)))):=by
 intro ag s σ H xs F Q I r h;obtain⟨p,i,j,rfl,E,⟨h1,h2,z,g⟩,f,q⟩:=h;obtain⟨u,rfl,o⟩:=iR r;cases o;obtain⟨t,u,v,e⟩:=I.hok p _ E;have A:(((j-i).toNat:Nat):Int)=Builtin.Range.rangeSize i j 1:=by rw[rangeSize_one];split<;>lia
 refine call_list_range (n:=(j-i).toNat) (I.ok.hd hc) e (small_one h1 h2 z g) A.symm (aD f (by decide)) λh' tk c m B C hi=>?_;obtain⟨d,a⟩:=hi;have b:ee (nB i (j-i).toNat) c.toList:=xb (by rw[oE];simpa using d.symm) λk x u D w=>by
  rw[uf _ _ _ _ D];obtain⟨y,rfl⟩:=a k u (by simpa using w);exact⟨y,by rw[Int.mul_one]⟩
 refine⟨.ref s.heap.objs.size,_,I.laid (t':=tk) B (nR1 _) (show eP X.prog X.w _ h' _ (.lst (nB i (j-i).toNat))from⟨?_,c.toList,m,b,by simpa using C⟩),O,q _ (I.hok.fresh (nR1 _))⟩;rw[oE];exact aD f (by decide)
def uh(i j:Int):Bool:=decide (-(2^62)<=i)&&decide (i<2^62)&&decide (-(2^62)<=j)&&decide (j<2^62)&&decide ((j-i).toNat<=2^20)
def zx(m:FA):FE:=λr S=>(m r S).bind λp=>match p.1 with
 |[.int j]=>if uh 0 j=M then Z (.ref p.2.length,p.2++[.lst (fT 0 j.toNat)])else Y
 |_=>Y
theorem ug{i j:Int}(h:uh i j=M):(-(2^62)<=i/\i<2^62 /\ -(2^62)<=j/\j<2^62)/\(j-i).toNat<=2^20:=by
 unfold uh at h;simp only[bA1,am]at h;obtain⟨⟨⟨⟨h1,h2⟩,b⟩,a⟩,c⟩:=h;exact⟨⟨h1,h2,b,a⟩,c⟩
theorem JF{K:Fg1}{mu:List dk}{H H1:Hp}{S1:Sto}{i j:Int}{Q:VK}{mu1:List dk}(c:Ext mu mu1 H H1)(a:Sim K H1 mu1 S1)(hc:tS K mu H (.ref S1.length) (S1++[.lst (fT i (j-i).toNat)]) Q){p l:dk}(hp:H1 p=none)(b:upd H1 p (.rng i j) l=none):
  Q (.ref l) (upd (upd H1 p (.rng i j)) l (.lst (nB i (j-i).toNat))):=
 hc _ _ (mu1++[l]) ((c.trans (Ext.fresh hp)).trans (Ext.new_ b)) (.ref (hO a.len l)) ((a.fresh hp).newL (ue _ _) b)
theorem zt {a:Expr}{m:FA}{e p2 b c:Pos}(hc:X.calm=true)(hg:Gl X "range")(hm:X.mg "range"=none)(hg2:Gl X "list")(hm2:X.mg "list"=none)(ha:MA X [a] m)(hs:autoParam (dw [a] X.env=[(false,eval a X.env)]) cu0)
  (hs2:autoParam (dw [.Call (.Name "range" e) [a] [] b] X.env=[(J,eval (.Call (.Name "range" e) [a] [] b) X.env)]) cu0):ME X (.Call (.Name "list" p2) [.Call (.Name "range" e) [a] [] b] [] c) (zx m):=
 eM (kj (GD hc) hg2 hm2 (by decide+kernel) (iE (zk hg hm ha hs) lh hs2) (by decide) (by decide) hs2) <| by
  rintro σ H Q ⟨r,mu,S,d,u,q,hs,hm,f⟩;obtain⟨⟨ds,w⟩,h,hm⟩:=Sa hm;dsimp only at hm;split at hm
  ·rename_i j;split at hm
   ·rename_i g;cases hm;refine⟨r,mu,S,_,_,q,hs,h,λvs H1 mu1 n i o=>?_⟩;obtain⟨v,rfl,k⟩:=oF i;cases k;refine⟨j,O,λp t=>⟨p,0,j,O,d9,(ug g).1,(ug g).2,λl s=>JF n o (by rw[Int.sub_zero];exact f) t s⟩⟩
   ·cases hm
  ·cases hm
def iK:G2:=λo v S=>match o with
 | .ref n=>match S[n]? with
  |some (.lst xs)=>if xs.length<dy then Z (.non,S.set n (.lst (xs++[v])))else Y
  |_=>Y
 |_=>Y
def zO:G2:=λo i S=>match o,i with
 | .ref n,.int k=>match S[n]? with
  |some (.lst xs)=>if-(2^63)<=k/\k<2^63 then(zE xs.length k).bind λj=>(xs[j]?).map λy=>(y,S.set n (.lst (xs.eraseIdx j)))else Y
  |_=>Y
 |_,_=>Y
noncomputable def oW (f:FN)(o:FE)(a:FA):FE:=λr S=>(o r S).bind λp=>match p.1 with
 | .ref n=>match p.2[n]? with
  |some (.lst _)=>(a r p.2).bind λq=>f (p.1::q.1) q.2
  |_=>none
 |_=>none
theorem KY:DY X "list.append" (λx xs H Q=>rN X.K (b2 iK) (x::xs) H Q):=by
 intro ag s σ H x xs v g Q I i k h;obtain⟨q,y,mu,S,d,e,p,r,l,j,r2,f,a,hc⟩:=zf h;cases l;cases d with
 |ref n=>
  rw[iK]at a;split at a
  ·rename_i ys o;split at a
   ·rename_i m;cases a;cases j with
    |ref b=>
     obtain⟨vs,c,t⟩:=f.lst o b;refine qM ag s σ H _ [y] v g Q I i k ⟨_,vs,y,O,O,c,by rw[<- t.length];exact m,?_⟩;exact hc _ _ mu (Ext.put c trivial (gM1 b)) .non (f.putL (t.append (.cons r2 .nil)) b c)
   ·cases a
  ·cases a
 |_=>cases a
theorem G4:DY X "list.pop" (λx xs H Q=>rN X.K (b2 zO) (x::xs) H Q):=by
 intro ag s σ H x xs v l Q I m p h;obtain⟨E,y,mu,S,d,e,D,F,q,o,r2,g,a,hc⟩:=zf h;cases q;unfold zO at a;split at a
 ·rename_i n k;split at a
  ·rename_i ys B;split at a
   ·rename_i i;obtain⟨j,r,a⟩:=Sa a;obtain⟨z,C,a⟩:=Sb a;cases a;cases o with
    |ref c=>
     cases r2;obtain⟨vs,f,t⟩:=g.lst B c;obtain⟨w,A,b⟩:=t.get C;refine Cb ag s σ H _ [.int k] v l Q I m p ⟨_,vs,k,j,w,O,O,f,i.1,i.2,?_,A,?_⟩
     ·rw[<- t.length];exact(sV r).1
     ·have x:=Ext.put (u:=.lst (vs.eraseIdx j)) f trivial (gM1 c);exact hc _ _ mu x (b.ext x) (g.putL (t.eraseIdx j) c f)
   ·cases a
  ·cases a
 ·cases a
theorem Cj {o e:Expr}{es:List Expr}{m:FE}{a:FA}{f:FN}{name:Str}{apos cpos:Pos}{id:String}(slot:Slot "list" name id)(hty:typeOf (.builtin id)=pure (.type "method_descriptor"))(hm:DY X id (fun x xs H Q=>rN X.K f (x::xs) H Q))(ho:ME X o m)(ha:MA X (e::es) a)
  (hbase:autoParam (QP o name X.env (eval o X.env)=eval o X.env) cu0)
  (hfew:autoParam (((PC cpos (dw (e::es) X.env)).all (λx=> !x.1)&&(QQ cpos (QR [] X.env)).all (λx=>x.1.isSome)&&decide ((e::es).length+([]:List Qp).length+(if([]:List Qp).isEmpty then 0 else 1)<30))=M) cu0)
  (hline:autoParam ((apos.endLine == cpos.line)=M) cu0) (hs:autoParam (dw (e::es) X.env=(J,eval e X.env)::dw es X.env) cu0) (hplain:autoParam ((PC cpos (dw es X.env)).any (·.1)=J) cu0):
  ME X (.Call (.Attribute o name apos) (e::es) [] cpos) (oW f m a):=
 eM (Lw PySem.F.plainAttrs_list slot hty hm ho ha hbase hfew hline hs hplain) <| by
  rintro σ H Q ⟨r,mu,S,d,u,g,hs,hm,hc⟩;obtain⟨⟨q,h⟩,s,hm⟩:=Sa hm;refine⟨r,mu,S,q,h,g,hs,s,λv H1 mu1 j i l=>?_⟩;cases q with
  |ref n=>
   dsimp only at hm;split at hm
   ·rename_i xs D;obtain⟨⟨ds,p⟩,C,hm⟩:=Sa hm;refine⟨?_,r,mu1,h,ds,p,g.ext j,l,C,λvs H2 c k r2 E=>?_⟩
    ·cases i with
     |ref z=>
      obtain⟨vs,B,t⟩:=l.lst D z;exact .inl ⟨O,vs,mX.of B⟩
    ·exact⟨c,p,.ref n::ds,d,u,.cons (i.ext k) r2,E,hm,λy A b w=>hc y A b ((j.trans k).trans w)⟩
   ·cases hm
  |_=>cases hm
theorem xC{X:Cx}(hc:X.calm=true){elt tg iter:Expr}{ifs:List Expr}{rest:List Comprehension}{scope:dF}{pos k av:Pos}{y:Str}{i:Nat}{T:List Str}{keep:List Nat}{u:List (Str×dk)}{wi:TI}{g:TG}{ti:TT}{tb:dk->TS}{emit:di->Env->Sem Unit}(S:PN (.ListComp elt (⟨tg,iter,ifs,0⟩::rest) scope pos) (some (.Name y av)) k.line X.env=pure true)(eq:∀it n j,Q7 (.ListComp elt (⟨tg,iter,ifs,0⟩::rest) scope pos) 0 it n j=lA iter.pos tg ifs it j (emit n j) (.compLoop (.ListComp elt (⟨tg,iter,ifs,0⟩::rest) scope pos) 0 it n j))(C:KQ X scope T keep)(L:jU X.env.cells scope.names []=some u)(hi:PI X tg iter wi)(hb:∀s H fp p,PG (cxC X scope u T keep s H fp) tg g/\pS (cxC X scope u T keep s H fp) ifs ti/\PU (cxC X scope u T keep s H fp) (emit (.ref p) (cxC X scope u T keep s H fp).env) (tb p))(hN:X.N.Nodup)(hy:X.N[i]?=some y)(hx:vE X.env.scope y)(hf:X.fn y=true\/X.env.scope.names.lookup y=some .local)(hs:autoParam (∀x,Qc iter X.env x=pure x) du0):
  PS X (.Assign [.Name y av] (.ListComp elt (⟨tg,iter,ifs,0⟩::rest) scope pos) k) (A3 (A1 T.length keep wi g ti tb) (yg i)):=by
 intro ag s σ H D I h;rw[exec_Assign_Name_used _ _ _ _ S];refine wB1 (PZ (wB1 ?_));show dz _ X.A (do let _<-comprehension (.ListComp elt (⟨tg,iter,ifs,0⟩::rest) scope pos) scope X.env _ (newList []) J (eval iter X.env) (Z (PP (.Name y av) X.env))) _ _ s;refine wB1 (PD (wpAny_comprehension_free (use:=Z (PP (.Name y av) X.env)) (Q:=λ_ s'=>SP X ag D .next s') O hs (Dj L) C.kind C.names ?_) (λ_ s' hq=>wP1 (wP1 hq)) λ_ _ e=>e);refine fh (hi ag s σ H _ I h) λv s1 h1=>fh h1 λitv a h2=>?_;obtain⟨it,fp,tn,ao,H2,rfl,wq,TT,K,f2,q2⟩:=h2;refine wO1 ?_;have w:Inv X ag σ (upd H2 a.heap.objs.size (.lst [])) {a with heap:=a.heap.push {cls:=.type "list",data:=.seq ([]:List di).toArray}}:=wq.lnew (t':=a.toks) .nil (bi _);have old:∀b∈fp,∃o,a.heap.get? b=Z o:=λb hb=>by
  obtain⟨o,e,_⟩:=TT.obj 0 a.heap K b hb;exact⟨o,e⟩
 have W:∀b∈fp,b≠a.heap.objs.size:=λb hb z=>by
  obtain⟨o,e⟩:=old b hb;have:=hL1 e;rw[z]at this;exact aA _ this
 have N:∀b∈fp,kH X ag (upd H2 a.heap.objs.size (.lst [])) b:=λb hb=>⟨by rw[d6 (W b hb)];exact(f2 b hb).1,(f2 b hb).2⟩;have o3:∀b∈fp,∃o,({a with heap:=a.heap.push {cls:=.type "list",data:=.seq ([]:List di).toArray}}:dj).heap.get? b=Z o:=λb hb=>by
  obtain⟨o,e⟩:=old b hb;exact⟨o,hP1 _ e⟩
 have P:=uR w C L N o3;obtain⟨hg,au,he⟩:=hb {a with heap:=a.heap.push {cls:=.type "list",data:=.seq ([]:List di).toArray}} (upd H2 a.heap.objs.size (.lst [])) fp a.heap.objs.size;refine kU ?_;have f4:∀b∈fp,kH (cxC X scope u T keep {a with heap:=a.heap.push {cls:=.type "list",data:=.seq ([]:List di).toArray}} (upd H2 a.heap.objs.size (.lst [])) fp) [] (upd H2 a.heap.objs.size (.lst [])) b:=λb hb=>
  ⟨(N b hb).1,(P.ok.exf b hb).1,P.ok.exfs b hb,.inl hb,(P.ok.exf b hb).2,λp G=>absurd (show p∈([]:List (dk×Obj))from G) (by simp)⟩
 have E:tn 0 (pushCells ((a.heap.push {cls:=.type "list",data:=.seq ([]:List di).toArray}).push {cls:=.type "dict",data:=.dict #[]}) scope.names):=
  TT.keep 0 a.heap _ K λb hb o e=>Q6 scope.names _ b o (hP1 _ (hP1 _ e))
 have l:=mW (X:=cxC X scope u T keep {a with heap:=a.heap.push {cls:=.type "list",data:=.seq ([]:List di).toArray}} (upd H2 a.heap.objs.size (.lst [])) fp) O hc (eq (.ref it) (.ref a.heap.objs.size) _) TT hg au he P E f4
  (q2 a.heap.objs.size (wq.hok.fresh (nR1 _)))
 refine Qn (codeAny_compStart_list l (TT.self X.A 0 _ _ _ E l)) λr s' hr=>?_;cases r with
 |error e=>exact hr.elim
 |ok f=>
  obtain⟨σ',H',A,q'⟩:=hr;have J1:Inv X ag σ H' s':=w.call' (s':=s') (ch:=fp) A.os A.base A.hok A.bare λb hb=>(N b hb).2.2.2 |> λz=>⟨z.1,(N b hb).2.1,z.2.1,z.2.2⟩
  -- the block's own dict is kept aside
  obtain⟨m,hn,_⟩:=id A.loc;obtain⟨aq,es,ep,eC,dC,rC⟩:=id hn;have hCz:(a.heap.push {cls:=.type "list",data:=.seq ([]:List di).toArray}).get? (a.heap.push {cls:=.type "list",data:=.seq ([]:List di).toArray}).objs.size=Y:=Px (nR1 _);have B:(a.heap.push {cls:=.type "list",data:=.seq ([]:List di).toArray}).objs.size≠X.env.locals:=λz=>by
   have:=w.lt;rw[<- z]at this;exact aA _ this
  have R:H' (a.heap.push {cls:=.type "list",data:=.seq ([]:List di).toArray}).objs.size=Y:=A.free;have J2:Inv X (ag++[((a.heap.push {cls:=.type "list",data:=.seq ([]:List di).toArray}).objs.size,aq)]) σ H' s':=J1.pins_of λp G=>by
   rcases aG.mp G with z|z
   ·exact J1.pin p (mA1 _ z)
   ·have z':p=((a.heap.push {cls:=.type "list",data:=.seq ([]:List di).toArray}).objs.size,aq):=by simpa using z
    subst z';exact⟨eC,R,B,w.nofs (nR1 _),λv q=>by rw[dC]at q;cases q⟩
  refine fh (xE hN hy hx hf _ s' σ H' (.ref a.heap.objs.size) (.ref a.heap.objs.size) D.nx J2 O q') λ_ s5 ⟨F,H5,J5,q5⟩=>?_;obtain⟨e5,n5,_⟩:=J5.pin ((a.heap.push {cls:=.type "list",data:=.seq ([]:List di).toArray}).objs.size,aq) (mA1 _ (mA1 _ mS1));refine⟨m,⟨aq,es,ep,e5,dC,rC⟩,λh' V=>?_⟩;have J6:Inv X ag F H5 s5:=J5.unpinned;refine⟨F,H5,J6.turned (t':=s5.toks) (λb o hb e=>(V.2 b hb).trans e) n5 B (.inr ?_) (λx c t z=>?_) (λp G z=>?_),q5⟩
  ·exact w.sz
  ·obtain⟨w',zc⟩:=w.cell x c t;have d:=zc.lt;rw[z]at d;exact aA _ d
  ·obtain⟨U,_⟩:=w.pin p G;have d:=hL1 U;rw[z]at d;exact aA _ d
theorem Dz{K:Fg1}{te:TE}{m:FE}{i:Nat}(hm:∀ σ H Q,tM K m σ H Q->te σ H Q){E:jx}{σ:L2.St}{H:Hp}(h:xj K (dS m (gN i)) E σ H):A3 te (yg i) E σ H:=by
 obtain⟨r,mu,S,d,n,h1,h2,l,b⟩:=sR h;refine hm _ _ _ ⟨r,mu,S,d,n,h1,h2,l,λv H' mu' g c j=>?_⟩;obtain⟨r2,a,u,t,q,s,f,e,k,p,o⟩:=b v H' mu' g c j;cases p;exact o _ H' a (.refl _ _) (f.set k) e
theorem mv (i:Nat){x:Str}{pos:Pos}(hN:autoParam (X.N[i]? = some x) cu0)(hv:autoParam (Vis X.env.scope x) au0)(hd:autoParam ((x == ("__debug__":Str))=false) bu0)(hcd:autoParam ((x == ("__classdict__":Str))=false) bu0):
  ME X (.Name x pos) (mV i):=Jp i hN hv hd hcd
def eR(P:dn)(w:dr)(K:Fg1)(mg:Str->Option di)(base:dB)(k:Nat)(x:Str)(n:Nat)(m:FN):Prop:=
 ∃(f:dk) (fd:dD) (ps:List Str),j6 P w K mg base vF k f fd ps (A8 K n m)/\k9 K fd ps []/\wK1 K (.ref f)=M/\mg x=Z (.ref f)
theorem Js {X:Cx}{k k' n:Nat}{x:Str}{m:FN}{p pos:Pos}{e:Expr}{es:List Expr}{a:FA}(h:eR X.prog X.w X.K X.mg X.base k x n m)(hr:fQ k' X.A)(hk:k<=k')(hg:Gl X x)(ha:MA X (e::es) a)(hdb:autoParam ((x == ("__debug__":Str))=false) bu0)
  (he:autoParam (dw (e::es) X.env=(J,eval e X.env)::dw es X.env) cu0) (hpl:autoParam ((PC pos (dw es X.env)).any (·.1)=J) cu0):ME X (.Call (.Name x p) (e::es) [] pos) (mN (dI n m) a):=by
 obtain⟨f,fd,ps,F,b,d,c⟩:=h;exact FH F (hr.mono hk) hg c d b ha hdb he hpl
theorem IJ{P:dn}{w:dr}{K:Fg1}{mg:Str->Option di}{base:dB}{x a:Str}{st:dE}{f:dk}{fd:dD}{N ps:List Str}{k n:Nat}{b:FS}(F:As K x a st f fd)(hb:k9 K fd ps [])(hm:mg x=some (.ref f))(S:gR N ps (d5 st))(hn:ps.length=n)(c:∀(e:di) (A:dq) (d:List Env) (s:dj) (H:Hp) (E:XK),fQ k (A.deeper (Qr a (d5 st) s.heap.objs.size f e)) ->
   Am (nM vF P w K mg base N a (d5 st) f e A d s H E).nox (fA st) b):eR P w K mg base (k+1) x n (gM N.length b):=by
 subst hn;exact⟨f,fd,ps,L6 F S c,hb,F.kp,hm⟩
def CGl(K:Fg1)(mg:Str->Option di)(x:Str)(d:D):Prop:=∃(v:V) (u:di),mg x=Z u/\d4 v u /\ ∀H mu,eU K H mu d v
theorem FF {X:Cx}{x:Str}{d:D}{pos:Pos}(h:CGl X.K X.mg x d)(hg:Gl X x)(hd:autoParam ((x == ("__debug__":Str))=J) bu0):ME X (.Name x pos) (mC d):=by
 obtain⟨v,u,a,r,q⟩:=h;exact Co d (E5 hg a r hd) q
def fZ:List Bool->Ev->Ev
 |true::bs,o::r=>o::fZ bs r
 |false::bs,_::r=>Y::fZ bs r
 |[],_::r=>Y::fZ [] r
 |_,[]=>[]
def lD:Ev->Bool
 |[]=>M
 |none::r=>lD r
 |some d::r=>d.und 0&&lD r
noncomputable def qS (ki ko:List Bool)(b:FS):FS:=fun r S=>if lD (fZ ki r)=true then
  (b (fZ ki r) []).bind λp=>match p.1 with
   | .rt d=>if d.und 0=true then some (.rt d,[],S)else none
   |f=>if lD (fZ ko p.2.1)=true then some (f,fZ ko p.2.1,S)else none
 else none
theorem kl:∀(bs:List Bool) (r:Ev),(fZ bs r).length=r.length
 |true::bs,o::r=>congrArg (· + 1) (kl bs r)
 |false::bs,o::r=>congrArg (· + 1) (kl bs r)
 |[],o::r=>congrArg (· + 1) (kl [] r)
 |[],[]=>rfl
 |true::_,[]=>rfl
 |false::_,[]=>rfl
theorem km:∀(bs:List Bool) (r:Ev) (i:Nat) (d:D),(fZ bs r)[i]?=Z (Z d)->r[i]?=Z (Z d)
 |true::bs,o::r,0,d,h=>h
 |true::bs,o::r,i+1,d,h=>by
  rw[gC1];exact km bs r i d (by rw[fZ,gC1]at h;exact h)
 |false::bs,o::r,0,d,h=>by simp[fZ]at h
 |false::bs,o::r,i+1,d,h=>by
  rw[gC1];exact km bs r i d (by rw[fZ,gC1]at h;exact h)
 |[],o::r,0,d,h=>by simp[fZ]at h
 |[],o::r,i+1,d,h=>by
  rw[gC1];exact km [] r i d (by rw[fZ,gC1]at h;exact h)
 |[],[],i,d,h=>by simp[fZ]at h
 |true::_,[],i,d,h=>by simp[fZ]at h
 |false::_,[],i,d,h=>by simp[fZ]at h
theorem mF:∀(r:Ev) (i:Nat) (d:D),lD r=M->r[i]?=Z (Z d)->d.und 0=M
 |none::r,0,d,_,h=>by simp at h
 |none::r,i+1,d,hs,h=>mF r i d hs (by simpa using h)
 |some e::r,0,d,hs,h=>by
  rw[lD,bA1]at hs;simp at h;subst h;exact hs.1
 |some e::r,i+1,d,hs,h=>by
  rw[lD,bA1]at hs;exact mF r i d hs.2 (by simpa using h)
theorem fH.mask{K:Fg1}{H:Hp}{mu mu':List dk}{r:Ev}{σ:L2.St}{bs:List Bool}(h:fH K H mu r σ)(hs:lD (fZ bs r)=M):fH K H mu' (fZ bs r) σ:=
 ⟨by rw[kl];exact h.len,λi d e=>by
  obtain⟨v,a,b⟩:=h.val i d (km bs r i d e);exact⟨v,a,b.cut (n:=0) (λk c=>absurd c (bw _)) (mF _ i d hs e)⟩⟩
theorem Cp{K:Fg1}{m t:List Bool}{b:FS}{E:jx}{σ:L2.St}{H:Hp}(h:xj K (qS m t b) E σ H):xj K b E σ H:=by
 obtain⟨r,mu,S,f,B,C,y,j,c,hc⟩:=h;unfold qS at c;split at c
 ·rename_i u;obtain⟨⟨l,q,A⟩,p,c⟩:=Sa c;refine⟨fZ m r,[],[],l,q,A,y.mask u,.nil,p,?_⟩;have back:∀{H':Hp} {mu':List dk},Ext [] mu' H H'->Ext mu mu H H':=λ{H' mu'} x=>⟨bo,λa o e _=>x.old a o e (by simp),x.tup,x.frz,λ_ z=>.inl z⟩;have keep:∀{H':Hp} {mu':List dk},Ext [] mu' H H'->Sim K H' mu S:=λ{H' mu'} x=>⟨j.len,j.nd,λn o a h1 h2=>(j.ob n o a h1 h2).keep (back x) λo e=>x.old a o e (by simp)⟩;cases l with
  |rt d=>
   dsimp only at c;split at c
   ·rename_i i;cases c;exact λv H' mu' x r s=>hc v H' mu (back x) (r.cut (n:=0) (λk w=>absurd w (bw _)) i) (keep x)
   ·cases c
  |nx=>
   dsimp only at c;split at c
   ·rename_i i;cases c;exact λg H' mu' x r s=>hc g H' mu (back x) (r.mask i) (keep x)
   ·cases c
  |bk=>
   dsimp only at c;split at c
   ·rename_i i;cases c;exact λg H' mu' x r s=>hc g H' mu (back x) (r.mask i) (keep x)
   ·cases c
  |ct=>
   dsimp only at c;split at c
   ·rename_i i;cases c;exact λg H' mu' x r s=>hc g H' mu (back x) (r.mask i) (keep x)
   ·cases c
 ·cases c
theorem Cc{X:Cx}{sts:List dE}{b:FS}(c a:List Bool)(h:Am X sts b):Am X sts (qS c a b):=sD h λ_ _ _=>Cp
def CV(K:Fg1)(d:D)(u:di):Prop:=∃v:V,d4 v u /\ ∀H mu,eU K H mu d v
def M4(K:Fg1)(ds:List D)(us:List di):Prop:=∃vs:List V,ee vs us /\ ∀H mu,dX K H mu ds vs
section
variable{K:Fg1}
theorem tz{i:Int}{t}:CV K (.int i) (.int i t):=⟨.int i,⟨t,O⟩,λ_ _=>.int i⟩
theorem tw{x:Str}{t}:CV K (.str x) (.str x t):=⟨.str x,⟨t,O⟩,λ_ _=>.str x⟩
theorem l9:M4 K [] []:=⟨[],.nil,λ_ _=>.nil⟩
theorem fC{d:D}{u:di}{ds:List D}{a:List di}(h:CV K d u)(t:M4 K ds a):M4 K (d::ds) (u::a):=by
 obtain⟨v,r,q⟩:=h;obtain⟨vs,rs,b⟩:=t;exact⟨v::vs,.cons r rs,λH mu=>.cons (q H mu) (b H mu)⟩
theorem pB {a:dk}{b:List di}{n:Nat}{sl:Array (Option di)}{ds:List D}(h:K.lookup a=Z ⟨.type "tuple",Y,.seq b.toArray n,sl⟩)(hs:b.length<=dy)(t:M4 K ds b):CV K (.tup ds) (.ref a):=by
 obtain⟨vs,rs,c⟩:=t;exact⟨.ref a,O,λH mu=>.tup (.inr ⟨_,b.toArray,n,h,O,O,O,by simpa using hs,by simpa using rs⟩) (c H mu)⟩
theorem Dm{mg:Str->Option di}{x:Str}{d:D}{u:di}(hm:mg x=Z u)(h:CV K d u):CGl K mg x d:=by
 obtain⟨v,r,q⟩:=h;exact⟨v,u,hm,r,q⟩
end
theorem kh{K:Fg1}{H:Hp}{mu:List dk}:∀ns:List Int,dX K H mu (ns.map D.int) (ns.map V.int)
 |[]=>.nil
 |n::ns=>.cons (.int n) (kh ns)
theorem JI{K:Fg1}{m:FN}(hm:∀ ns:List Int,ns.length<=63 -> ∃ S,m [.rol (ns.map D.int)] []=some (.bl true,S))(H:Hp)(a:dk)(ns:List Int)(d:ns.length<=63)(b:GV H)(f:mX K H a (ns.map V.int)):
  A8 K 1 m [.ref a] H (λv _=>v = .bl M) λ_ _ _=>False:=by
 refine⟨O,?_⟩;obtain⟨S,e⟩:=hm ns d;have c:RoL K H a (ns.map V.int):=by
  rcases f with h|h
  ·rcases h with h|h
   ·rcases b a with z|⟨o,xs,z⟩
    ·rw[h]at z;cases z
    ·rw[h]at z;cases z
   ·exact .inl h
  ·exact .inr h
 refine⟨[],[],[.rol (ns.map D.int)],.bl M,S,.cons (.rol c (kh ns)) .nil,.nil,e,λv H' mu' x r s=>?_⟩;cases r;rfl
theorem walk_m{l:PySem.W.OpenLaw}{q:dn}{b:List Str}{XP:(Str->Option di)->dB->Prop}{g:dr->dB->Prop}{d:DefRec}{K:Params->Fg1}{m:FN}{k:Nat}{x:Str}(hn:l.most=some 63)(c:d.params.defaults=[])(hr:fQ k callerA)(i:∀(w:dr) (h:dB),g w h->(K w.params).In h)(hm:∀ns:List Int,ns.length<=63 -> ∃S,m [.rol (ns.map D.int)] []=some (.bl true,S))(F:∀(w:dr) (mg:Str->Option di) (e:dk) (h:dB),(K w.params).In h->h.Ns dv mg->mg d.name=some (.ref e) ->
   ∃fd:dD,(∀(s:dj) (u:di),BindsTo s fd ⟨[u],[]⟩ [(x,u)]) /\ ∀base:dB,(K w.params).In base->base.Ns dv mg->j6 l.prog w (K w.params) mg base vF k e fd [x] (A8 (K w.params) 1 m)):
  PySem.W.WalkO q b XP g l.row.toRowW d [] (λf vs=>PySem.call f vs):=
 L2.Eo (n:=63) (k:=k) (x:=x) (CX:=λ_=>vF) (sp:=λw=>A8 (K w.params) 1 m) hn (by decide) c hr i F (λ_ H a ns o j p=>JI hm H a ns o j p) λ_ _ _ _ _ z=>z
structure XE (X:Cx)(e:Expr)(m:FE):Prop where
 h:ME X e m
structure XT (X:Cx)(e:Expr)(m:FT):Prop where
 h:MT X e m
structure XW (X:Cx)(e:Expr)(m:FT):Prop where
 h:MW X e m
structure XA (X:Cx)(e:List Expr)(m:FA):Prop where
 h:MA X e m
structure XS (X:Cx)(e:dE)(m:FS):Prop where
 h:MS X e m
structure wQ (X:Cx)(e:List dE)(m:FS):Prop where
 h:Am X e m
structure XI (X:Cx)(tg e:Expr)(m:FI):Prop where
 h:MI X tg e m
structure XG (X:Cx)(e:Expr)(m:FG):Prop where
 h:MG X e m
structure M0 (X:Cx)(e:List Expr)(m:DZ):Prop where
 h:MB X e m
structure XO (X:Cx)(e:Option Expr)(m:FO):Prop where
 h:MO X e m
structure XF (X:Cx)(K:Fg1)(ifs:List Expr)(t:FT):Prop where
 h:pS X ifs (AZ K t)
theorem ei{X:Cx}:XF X X.K [] eY:=⟨Fz⟩
theorem gy{X:Cx}{c:Expr}{t:FT}(h:XT X c t):XF X X.K [c] t:=⟨Fy h.h⟩
theorem yL{X:Cx}{sts:List dE}{b:FS}(c a:List Bool)(h:wQ X sts b):wQ X sts (qS c a b):=⟨Cc c a h.h⟩
section
variable{pos:Pos}
theorem qK{i:Int}{j}:XE X (.Constant (.int i) j pos) (mC (.int i)):=⟨Jx⟩
theorem fI{b:Bool}{j}:XE X (.Constant (.bool b) j pos) (mC (.bl b)):=⟨LN⟩
theorem iB{j}:XE X (.Constant .none j pos) (mC .non):=⟨Jv⟩
theorem fe{x:Str}{j}:XE X (.Constant (.str x) j pos) (mC (.str x)):=⟨Jr⟩
end
section
variable{pos:Pos}{e:Expr}{es:List Expr}{m:FE}{n:FA}
theorem qN:XA X [] dH:=⟨JB⟩
theorem qA(h:XE X e m)(ht:XA X es n)(hs:autoParam (dw (e::es) X.env=(J,eval e X.env)::dw es X.env) cu0):XA X (e::es) (dG m n):=⟨FJ (h:=h.h) (ht:=ht.h) (hs:=hs)⟩
end
section
variable{K:Fg1}{f:FN}{a b:FE}{σ:L2.St}{H:Hp}{Q:VK}
theorem qI{op:PR}{x y:Expr}{pos:Pos}(ho:gE X (Qd op) (r2 X.K f))(hx:XE X x a)(hy:XE X y b):XE X (.BinOp x op y pos) (m2 f a b):=⟨LK (ho:=ho) (hx:=hx.h) (hy:=hy.h)⟩
theorem Eg{op:Qf}{x y:Expr}{pos:Pos}(ho:gE X (Qe op) (r2 X.K f))(hx:XE X x a)(hy:XE X y b)(hm:Qg op y=J):XE X (.Compare x [op] [y] pos) (m2 f a b):=⟨Jy (ho:=ho) (hx:=hx.h) (hy:=hy.h) (hm:=hm)⟩
theorem qJ{x y:Expr}{pos:Pos}(ho:Hw X (r2 X.K f))(hx:XE X x a)(hy:XE X y b)(hs:oa y):XE X (.Subscript x y pos) (m2 f a b):=⟨LL (ho:=ho) (hx:=hx.h) (hy:=hy.h) (hs:=hs)⟩
theorem qD {x:Str}{p pos:Pos}{e:Expr}{es:List Expr}{id:String}{a:FA}(hc:eQ X (.builtin id) (rN X.K f))(hg:Gl X x)(hm:X.mg x=Y)(hv:Pv x=Z (.builtin id))(ha:XA X (e::es) a)(hn:autoParam (x≠"__name__") bu0)(hdb:autoParam ((x == ("__debug__":Str))=J) bu0)(he:autoParam (dw (e::es) X.env=(J,eval e X.env)::dw es X.env) cu0)(hpl:autoParam ((PC pos (dw es X.env)).any (·.1)=J) cu0):XE X (.Call (.Name x p) (e::es) [] pos) (mN f a):=⟨Cn (hc:=hc) (hg:=hg) (hm:=hm) (hv:=hv) (ha:=ha.h) (hn:=hn) (hdb:=hdb) (he:=he) (hpl:=hpl)⟩
theorem qE {x:Str}{p pos:Pos}{e:Expr}{es:List Expr}{T:String}{a:FA}(hc:eQ X (.type T) (rN X.K f))(hg:Gl X x)(hm:X.mg x=Y)(hv:Pv x=Z (.type T))(ha:XA X (e::es) a)(hn:autoParam (x≠"__name__") bu0)(hdb:autoParam ((x == ("__debug__":Str))=J) bu0)(he:autoParam (dw (e::es) X.env=(J,eval e X.env)::dw es X.env) cu0)(hpl:autoParam ((PC pos (dw es X.env)).any (·.1)=J) cu0):XE X (.Call (.Name x p) (e::es) [] pos) (mN f a):=⟨zv (hc:=hc) (hg:=hg) (hm:=hm) (hv:=hv) (ha:=ha.h) (hn:=hn) (hdb:=hdb) (he:=he) (hpl:=hpl)⟩
end
section
variable{x y c:Expr}{rest:List Expr}{pos:Pos}{a b:FT}{f g:FE}
theorem qX{op:Qf}{f:FN}{a b:FE}(ho:gE X (Qe op) (r2 X.K f))(hx:XE X x a)(hy:XE X y b)(hm:Qg op y=J):XT X (.Compare x [op] [y] pos) (mB (m2 f a b)):=⟨I3 (ho:=ho) (hx:=hx.h) (hy:=hy.h) (hm:=hm)⟩
theorem jy(ha:XT X x a):XW X (.BoolOp .And [x] pos) a:=⟨Fq (ha:=ha.h)⟩
theorem lw(ha:XT X x a):XW X (.BoolOp .Or [x] pos) a:=⟨IY (ha:=ha.h)⟩
theorem j8(ha:XT X x a)(hb:XW X (.BoolOp .And (y::rest) pos) b):XW X (.BoolOp .And (x::y::rest) pos) (p9 a b):=⟨IZ (ha:=ha.h) (hb:=hb.h)⟩
theorem lc(ha:XT X x a)(hb:XW X (.BoolOp .Or (y::rest) pos) b):XW X (.BoolOp .Or (x::y::rest) pos) (Cq a b):=⟨LH (ha:=ha.h) (hb:=hb.h)⟩
theorem kI(h:XW X x a):XT X x a:=⟨NB (h:=h.h)⟩
theorem j9(ha:XT X x a):XT X (.UnaryOp .Not x pos) (nG a):=⟨I1 (ha:=ha.h)⟩
theorem kd{op}(h:XE X x f):XE X (.BoolOp op [x] pos) f:=⟨Jt (h:=h.h)⟩
theorem jc(ha:XE X x f)(hb:XE X (.BoolOp .And (y::rest) pos) g):XE X (.BoolOp .And (x::y::rest) pos) (kX f g):=⟨Jz (ha:=ha.h) (hb:=hb.h)⟩
theorem w1(ha:XE X x f):XE X (.UnaryOp .Not x pos) (uF f):=⟨Ju (ha:=ha.h)⟩
theorem lf(hc:XT X c a)(hx:XE X x f)(hy:XE X y g):XE X (.IfExp c x y pos) (uG a f g):=⟨LM (hc:=hc.h) (hx:=hx.h) (hy:=hy.h)⟩
end
section
variable{x y z:Expr}{pos:Pos}{f g:FN}{a b c:FE}{op op':Qf}
theorem yM(ho:gE X (Qe op) (r2 X.K f))(ho':gE X (Qe op') (r2 X.K g))(hx:XE X x a)(hy:XE X y b)(hz:XE X z c)(hm:autoParam (lastMarks [op,op'] [y,z]=J) BO._auto_1):XE X (.Compare x [op,op'] [y,z] pos) (LO f g a b c):=⟨Ck (ho:=ho) (ho':=ho') (hx:=hx.h) (hy:=hy.h) (hz:=hz.h) (hm:=hm)⟩
end
section
variable{pos:Pos}{e c:Expr}{st:dE}{rest as bs:List dE}{a b:FS}{m:FE}{t:FT}
theorem qQ:wQ X [] kW:=⟨Ft⟩
theorem qF(h1:XS X st a)(h2:wQ X rest b):wQ X (st::rest) (dQ a b):=⟨Cd (h1:=h1.h) (h2:=h2.h)⟩
theorem qG(h1:XS X st a):wQ X [st] a:=⟨Fs (h1:=h1.h)⟩
theorem Az(h:XE X e m)(hs:autoParam (PN e Y pos.line X.env=pure J) cu0):XS X (.Expr e pos) (fG m):=⟨Fu (h:=h.h) (hs:=hs)⟩
theorem qU(h:XE X e m):XS X (.Return (Z e) pos) (eh m):=⟨I9 (h:=h.h)⟩
theorem qV(hc:XT X c t)(ha:wQ X as a)(hb:wQ X bs b):XS X (.If c as bs pos) (ft t a b):=⟨LI (hc:=hc.h) (ha:=ha.h) (hb:=hb.h)⟩
end
section
variable{pos:Pos}
theorem qO(i:Nat){x:Str}(hN:X.N.Nodup)(hi:X.N[i]?=Z x)(hx:vE X.env.scope x)(hf:autoParam (X.fn x=M\/X.env.scope.names.lookup x=Z .local) au0):XG X (.Name x pos) (gN i):=⟨FD (i:=i) (hN:=hN) (hi:=hi) (hx:=hx) (hf:=hf)⟩
theorem iQ:M0 X [] gNl:=⟨FC⟩
theorem eu{e:Expr}{es:List Expr}{g:FG}{a:DZ}(h1:XG X e g)(h2:M0 X es a)(hs:autoParam ((PQ (e::es) X.env).map (·.2)=PP e X.env::(PQ es X.env).map (·.2)) cu0):M0 X (e::es) (gCs g a):=⟨Cg (h1:=h1.h) (h2:=h2.h) (hs:=hs)⟩
theorem ka{es:List Expr}{k:Nat}{a:DZ}{n:Nat}(hc:X.calm=M)(h:M0 X es a)(hn:autoParam ((PQ es X.env).length=n) cu0)(hst:autoParam ((PQ es X.env).findIdx? (·.1)=Y) cu0):XG X (.Tuple es k pos) (gT n a):=⟨Ji (hc:=hc) (h:=h.h) (hn:=hn) (hst:=hst)⟩
theorem ly{o i:Expr}{a b:FE}{f:FN}(ho:XE X o a)(hi:XE X i b)(hs:wU X (rU X.K f))(ha:autoParam (∀ v,PP (.Subscript o i pos) X.env v=(do
   let ov<-PV [v] (eval o X.env)
   let iv<-PV [v,ov] (eval i X.env)
   PX pos
   PV [v,ov,iv] (setItem ov iv v)
   release [v,ov,iv] [])) du0):XG X (.Subscript o i pos) (gS f a b):=⟨Jj (ho:=ho.h) (hi:=hi.h) (hs:=hs) (ha:=ha)⟩
theorem qR{tg e:Expr}{m:FE}{g:FG}(he:XE X e m)(hg:XG X tg g)(hs:autoParam (P0 [tg] e pos.line X.env=pure J) cu0)(hw:autoParam (P1 [tg] e X.env=pure Y) cu0)(h1:autoParam ((PQ [tg] X.env).map (·.2)=[PP tg X.env]) cu0):XS X (.Assign [tg] e pos) (dS m g):=⟨Jc (he:=he.h) (hg:=hg.h) (hs:=hs) (hw:=hw) (h1:=h1)⟩
theorem qY(i:Nat){x:Str}{e:Expr}{m:FE}{pos':Pos}(hN:X.N.Nodup)(hi:X.N[i]?=Z x)(hx:vE X.env.scope x)(he:XE X e m)(hs:autoParam (PN e (Z (.Name x pos')) pos.line X.env=pure J) cu0)(hf:autoParam (X.fn x=M\/X.env.scope.names.lookup x=Z .local) au0):XS X (.Assign [.Name x pos'] e pos) (dS m (gN i)):=⟨I7 (i:=i) (hN:=hN) (hi:=hi) (hx:=hx) (he:=he.h) (hs:=hs) (hf:=hf)⟩
theorem Ed(i:Nat){x:Str}{e:Expr}{m:FE}{op:PR}{f:FN}{pos':Pos}(hN:X.N.Nodup)(hi:X.N[i]?=Z x)(hx:vE X.env.scope x)(he:XE X e m)(ho:M1 X op (r2 X.K f))(hf:autoParam (X.fn x=M\/X.env.scope.names.lookup x=Z .local) au0):XS X (.AugAssign (.Name x pos') op e pos) (FM i f m):=⟨Jb (i:=i) (hN:=hN) (hi:=hi) (hx:=hx) (he:=he.h) (ho:=ho) (hf:=hf)⟩
end
section
theorem iP{X:Cx}{pos:Pos}(n:Nat){c:Expr}{a:List dE}{t:FT}{b:FS}(hp:P3 (PB X.prog X.w) X.A X.env X.xe)(hc:XT X c t)(hb:wQ X a b):XS X (.While c a [] pos) (qp t b n):=⟨Ce (n:=n) (hp:=hp) (hc:=hc.h) (hb:=hb.h)⟩
theorem qW{X:Cx}{pos:Pos}{tg iter:Expr}{a:List dE}{m:FI}{g:FG}{b:FS}(hp:P3 (PB X.prog X.w) X.A X.env X.xe)(hc:X.calm=M)(hi:XI X tg iter m)(hg:XG X tg g)(hb:wQ X a b)(hs:autoParam (∀x,Qc iter X.env x=pure x) du0):XS X (.For tg iter a [] pos) (fF m g b):=⟨Ja (hp:=hp) (hc:=hc) (hi:=hi.h) (hg:=hg.h) (hb:=hb.h) (hs:=hs)⟩
end
section
variable{es:List Expr}{pos:Pos}{a:FA}
theorem dY{x1}(h:XA X es a):XE X (.Tuple es x1 pos) (eG a):=⟨Jq (h:=h.h)⟩
theorem ff(h:XA X es a):XE X (.List es pos) (g6 a):=⟨Jw (h:=h.h)⟩
end
section
variable{tg:Expr}
theorem qd{e:Expr}{m:FE}(h:XE X e m):XI X tg e (g9 m):=⟨Jh (h:=h.h)⟩
theorem vL {a:Expr}{m:FA}{p pos:Pos}(hg:Gl X "range")(hm:X.mg "range"=Y)(ha:XA X [a] m)(hs:autoParam (dw [a] X.env=[(J,eval a X.env)]) cu0):XI X tg (.Call (.Name "range" p) [a] [] pos) (nK m):=⟨zr (hg:=hg) (hm:=hm) (ha:=ha.h) (hs:=hs)⟩
theorem oe {a b:Expr}{m:FA}{p pos:Pos}(hg:Gl X "range")(hm:X.mg "range"=Y)(ha:XA X [a,b] m)(hs:autoParam (dw [a,b] X.env=[(J,eval a X.env),(J,eval b X.env)]) cu0)(hs2:autoParam (dw [b] X.env=[(J,eval b X.env)]) cu0):XI X tg (.Call (.Name "range" p) [a,b] [] pos) (KM m):=⟨zq (hg:=hg) (hm:=hm) (ha:=ha.h) (hs:=hs) (hs2:=hs2)⟩
end
section
variable{tg:Expr}
variable{elts:List Expr}{k:Nat}{tpos:Pos}
theorem AA {a:Expr}{m:FA}{p pos:Pos}(hg:Gl X "enumerate")(hm:X.mg "enumerate"=Y)(ha:XA X [a] m)(hs:autoParam (dw [a] X.env=[(J,eval a X.env)]) cu0):XI X (.Tuple elts k tpos) (.Call (.Name "enumerate" p) [a] [] pos) (qa m):=⟨FB (hg:=hg) (hm:=hm) (ha:=ha.h) (hs:=hs)⟩
theorem rW {a b:Expr}{m:FA}{p pos:Pos}(hg:Gl X "zip")(hm:X.mg "zip"=Y)(ha:XA X [a,b] m)(hs:autoParam (dw [a,b] X.env=[(J,eval a X.env),(J,eval b X.env)]) cu0)(hs2:autoParam (dw [b] X.env=[(J,eval b X.env)]) cu0):XI X (.Tuple elts k tpos) (.Call (.Name "zip" p) [a,b] [] pos) (Hj m):=⟨Jg (hg:=hg) (hm:=hm) (ha:=ha.h) (hs:=hs) (hs2:=hs2)⟩
end
section
variable{ag:List (dk×Obj)}{σ:L2.St}{H:Hp}{s:dj}{mu:List dk}{S:Sto}{K:Fg1}
theorem vM (T:Ty){e:Expr}{m:FE}{nm:Str}{p p2 pos:Pos}(hg:Gl X "isinstance")(hm:X.mg "isinstance"=Y)(hg2:Gl X nm)(hm2:X.mg nm=Y)(hv2:Pv nm=Z (.type T.nm))(h:XE X e m)(hn:autoParam (nm≠"__name__") bu0)(hd:autoParam ((nm == ("__debug__":Str))=J) bu0)(hs1:autoParam (dw [e,.Name nm p2] X.env=(J,eval e X.env)::dw [.Name nm p2] X.env) cu0)(hs2:autoParam (dw [.Name nm p2] X.env=(J,eval (.Name nm p2) X.env)::dw [] X.env) cu0)(hpl:autoParam ((PC pos (dw [.Name nm p2] X.env)).any (·.1)=J) cu0):XE X (.Call (.Name "isinstance" p) [e,.Name nm p2] [] pos) (sQ T m):=⟨zu (T:=T) (hg:=hg) (hm:=hm) (hg2:=hg2) (hm2:=hm2) (hv2:=hv2) (h:=h.h) (hn:=hn) (hd:=hd) (hs1:=hs1) (hs2:=hs2) (hpl:=hpl)⟩
end
theorem ij:XO X Y i0:=⟨Fx⟩
theorem ig{e:Expr}{m:FE}(h:XE X e m):XO X (Z e) (js m):=⟨Fw (h:=h.h)⟩
theorem og {a:Expr}{m:FA}{d p2 b c:Pos}(hc:X.calm=M)(hg:Gl X "range")(hm:X.mg "range"=Y)(hg2:Gl X "list")(hm2:X.mg "list"=Y)(ha:XA X [a] m)(hs:autoParam (dw [a] X.env=[(J,eval a X.env)]) cu0)(hs2:autoParam (dw [.Call (.Name "range" d) [a] [] b] X.env=[(J,eval (.Call (.Name "range" d) [a] [] b) X.env)]) cu0):XE X (.Call (.Name "list" p2) [.Call (.Name "range" d) [a] [] b] [] c) (zx m):=⟨zt (hc:=hc) (hg:=hg) (hm:=hm) (hg2:=hg2) (hm2:=hm2) (ha:=ha.h) (hs:=hs) (hs2:=hs2)⟩
theorem qe {o e:Expr}{es:List Expr}{m:FE}{a:FA}{f:FN}{name:Str}{apos cpos:Pos}{id:String}(slot:Slot "list" name id)(hty:typeOf (.builtin id)=pure (.type "method_descriptor"))(hm:DY X id (λx xs H Q=>rN X.K f (x::xs) H Q))(ho:XE X o m)(ha:XA X (e::es) a)(hbase:autoParam (QP o name X.env (eval o X.env)=eval o X.env) cu0)(hfew:autoParam (((PC cpos (dw (e::es) X.env)).all (λx=> !x.1)&&(QQ cpos (QR [] X.env)).all (λx=>x.1.isSome)&&decide ((e::es).length+([]:List Qp).length+(if([]:List Qp).isEmpty then 0 else 1)<30))=M) cu0)(hline:autoParam ((apos.endLine == cpos.line)=M) cu0)(hs:autoParam (dw (e::es) X.env=(J,eval e X.env)::dw es X.env) cu0)(hplain:autoParam ((PC cpos (dw es X.env)).any (·.1)=J) cu0):XE X (.Call (.Attribute o name apos) (e::es) [] cpos) (oW f m a):=⟨Cj (slot:=slot) (hty:=hty) (hm:=hm) (ho:=ho.h) (ha:=ha.h) (hbase:=hbase) (hfew:=hfew) (hline:=hline) (hs:=hs) (hplain:=hplain)⟩
theorem Oy (i:Nat){x:Str}{pos:Pos}(hN:autoParam (X.N[i]?=Z x) cu0)(hv:autoParam (Vis X.env.scope x) au0)(hd:autoParam ((x == ("__debug__":Str))=J) bu0)(hcd:autoParam ((x == ("__classdict__":Str))=J) bu0):XE X (.Name x pos) (mV i):=⟨mv (i:=i) (hN:=hN) (hv:=hv) (hd:=hd) (hcd:=hcd)⟩
section
theorem qH {X:Cx}{k k' n:Nat}{x:Str}{m:FN}{p pos:Pos}{e:Expr}{es:List Expr}{a:FA}(h:eR X.prog X.w X.K X.mg X.base k x n m)(hr:fQ k' X.A)(hk:k<=k')(hg:Gl X x)(ha:XA X (e::es) a)(hdb:autoParam ((x == ("__debug__":Str))=J) bu0)(he:autoParam (dw (e::es) X.env=(J,eval e X.env)::dw es X.env) cu0)(hpl:autoParam ((PC pos (dw es X.env)).any (·.1)=J) cu0):XE X (.Call (.Name x p) (e::es) [] pos) (mN (dI n m) a):=⟨Js (h:=h) (hr:=hr) (hk:=hk) (hg:=hg) (ha:=ha.h) (hdb:=hdb) (he:=he) (hpl:=hpl)⟩
theorem oh {X:Cx}{x:Str}{d:D}{pos:Pos}(h:CGl X.K X.mg x d)(hg:Gl X x)(hd:autoParam ((x == ("__debug__":Str))=J) bu0):XE X (.Name x pos) (mC d):=⟨FF (h:=h) (hg:=hg) (hd:=hd)⟩
end
structure N0 (X:Cx)(K:Fg1)(tg:Expr)(ifs:List Expr)(elt:Expr)(g:FG)(t:FT)(e:FE):Prop where
 g:XG X tg g
 t:XF X K ifs t
 e:XE X elt e
structure Pb (X:Cx)(K:Fg1)(tg:Expr)(ifs:List Expr)(tg2 iter2:Expr)(ifs2:List Expr)(elt:Expr)(g:FG)(t:FT)(m2:FI)(g2:FG)(t2:FT)(e:FE):Prop where
 g:XG X tg g
 t:XF X K ifs t
 i2:XI X tg2 iter2 m2
 g2:XG X tg2 g2
 t2:XF X K ifs2 t2
 e:XE X elt e
theorem Ec{P:dn}{w:dr}{K:Fg1}{mg:Str->Option di}{base:dB}{x c:Str}{st:dE}{f:dk}{fd:dD}{N ps:List Str}{k n:Nat}{b:FS}(F:As K x c st f fd)(hb:k9 K fd ps [])(hm:mg x=some (.ref f))(S:gR N ps (d5 st))(hn:ps.length=n)(e:∀(d:di) (A:dq) (a:List Env) (s:dj) (H:Hp) (E:XK),fQ k (A.deeper (Qr c (d5 st) s.heap.objs.size f d)) ->
   wQ (nM vF P w K mg base N c (d5 st) f d A a s H E).nox (fA st) b):eR P w K mg base (k+1) x n (gM N.length b):=
 IJ F hb hm S hn λd A a s H E g=>(e d A a s H E g).h
theorem Hz{P:dn}{w:dr}{K:Fg1}{mg:Str->Option di}{base:dB}{x c:Str}{st:dE}{f:dk}{fd:dD}{N ps:List Str}{k n:Nat}{b:FS}(F:As K x c st f fd)(S:gR N ps (d5 st))(hn:ps.length=n)(e:∀(d:di) (A:dq) (a:List Env) (s:dj) (H:Hp) (E:XK),fQ k (A.deeper (Qr c (d5 st) s.heap.objs.size f d)) ->
   wQ (nM vF P w K mg base N c (d5 st) f d A a s H E).nox (fA st) b):j6 P w K mg base vF (k+1) f fd ps (A8 K n (gM N.length b)):=by
 subst hn;exact L6 F S λd A a s H E g=>(e d A a s H E g).h
abbrev FV:=Ev->Sto->Option (List D×Ev×Sto)
noncomputable def fc (c:List (Nat×List D))(g:FG)(t:FT)(b:FV):List D->FV
 |[]=>λr S=>if oR S c=true then some ([],r,S)else none
 |d::ds=>λr S=>if oR S c=true then(g d r S).bind λp=>(t p.1 p.2).bind λk=>if k.1=true then(b p.1 k.2).bind λq=>(fc c g t b ds q.2.1 q.2.2).map λz=>(q.1++z.1,z.2)else fc c g t b ds p.1 k.2 else none
noncomputable def eg (m:FE):FV:=λr S=>(m r S).map λq=>([q.1],r,q.2)
def u4(m:FI)(g:FG)(t:FT)(b:FV):FV:=λr S=>(m r S).bind λp=>fc p.1.chk g t b p.1.items r p.2
noncomputable def ez (k:Nat)(keep:List Nat)(m:FI)(g:FG)(t:FT)(b:FV):FE:=λr S=>(m r S).bind λp=>
 (fc p.1.chk g t b p.1.items (uS k keep r) p.2).bind λq=>if q.1.length<=dy then some (.ref q.2.2.length,q.2.2++[.lst q.1])else none
section
variable{K:Fg1}{H H' H1:Hp}{mu mu' mu1:List dk}{S:Sto}{a:dk}
theorem Ext.aside(x:Ext mu mu' H H'):Ext (a::mu) (a::mu') H H' where
 pre:=bT.mpr ⟨O,x.pre⟩
 old:=λb o h n=>x.old b o h λz=>n (mC1 _ z)
 tup:=x.tup
 frz:=x.frz
 new:=λb h=>by
  rcases aF.mp h with h|h
  ·exact .inl (by rw[h];exact mS1)
  ·rcases x.new b h with q|q
   ·exact .inl (mC1 _ q)
   ·exact .inr q
theorem Ext.inner(x:Ext (a::mu) (a::mu') H H'):tU mu mu' H H':=⟨(bT.mp x.pre).2,x.tup,x.frz⟩
theorem Ext.held{o:HO}(x:Ext mu mu' H H')(ha:H a=Z o)(hn:a∉mu):H' a=Z o/\a∉mu':=by
 refine⟨x.old a o ha hn,λz=>?_⟩;rcases x.new a z with q|q
 ·exact hn q
 ·rw[ha]at q;cases q
theorem fH.exw{r:Ev}{σ:L2.St}(e:tU mu mu' H H')(h:fH K H mu r σ):fH K H' mu' r σ:=⟨h.len,λi d q=>by
 obtain⟨v,a,b⟩:=h.val i d q;exact⟨v,a,b.exw e⟩⟩
theorem pU.exw{b:dk}(e:tU mu mu' H H')(h:∀o,H b=Z o->H' b=Z o):∀{o:Ob},pU K H mu b o->pU K H' mu' b o
 | .lst _,⟨vs,q,r⟩=>⟨vs,h _ q,r.exw e⟩
 | .dct _,⟨ws,q,r⟩=>⟨ws,h _ q,Paired.mapP r λ_ _ z=>⟨z.1,z.2.exw e⟩⟩
 | .dcT _,⟨ws,q,r,l⟩=>⟨ws,h _ q,Paired.mapP r λ_ _ ⟨z,d,k,v,a,r⟩=>⟨z,d,k.exw e,v,a,r.exw e⟩,l⟩
 | .iset _,q=>⟨h _ q.1,q.2⟩
 | .dcF _,⟨ws,⟨o,u,c,f⟩,r,l⟩=>⟨ws,⟨o,u,h _ c,f⟩,Paired.mapP r λ_ _ ⟨z,d,k,v,a,r⟩=>⟨z,d,k.exw e,v,a,r.exw e⟩,l⟩
 | .tst _,⟨ws,q,r⟩=>⟨ws,h _ q,Paired.mapP r λ_ _ ⟨z,d,k,v,a,r⟩=>⟨z,d,k.exw e,v,a,r.exw e⟩⟩
theorem Sim.aside{u:HO}(s:Sim K H mu S)(e:tU mu mu H (upd H a u))(hn:a∉mu):Sim K (upd H a u) mu S:=
 ⟨s.len,s.nd,λk o b h1 h2=>(s.ob k o b h1 h2).exw e λo' q=>by rw[d6 (λz=>hn (by rw[<- z];exact gM1 h2))];exact q⟩
end
inductive KJ (K:Fg1)(a:dk)(m:FV)(E:jx)(σ:L2.St)(H:Hp):Prop
 |mk (r:Ev) (mu:List dk) (S:Sto) (acc:List D) (vs:List V) (xs:List D) (r':Ev) (S':Sto):H a=some (.lst vs)->a∉mu->dX K H mu acc vs->fH K H mu r σ->Sim K H mu S->m r S=some (xs,r',S')->vs.length+xs.length<=dy ->
 (∀ σ' H' mu' vs',Ext (a::mu) (a::mu') H H'->H' a=some (.lst vs')->a∉mu'->dX K H' mu' (acc++xs) vs'->fH K H' mu' r' σ'->Sim K H' mu' S'->E.nx σ' H')->KJ K a m E σ H
theorem px{K:Fg1}{a:dk}{m:FE}{E:jx}{σ:L2.St}{H:Hp}(h:KJ K a (eg m) E σ H):tZ a (tM K m) E σ H:=by
 obtain⟨r,mu,S,s,vs,xs,u,w,o,f,t,i,k,g,p,hc⟩:=h;obtain⟨⟨d,q⟩,j,g⟩:=Sb g;cases g;refine⟨r,mu,S,d,q,i,k,j,λv H1 mu1 e l n=>?_⟩;obtain⟨b,c⟩:=e.held o f;have put:Ext (a::mu1) (a::mu1) H1 (upd H1 a (.lst (vs++[v]))):=Ext.put b trivial mS1;refine⟨vs,b,p,?_⟩;exact hc σ _ mu1 (vs++[v]) (e.aside.trans put) d9 c (((t.ext e).append (.cons l .nil)).exw put.inner) ((i.ext e).exw put.inner) (n.aside put.inner c)
inductive N7 (K:Fg1)(a:dk)(mu2:List dk)(H:Hp)(c:List (Nat×List D))(g:FG)(t:FT)(b:FV)(r':Ev)(S':Sto)(tot:List D)(L:List D)(σ':L2.St)(H':Hp):Prop
 |mk (r3:Ev) (mu3:List dk) (S3:Sto) (acc3:List D) (vs3:List V) (xs3:List D):Ext (a::mu2) (a::mu3) H H'->H' a=some (.lst vs3)->a∉mu3->dX K H' mu3 acc3 vs3->fH K H' mu3 r3 σ'->Sim K H' mu3 S3->fc c g t b L r3 S3=some (xs3,r',S')->acc3++xs3=tot->vs3.length+xs3.length<=dy->N7 K a mu2 H c g t b r' S' tot L σ' H'
theorem uJ{K:Fg1}{a:dk}{j:It}{ao:An}{g:FG}{t:FT}{b:FV}{tb:TS}{D:jx}(hb:∀ E σ H,KJ K a b E σ H->tb E σ H){mu1 e:List dk}{H1 H:Hp}{r I:Ev}{S S':Sto}{σ:L2.St}{acc xs:List Mi.D}{vs:List V}(hJ:N8 K j ao mu1 H1)(x:tU mu1 e H1 H)(ha:H a=Z (.lst vs))(au:a∉e)(hr:dX K H e acc vs)(he:fH K H e r σ)(hs:Sim K H e S)(hm:fc ao.chk g t b ao.items r S=Z (xs,I,S'))(hl:vs.length+xs.length<=dy)(hc:∀l H' mu' v,Ext (a::e) (a::mu') H H'->H' a=Z (.lst v)->a∉mu'->dX K H' mu' (acc++xs) v->fH K H' mu' I l->Sim K H' mu' S'->D.nx l H'):A0 j (HR K g) (AZ K t) tb D σ H:=by
 refine⟨λi k l H'=>k=(ao.items.drop i).length/\N7 K a e H ao.chk g t b I S' (acc++xs) (ao.items.drop i) l H',
  ⟨_,O,r,e,S,acc,vs,xs,.refl _ _,ha,au,hr,he,hs,hm,O,hl⟩,?_⟩
 rintro i k σ3 U ⟨rfl,r3,m,S3,f,vs3,W,G,w,B,u,F,P,c,n,h⟩;cases hd0:ao.items.drop i with
 |nil=>
  left;rw[hd0,fc]at c;dsimp only at c;split at c
  ·rename_i ok;cases c;refine⟨(hJ i U m _ (x.trans G.inner) P ok).2 (List.drop_eq_nil_iff.mp hd0),hc σ3 U m vs3 G w B ?_ F P⟩;rw[<- n,aN];exact u
  ·cases c
 |cons d ds=>
  right;rw[hd0]at c;obtain⟨hi,hd⟩:=np hd0;rw[fc]at c;dsimp only at c;split at c
  ·rename_i ok;obtain⟨⟨L,S4⟩,e4,c⟩:=Sa c;obtain⟨⟨k5,S5⟩,e5,c⟩:=Sa c;obtain⟨go,yl⟩:=(hJ i U m _ (x.trans G.inner) P ok).1 d hi;refine⟨go,N7 K a e H ao.chk g t b I S' (acc++xs) ds,?_,λy H4 yy=>?_⟩
   ·intro l H' h6;exact⟨ds.length,bB _,(congrArg List.length hd).symm,hd.symm ▸ h6⟩
   ·obtain⟨aq,s4,q4⟩:=yl y H4 yy;obtain⟨T,hn4⟩:=aq.held w B;refine⟨r3,m,S3,d,L,S4,F.ext aq,s4,q4,e4,fun σ5 H5 N R p s5=>?_⟩;obtain⟨X,hn5⟩:=R.held T hn4;refine⟨L,N,S4,k5,S5,p,s5,e5,λH6 q C s6=>?_⟩;obtain⟨A,z⟩:=C.held X hn5;have xx:=((G.trans aq.aside).trans R.aside).trans C.aside;have o:dX K H6 q f vs3:=((u.ext aq).ext R).ext C;cases k5 with
    |true=>
     obtain⟨⟨q1,r7,S7⟩,e7,c⟩:=Sa c;obtain⟨⟨z1,r8,S8⟩,e8,c⟩:=Sb c;cases c;refine hb _ _ _ ⟨L,q,S5,f,vs3,q1,r7,S7,A,z,o,p.ext C,s6,e7,?_,fun σ8 H8 mu8 vs8 x8 av wq s Q s8=>⟨r7,mu8,S7,f++q1,vs8,z1,xx.trans x8,av,wq,s,Q,s8,e8,?_,?_⟩⟩
     ·rw[lA1]at h;dsimp only at h;lia
     ·rw[<- n,bE]
     ·have:=s.length;have h3:=o.length;rw[lA1]at this h;dsimp only at h;lia
    |false=>exact⟨L,q,S5,f,vs3,W,xx,A,z,o,p.ext C,s6,c,n,h⟩
  ·cases c
theorem B7{K:Fg1}{a:dk}{m:FI}{g:FG}{t:FT}{b:FV}{tb:TS}(hb:∀E σ H,KJ K a b E σ H->tb E σ H){E:jx}{σ:L2.St}{H:Hp}(h:KJ K a (u4 m g t b) E σ H):AY (K6 K m) (HR K g) (AZ K t) tb E σ H:=by
 obtain⟨r,mu,S,z,vs,xs,B,A,u,e,w,n,p,l,x,hc⟩:=h;obtain⟨⟨ao,q⟩,o,l⟩:=Sa l;refine⟨r,mu,S,ao,q,n,p,o,λj H1 mu1 c y v=>?_⟩;obtain⟨i,k⟩:=c.held u e;exact uJ hb y (Ext.refl _ _).w i k (w.ext c) (n.ext c) v l x λf H' mu' d s=>hc f H' mu' d (c.aside.trans s)
theorem pC{K:Fg1}{k:Nat}{keep:List Nat}{m:FI}{g:FG}{t:FT}{b:FV}{tb:dk->TS}(hb:∀ a E σ H,KJ K a b E σ H->tb a E σ H){σ:L2.St}{H:Hp}{Q:VK}(h:tM K (ez k keep m g t b) σ H Q):
  A1 k keep (K6 K m) (HR K g) (AZ K t) tb σ H Q:=by
 obtain⟨r,mu,S,d,au,G,P,f,hc⟩:=h;obtain⟨⟨ao,R⟩,av,f⟩:=Sa f;obtain⟨⟨xs,r2,aq⟩,V,f⟩:=Sa f;dsimp only at f;split at f
 ·rename_i W;cases f;refine ⟨r,mu,S,ao,R,G,P,av,fun j H1 mu1 I X L p i=>?_⟩;have w:Ext mu1 mu1 H1 (upd H1 p (.lst [])):=Ext.fresh i;refine uJ (hb p) X w.w d9 (L.notin i) .nil ((LW k keep (G.ext I)).ext w) (L.fresh i) V (by simpa using W) fun T H' mu' l s C A D U s'=>?_;have y:Ext mu1 (mu'++[p]) H1 H':=by
   refine⟨((bT.mp s.pre).2).trans (bv _ _),λb o e n=>?_,λb ys e=>s.tup b ys (w.tup b ys e),λb o u e=>s.frz b o u (w.frz b o u e),λb B=>?_⟩
   ·have F:b≠p:=et e i;exact s.old b o (by rw [d6 F];exact e) fun z=>by
     rcases aF.mp z with z|z
     ·exact F z
     ·exact n z
   ·rcases aG.mp B with z|z
    ·rcases s.new b (mC1 _ z)with q|q
     ·rcases aF.mp q with q|q
      ·exact .inr (by rw[q];exact i)
      ·exact .inl q
     ·by_cases v:b=p
      ·exact .inr (by rw[v];exact i)
      ·rw[d6 v]at q;exact .inr q
    ·have:b=p:=by simpa using z
     exact .inr (by rw[this];exact i)
  refine hc _ H' (mu'++[p]) (I.trans y) (.ref (hO s'.len p)) ⟨by rw[lA1,lA1,s'.len];rfl,?_,λn o b h1 h2=>?_⟩
  ·rw[bx];refine⟨s'.nd,by simp,λb hb c hc e=>?_⟩;have:c=p:=by simpa using hc
   subst this;subst e;exact A hb
  ·by_cases N:n<aq.length
   ·rw[gL1 N]at h1;rw[gL1 (by rw[s'.len];exact N)]at h2;exact(s'.ob n o b h1 h2).mor [p]
   ·have x:n=aq.length:=by
     have:=(R9 h1).1;rw[lA1]at this;simp at this;lia
    subst x;rw[gR1 (nR1 _)]at h1;rw[<- s'.len,gR1 (nR1 _)]at h2;simp at h1 h2;subst h1;subst h2;exact⟨l,C,(by simpa using D:dX K H' mu' xs l).mor [p]⟩
 ·cases f
theorem qZ{elt tg iter:Expr}{ifs:List Expr}{scope:dF}{pos:Pos}{T:List Str}{keep:List Nat}{f:List (Str×dk)}{m:FI}{g:FG}{t:FT}{e:FE}(hc:X.calm=M)(C:KQ X scope T keep)(c:jU X.env.cells scope.names []=Z f)(hi:XI X tg iter m)(hb:∀s H fp,N0 (cxC X scope f T keep s H fp) X.K tg ifs elt g t e)(hs:autoParam (∀x,Qc iter X.env x=pure x) du0):XE X (.ListComp elt [⟨tg,iter,ifs,0⟩] scope pos) (ez T.length keep m g t (eg e)):=
 ⟨eM (E7 (emit:=py elt) (tb:=λp=>tZ p (tM X.K e)) hc (λit b d=>AR elt tg iter ifs scope pos it b d) C c hi.h (λs H fp p=>⟨(hb s H fp).g.h,(hb s H fp).t.h,sC (hb s H fp).e.h p⟩) hs)
  fun σ H Q h=>pC (λa E σ H q=>px q) h⟩
theorem ib{elt tg iter:Expr}{ifs:List Expr}{scope:dF}{pos b l:Pos}{y:Str}(i:Nat){T:List Str}{keep:List Nat}{k:List (Str×dk)}{m:FI}{g:FG}{t:FT}{e:FE}(hc:X.calm=M)(C:KQ X scope T keep)(d:jU X.env.cells scope.names []=Z k)(hi:XI X tg iter m)(hb:∀s H fp,N0 (cxC X scope k T keep s H fp) X.K tg ifs elt g t e)(hN:X.N.Nodup)(hy:X.N[i]?=Z y)(hx:vE X.env.scope y)(c:autoParam (PN (.ListComp elt [⟨tg,iter,ifs,0⟩] scope pos) (Z (.Name y l)) b.line X.env=pure M) cu0)(hf:autoParam (X.fn y=M\/X.env.scope.names.lookup y=Z .local) au0)(hs:autoParam (∀x,Qc iter X.env x=pure x) du0):XS X (.Assign [.Name y l] (.ListComp elt [⟨tg,iter,ifs,0⟩] scope pos) b) (dS (ez T.length keep m g t (eg e)) (gN i)):=
 ⟨im (xC (emit:=py elt) (tb:=λp=>tZ p (tM X.K e)) hc c (λit f j=>AR elt tg iter ifs scope pos it f j) C d hi.h (λs H fp p=>⟨(hb s H fp).g.h,(hb s H fp).t.h,sC (hb s H fp).e.h p⟩) hN hy hx hf hs)
  λE σ H h=>Dz (fun σ H Q q=>pC (λa E σ H q=>px q) q) h⟩
theorem yN{elt tg iter tg2 iter2:Expr}{ifs ifs2:List Expr}{scope:dF}{pos b o:Pos}{y:Str}(i:Nat){T:List Str}{keep:List Nat}{d:List (Str×dk)}{m m2:FI}{g k:FG}{t f:FT}{e:FE}(hc:X.calm=true)(C:KQ X scope T keep)(l:jU X.env.cells scope.names []=some d)(hi:XI X tg iter m)(hb:∀s H fp,Pb (cxC X scope d T keep s H fp) X.K tg ifs tg2 iter2 ifs2 elt g t m2 k f e)(hN:X.N.Nodup)(hy:X.N[i]?=some y)(hx:vE X.env.scope y)(j:autoParam (PN (.ListComp elt [⟨tg,iter,ifs,0⟩,⟨tg2,iter2,ifs2,0⟩] scope pos) (some (.Name y o)) b.line X.env=pure true) cu0)(hf:autoParam (X.fn y=true\/X.env.scope.names.lookup y=some .local) au0)(hs:autoParam (∀x,Qc iter X.env x=pure x) du0)(hs2:∀c x,Qc iter2 c x=pure x:=by intro _ _;rfl):
  XS X (.Assign [.Name y o] (.ListComp elt [⟨tg,iter,ifs,0⟩,⟨tg2,iter2,ifs2,0⟩] scope pos) b) (dS (ez T.length keep m g t (u4 m2 k f (eg e))) (gN i)):=
 ⟨im (xC (emit:=rq (.ListComp elt [⟨tg,iter,ifs,0⟩,⟨tg2,iter2,ifs2,0⟩] scope pos) iter2) (tb:=fun p=>AY (K6 X.K m2) (HR X.K k) (AZ X.K f) (tZ p (tM X.K e))) hc j (fun it n c=>HG elt tg iter tg2 iter2 ifs ifs2 scope pos it n c) C l hi.h
   (λs H fp p=>⟨(hb s H fp).g.h,(hb s H fp).t.h,EN (X:=cxC X scope d T keep s H fp) O hc (hb s H fp).i2.h (hb s H fp).g2.h (hb s H fp).t2.h (sC (hb s H fp).e.h p) (hs2 _)⟩) hN hy hx hf hs)
  λE σ H h=>Dz (fun σ H Q q=>pC (λa E σ H q=>B7 (λ_ _ _ z=>px z) q) q) h⟩
noncomputable def nI:D->Option Key
 | .int i=>Z (.inl i)
 | .str x=>Z (.inr x)
 |_=>Y
noncomputable def dU{κ:Type}[DecidableEq κ](kvs:List (κ×D))(k:κ):Option D:=(kvs.find? λp=>decide (p.1=k)).map (·.2)
def gU{κ:Type}[DecidableEq κ](kvs:List (κ×D))(k:κ)(d:D):List (κ×D):=
 if(kvs.any λp=>decide (p.1=k))=M then kvs.map (λp=>if p.1=k then(p.1,d)else p)else kvs++[(k,d)]
section
variable{K:Fg1}{H:Hp}{mu:List dk}
theorem ku{d:D}{v:V}{k:Key}(r:eU K H mu d v)(h:nI d=Z k):v=kV k:=by
 cases r with
 |int i=>cases h;rfl
 |str x=>cases h;rfl
 |_=>cases h
end
section
variable{κ:Type} [DecidableEq κ] {K:Fg1}{H:Hp}{mu:List dk}
theorem KR.length:∀{ks:List (κ×D)} {ws:List (κ×V)},KR K H mu ks ws->ks.length=ws.length:=λh=>Paired.length h
theorem KR.look{k:κ}:∀ {ks:List (κ×D)} {ws:List (κ×V)},KR K H mu ks ws ->
  (∀d,dU ks k=Z d -> ∃v,hA ws k=Z v/\eU K H mu d v)/\(dU ks k=Y->hA ws k=Y):=by
 intro ks ws h
 induction h with
 |nil=>exact⟨λd h=>by simp[dU]at h,λ_=>rfl⟩
 | @cons p q ks ws r t ih=>
  obtain⟨b,c⟩:=p;obtain⟨j,f⟩:=q;obtain⟨e,r⟩:=r;dsimp only at e r;subst e;obtain⟨h1,h2⟩:=ih;by_cases a:b=k
  ·subst a;refine⟨λd h=>?_,λh=>?_⟩
   ·have:c=d:=by simpa[dU]using h
    subst this;exact⟨f,by simp[hA],r⟩
   ·simp[dU]at h
  ·have g:dU ((b,c)::ks) k=dU ks k:=by simp[dU,bc,a]
   have i:hA ((b,f)::ws) k=hA ws k:=by simp[hA,bc,a]
   rw[g,i];exact⟨h1,h2⟩
theorem KR.any{k:κ}:∀{ks:List (κ×D)} {ws:List (κ×V)},KR K H mu ks ws->(ks.any λp=>decide (p.1=k))=ws.any λp=>decide (p.1=k):=by
 intro ks ws h
 induction h with
 |nil=>rfl
 |cons r t ih=>rw[bd,bd,ih,r.1]
theorem KR.repl{k:κ}{d:D}{v:V}(q:eU K H mu d v):∀ {ks:List (κ×D)} {ws:List (κ×V)},KR K H mu ks ws ->
  KR K H mu (ks.map λp=>if p.1=k then(p.1,d)else p) (ws.map λp=>if p.1=k then(p.1,v)else p):=by
 intro ks ws h
 induction h with
 |nil=>exact .nil
 | @cons a b ks ws r t ih=>
  refine .cons ?_ ih;obtain⟨e,r⟩:=r;dsimp only;by_cases h:a.1=k
  ·rw[ak h,ak (e ▸ h)];exact⟨e,q⟩
  ·rw[aj h,aj (e ▸ h)];exact⟨e,r⟩
theorem KR.snoc{k:κ}{d:D}{v:V}(q:eU K H mu d v):∀{ks:List (κ×D)} {ws:List (κ×V)},KR K H mu ks ws->KR K H mu (ks++[(k,d)]) (ws++[(k,v)]):=by
 intro ks ws h
 induction h with
 |nil=>exact .cons ⟨O,q⟩ .nil
 |cons r t ih=>exact .cons r ih
theorem KR.put{k:κ}{d:D}{v:V}(q:eU K H mu d v){ks:List (κ×D)}{ws:List (κ×V)}(h:KR K H mu ks ws):KR K H mu (gU ks k d) (hW ws k v):=by
 unfold gU hW;rw[h.any];split
 ·exact h.repl q
 ·exact h.snoc q
end
def wy:G2:=λd e S=>match e with
 | .ref n=>match S[n]? with
  |some (.dct kvs)=>(nI d).map λk=>(.bl (dU kvs k).isSome,S)
  |_=>KN d e S
 |_=>KN d e S
def jk:G2:=λd e S=>match e with
 | .ref n=>match S[n]? with
  |some (.dct kvs)=>(nI d).map λk=>(.bl (!(dU kvs k).isSome),S)
  |_=>mQ d e S
 |_=>mQ d e S
def mS:G2:=λd e S=>match d with
 | .ref n=>match S[n]? with
  |some (.dct kvs)=>(nI e).bind λk=>(dU kvs k).map λx=>(x,S)
  |_=>D5 d e S
 |_=>D5 d e S
def nl:G3:=λo i v S=>match o with
 | .ref n=>match S[n]? with
  |some (.dct kvs)=>(nI i).bind λk=>if kvs.length<dy then Z (.non,S.set n (.dct (gU kvs k v)))else Y
  |_=>lj o i v S
 |_=>lj o i v S
theorem oZ{K:Fg1}{H:Hp}{mu:List dk}{S:Sto}(hs:Sim K H mu S){n:Nat}{a:dk}{kvs:List (Key×D)}{k:Key}{y:V}(hn:mu[n]? = some a)(he:S[n]? = some (.dct kvs))(hy:y=kV k):
  ∃o:Option V,qk H a y o/\(∀d,dU kvs k=Z d -> ∃v,o=Z v/\eU K H mu d v)/\(dU kvs k=Y->o=Y)/\o.isSome=(dU kvs k).isSome:=by
 obtain⟨ws,b,f⟩:=hs.dct he hn;subst hy;obtain⟨h1,h2⟩:=f.look (k:=k);refine⟨hA ws k,qk.k b,h1,h2,?_⟩;cases e:dU kvs k with
 |none=>rw[h2 e];rfl
 |some d=>obtain⟨v,c,_⟩:=h1 d e;rw[c];rfl
theorem LD(v:X.A.units+64<Ql):gE X (Qe .In) (r2 X.K (b2 wy)):=by
 intro ag s σ H x y u w Q I f l h;obtain⟨mu,S,d,e,r,j,i,b,c,a,hc⟩:=pW h;have back:KN d e S=Z (r,j)->dz (PB X.prog X.w) X.A (Qe .In u w) (EP X ag σ Q) X.xe s:=λa=>Nz v ag s σ H x y u w Q I f l ⟨mu,S,[d,e],r,j,.cons i (.cons b .nil),c,a,hc⟩;unfold wy at a;split at a
 ·rename_i n;split at a
  ·rename_i kvs t;obtain⟨k,m,a⟩:=Sb a;cases a;cases b with
   |ref q=>
    cases l;obtain⟨o,g,_,_,hi⟩:=oZ c q t (ku i m);exact NQ (by lia) I g f λs' p=>⟨.bl o.isSome,H,p,O,by rw[hi];exact hc.now (.bl _) c⟩
  ·exact back a
 ·exact back a
theorem B2(v:X.A.units+64<Ql):gE X (Qe .NotIn) (r2 X.K (b2 jk)):=by
 intro ag s σ H x y u w Q I f l h;obtain⟨mu,S,d,e,r,j,i,b,c,a,hc⟩:=pW h;have back:mQ d e S=Z (r,j)->dz (PB X.prog X.w) X.A (Qe .NotIn u w) (EP X ag σ Q) X.xe s:=λa=>Fj v ag s σ H x y u w Q I f l ⟨mu,S,[d,e],r,j,.cons i (.cons b .nil),c,a,hc⟩;unfold jk at a;split at a
 ·rename_i n;split at a
  ·rename_i kvs t;obtain⟨k,m,a⟩:=Sb a;cases a;cases b with
   |ref q=>
    cases l;obtain⟨o,g,_,_,hi⟩:=oZ c q t (ku i m);exact Gy (by lia) I g f λs' p=>⟨.bl (!o.isSome),H,p,O,by rw[hi];exact hc.now (.bl _) c⟩
  ·exact back a
 ·exact back a
theorem KS(P:X.A.units+64<Ql):Hw X (r2 X.K (b2 mS)):=by
 intro value b ag s σ H x y v u Q I t B h m;obtain⟨mu,S,d,e,r,w,A,j,p,c,hc⟩:=pW h;have back:D5 d e S=Z (r,w)->dz (PB X.prog X.w) X.A (QL value b v u) (EP X ag σ Q) X.xe s:=λc=>M5 value b ag s σ H x y v u Q I t B ⟨mu,S,[d,e],r,w,.cons A (.cons j .nil),p,c,hc⟩ m;unfold mS at c;split at c
 ·rename_i n;split at c
  ·rename_i kvs N;obtain⟨k,E,c⟩:=Sa c;obtain⟨z,L,c⟩:=Sb c;cases c;cases A with
   | @ref _ a K=>
    cases t;obtain⟨o,g,h1,_,_⟩:=oZ p K N (ku j E);obtain⟨G,ao,D⟩:=h1 _ L;subst ao;have C:=vc I g;unfold QL;refine wB1 ?_;rw[getitemInPython_of_ne C.not_modules];refine wB1 (RB C PySem.F.slot_dict_getitem.lookup ?_);have i:dz (PB X.prog X.w) X.A (subscripted b J (.ref a) u) (λr f=>dz (PB X.prog X.w) X.A (letTemporaryGo value (.ref a) r >>= λ_=>pure r) (EP X ag σ Q) X.xe f) X.xe s:=by
     rw[m];exact wpAny_operating (PD (zW (by lia) I g B λav F aq q=>(⟨G,H,aq,q,hc.now D p⟩:EP X ag σ Q av F)) (λr f l=>wB1 (wpAny_letTemporaryGo (wP1 l))) λ_ _ x=>x)
    first
     |exact wP1 (wB1 i)
     |exact wB1 i
     |exact i
  ·exact back c
 ·exact back c
theorem H0(L:X.A.units+64<Ql):wU X (rU X.K (b3 nl)):=by
 intro ag s σ H o i v m w u Q I y p g h;obtain⟨mu,S,ds,d,l,ao,b,a,hc⟩:=id h;cases ao with
 |cons t A=>cases A with
  |cons f F=>cases F with
   |cons j C=>
    cases C;rename_i r z q;dsimp only[b3]at a;have back:lj r z q S=Z (d,l)->dz (PB X.prog X.w) X.A (setItem m w u) (λ_ s'=>∃H',Inv X ag σ H' s'/\Q H') X.xe s:=λa=>Ld ag s σ H o i v m w u Q I y p g ⟨mu,S,[r,z,q],d,l,.cons t (.cons f (.cons j .nil)),b,a,hc⟩;unfold nl at a;split at a
    ·rename_i n;split at a
     ·rename_i kvs G;obtain⟨k,B,a⟩:=Sa a;split at a
      ·rename_i K;cases a;cases t with
       |ref e=>
        cases y;obtain⟨ws,c,x⟩:=b.dct G e;have E:=ku f B;subst E;refine zV (by lia) I (Ao.k c (by rw[<- x.length];exact K)) p g λs' D=>⟨_,D,?_⟩;have put:Ext mu mu H (upd H _ (.dK (hW ws k v))):=Ext.put c trivial (gM1 e);exact hc _ mu put (b.put e c trivial ⟨_,d9,(x.put j).ext put⟩)
      ·cases a
     ·exact back a
    ·exact back a
def wx:G2:=λd e S=>match e with
 | .non=>Z (.bl (rd d),S)
 | .bl b=>match d with
  | .bl c=>Z (.bl (c == b),S)
  |_=>Y
 |_=>Y
def ia:G2:=λd e S=>match e with
 | .non=>Z (.bl (!rd d),S)
 | .bl b=>match d with
  | .bl c=>Z (.bl (!(c == b)),S)
  |_=>Y
 |_=>Y
theorem Ha:gE X (Qe .Is) (r2 X.K (b2 wx)):=by
 intro ag s σ H x y u w Q I g k h;obtain⟨mu,S,d,e,r,l,i,a,j,f,hc⟩:=pW h;cases e with
 |non=>exact LC ag s σ H x y u w Q I g k ⟨mu,S,[d,.non],r,l,.cons i (.cons a .nil),j,f,hc⟩
 |bl b=>
  cases d with
  |bl c=>
   cases f;cases i;cases a;cases g;cases k;exact is_bool ⟨.bl (c == b),H,I,O,hc.now (.bl _) j⟩
  |_=>cases f
 |_=>cases f
theorem oT:gE X (Qe .IsNot) (r2 X.K (b2 ia)):=by
 intro ag s σ H x y u w Q I g k h;obtain⟨mu,S,d,e,r,l,i,a,j,f,hc⟩:=pW h;cases e with
 |non=>exact IT ag s σ H x y u w Q I g k ⟨mu,S,[d,.non],r,l,.cons i (.cons a .nil),j,f,hc⟩
 |bl b=>
  cases d with
  |bl c=>
   cases f;cases i;cases a;cases g;cases k;exact isnot_bool ⟨.bl (!(c == b)),H,I,O,hc.now (.bl _) j⟩
  |_=>cases f
 |_=>cases f
def oX:FE:=λ_ S=>Z (.ref S.length,S++[.dct []])
theorem oi{pos:Pos}:XE X (.Dict [] [] pos) oX:=⟨eM BN <| by
 rintro σ H Q ⟨r,mu,S,d,f,e,a,c,hc⟩ p b;cases c;exact hc _ _ (mu++[p]) (Ext.new_ b) (.ref (hO a.len p)) (a.new b ⟨[],d9,.nil⟩)⟩
def FK:List (FE×FE)->Ev->Sto->Option (List (D×D)×Sto)
 |[],_,S=>Z ([],S)
 |(a,b)::l,r,S=>(a r S).bind λp=>(b r p.2).bind λq=>(FK l r q.2).map λt=>((p.1,q.1)::t.1,t.2)
def x0:List (D×D)->Option (List (Key×D))
 |[]=>Z []
 |(k,d)::l=>(nI k).bind λk=>(x0 l).map λt=>(k,d)::t
def xR(l:List (FE×FE)):FE:=λr S=>(FK l r S).bind λp=>(x0 p.1).bind λkvs=>if kvs.length<=15 then Z (.ref p.2.length,p.2++[.dct (kvs.foldl (λacc kv=>gU acc kv.1 kv.2) [])])else Y
structure XP (X:Cx)(pos:Pos)(ks:List (Option Expr))(vs:List Expr)(l:List (FE×FE)):Prop where
 h:My X pos ks vs (l.map λp=>(tM X.K p.1,tM X.K p.2))
theorem Ee{pos:Pos}:XP X pos [] [] []:=⟨EU⟩
theorem lx{pos:Pos}{k v:Expr}{ks:List (Option Expr)}{vs:List Expr}{a b:FE}{l:List (FE×FE)}(hk:XE X k a)(hv:XE X v b)(t:XP X pos ks vs l):XP X pos (Z k::ks) (v::vs) ((a,b)::l):=⟨BB hk.h hv.h t.h⟩
theorem BA{K:Fg1}{σ:L2.St}:∀ {l:List (FE×FE)} {r:Ev} {mu:List dk} {H:Hp} {S S':Sto} {ps:List (D×D)} {Q:List (V×V)->Hp->Prop},fH K H mu r σ->Sim K H mu S->FK l r S=some (ps,S') ->
  (∀vs H' mu',Ext mu mu' H H'->Paired (λ(p:D×D) (q:V×V)=>eU K H' mu' p.1 q.1/\eU K H' mu' p.2 q.2) ps vs->Sim K H' mu' S'->Q vs H')->r6 (l.map λp=>(tM K p.1,tM K p.2)) σ H Q
 |[],r,mu,H,S,S',ps,Q,he,hs,c,hc=>by cases c;exact hc [] H mu (.refl _ _) .nil hs
 |(a,b)::l,r,mu,H,S,S',ps,Q,he,hs,c,hc=>by
  obtain⟨⟨d,i⟩,j,c⟩:=Sa c;obtain⟨⟨s,z⟩,x,c⟩:=Sa c;obtain⟨⟨t,B⟩,y,c⟩:=Sb c;cases c;refine⟨r,mu,S,d,i,he,hs,j,λv H1 mu1 g o w=>⟨r,mu1,i,s,z,he.ext g,w,x,λC H2 n h r2 A=>?_⟩⟩;refine BA ((he.ext g).ext h) A y λvs u e f k m=>hc _ u e ((g.trans h).trans f) (.cons ⟨(o.ext h).ext f,r2.ext f⟩ k) m
theorem Cz{K:Fg1}{H:Hp}{mu:List dk}:∀ {ps:List (D×D)} {vs:List (V×V)} {kvs:List (Key×D)},Paired (fun (p:D×D) (q:V×V)=>eU K H mu p.1 q.1/\eU K H mu p.2 q.2) ps vs->x0 ps=some kvs ->
  ∃ws:List (Key×V),vs=ws.map (λc=>(kV c.1,c.2))/\KR K H mu kvs ws:=by
 intro ps vs kvs g h
 induction g generalizing kvs with
 |nil=>cases h;exact⟨[],O,.nil⟩
 | @cons a b ps vs q t ih=>
  obtain⟨k,d⟩:=a;obtain⟨m,j⟩:=b;obtain⟨f,i,h⟩:=Sa h;obtain⟨rest,l,h⟩:=Sb h;cases h;obtain⟨ws,e,r⟩:=ih l;have:=ku q.1 i;dsimp only at this;subst this;exact⟨(f,j)::ws,by rw[mP1,<- e],.cons ⟨O,q.2⟩ r⟩
theorem Ch{K:Fg1}{H:Hp}{mu:List dk}:∀{kvs:List (Key×D)} {ws:List (Key×V)} {acc:List (Key×D)} {acw:List (Key×V)},KR K H mu kvs ws->KR K H mu acc acw->KR K H mu (kvs.foldl (λacc c=>gU acc c.1 c.2) acc) (jg acw ws):=by
 intro kvs ws acc acw f h
 induction f generalizing acc acw with
 |nil=>exact h
 | @cons a b kvs ws r t ih=>
  obtain⟨k,d⟩:=a;obtain⟨g,v⟩:=b;obtain⟨e,r⟩:=r;dsimp only at e r;subst e;show KR K H mu (kvs.foldl _ (gU acc k d)) (jg (hW acw k v) ws);exact ih (h.put r)
theorem AC{pos:Pos}{ks:List (Option Expr)}{vs:List Expr}{l:List (FE×FE)}(h:XP X pos ks vs l)(s:autoParam (ks.all (·.isSome)=M) cu0)(P:autoParam (ks.length=vs.length) cu0)(av:ks≠[]:=by(intro z;cases z))(B:autoParam (ks.length<=15) bu0):XE X (.Dict ks vs pos) (xR l):=
 ⟨eM (E6 h.h s P av B) <| by
  rintro σ H Q ⟨r,mu,S,d,T,ao,D,f,hc⟩ p g;obtain⟨⟨ps,F⟩,I,f⟩:=Sa f;obtain⟨kvs,aq,f⟩:=Sa f;dsimp only at f;split at f
  ·rename_i k;cases f;have x:Ext mu mu H (upd H p (.dK [])):=Ext.fresh g;refine BA (ao.ext x) (D.fresh g) I fun vs H1 mu1 i N j=>?_;obtain ⟨t,v⟩:=i.held (a:=p) (o:=.dK []) d9 (D.notin g);obtain ⟨ws,K,rk⟩:=Cz N aq;refine ⟨t,ws,K,by rw [<- rk.length];exact k,?_⟩;have put:Ext (p::mu1) (p::mu1) H1 (upd H1 p (.dK (jg [] ws))):=Ext.put t trivial mS1;have R:=j.aside put.inner v;have y:Ext mu (mu1++[p]) H (upd H1 p (.dK (jg [] ws))):=by
    refine⟨i.pre.trans (bv _ _),λb o e n=>?_,λb ys e=>put.tup b ys (i.tup b ys (x.tup b ys e)),λb o u e=>put.frz b o u (i.frz b o u (x.frz b o u e)),λb A=>?_⟩
    ·have E:b≠p:=et e g;rw[d6 E];exact i.old b o (by rw[d6 E];exact e) n
    ·rcases aG.mp A with z|z
     ·rcases i.new b z with q|q
      ·exact .inl q
      ·by_cases m:b=p
       ·exact .inr (by rw[m];exact g)
       ·rw[d6 m]at q;exact .inr q
     ·have:b=p:=by simpa using z
      exact .inr (by rw[this];exact g)
   have C:=Ch rk (acc:=[]) (acw:=[]) .nil;refine hc _ _ (mu1++[p]) y (.ref (hO j.len p)) ⟨by rw[lA1,lA1,j.len];rfl,?_,λn o b h1 h2=>?_⟩
   ·rw[bx];refine⟨j.nd,by simp,λb L c hc e=>?_⟩;have:c=p:=by simpa using hc
    subst this;subst e;exact v L
   ·by_cases G:n<F.length
    ·rw[gL1 G]at h1;rw[gL1 (by rw[j.len];exact G)]at h2;exact(R.ob n o b h1 h2).mor [p]
    ·have w:n=F.length:=by
      have:=(R9 h1).1;rw[lA1]at this;simp at this;lia
     subst w;rw[gR1 (nR1 _)]at h1;rw[<- j.len,gR1 (nR1 _)]at h2;simp at h1 h2;subst h1;subst h2;exact⟨_,d9,KR.mor [p] (Paired.mapP C λ_ _ z=>⟨z.1,z.2.exw put.inner⟩)⟩
  ·cases f⟩
theorem JV{K:Fg1}{H:Hp}{mu:List dk}{S:Sto}(hs:Sim K H mu S){n:Nat}{a:dk}{kvs:List (Key×D)}(hn:mu[n]?=Z a)(he:S[n]?=Z (.dct kvs)):N9 H a:=by
 obtain⟨ws,b,_⟩:=hs.dct he hn;exact .inl ⟨ws,.inl b⟩
section
variable{K:Fg1}{H H':Hp}{mu mu':List dk}{S:Sto}
end
theorem jb{X:Cx}(i j:Nat){x y:Str}{a b:Expr}{m:FA}{n l pt pos:Pos}{kt k2 pt2}(hc:X.calm=true)(hN:X.N.Nodup)(hi:X.N[i]? = some x)(s:X.N[j]? = some y)(k:i≠j)(hx:X.env.scope.names.lookup x=some .local)(hy:X.env.scope.names.lookup y=some .local)(ha:XA X [a,b] m)(hw:autoParam (P1 [.Tuple [.Name x n,.Name y l] kt pt] (.Tuple [a,b] k2 pt2) X.env=pure (some [x,y])) cu0)(hs:autoParam (P0 [.Tuple [.Name x n,.Name y l] kt pt] (.Tuple [a,b] k2 pt2) pos.line X.env=pure false) cu0):
  XS X (.Assign [.Tuple [.Name x n,.Name y l] kt pt] (.Tuple [a,b] k2 pt2) pos) (dS (eG m) (gT 2 (gCs (gN i) (gCs (gN j) gNl)))):=
 ⟨im (Ik hc hN hi s k hx hy ha.h hw hs) <| by
  rintro E σ H ⟨r,mu,S,f,A,w,o,hs,h,hc⟩;obtain⟨⟨d,z⟩,e,h⟩:=Sa h;obtain⟨⟨r2,C⟩,c,h⟩:=Sa h;cases h;obtain⟨⟨ds,B⟩,u,e⟩:=Sa e;dsimp only at e;split at e
  ·cases e;refine⟨r,mu,S,ds,_,o,hs,u,λvs H1 mu1 p g t=>?_⟩;dsimp only at c;rw[gT]at c;split at c
   ·cases g with
    |nil=>cases c
    |cons v g=>cases g with
     |nil=>cases c
     |cons q g=>cases g with
      |nil=>
       cases c;exact⟨_,_,O,hc _ H1 mu1 p (((o.ext p).set v).set q) t⟩
      |cons _ _=>cases c
   ·cases c
  ·cases e⟩
def CW:G2:=λd e S=>match d,e with
 | .int i,.int j=>Z (.int (i+j),S)
 |_,_=>Y
theorem Gc{X:Cx}:M1 X .Add (r2 X.K (b2 CW)):=by
 intro ag s σ H x y v u Q I c k h;obtain⟨mu,S,d,e,r,l,f,b,g,a,hc⟩:=pW h;unfold CW at a;split at a
 ·rename_i i j;cases a;cases f;cases b;exact Gd ag s σ H _ _ v u Q I c k ⟨i,j,O,O,hc.now (.int _) g⟩
 ·cases a
end Mi
namespace HT
open PySem PySem.Spec PyProof.Rows
variable{prog:dn}{w:dr}{A:dq}{E:di->dj->Prop}{s:dj}
theorem kF{t sl:dk}{items:Array di}{f e:di}{lo hi:Option Int}{Q:di->dj->Prop}(ht:IsTup s.heap t items)(hs:s.heap.IsSliceOf sl f e .none)(pl:QD f lo)(i:QD e hi)(hw:sIx items.size 0 lo=0/\sIx items.size items.size hi=items.size)(h:Q (.ref t) s):dz (PB prog w) A (getItem (.ref t) (.ref sl)) Q E s:=by
 obtain⟨j,b,c,g⟩:=id hs;have d:s.TypeIs (.ref sl) "slice":=⟨j,b,c⟩;unfold getItem
 try with_reducible refine PY ?_
 first|refine wB1 (wP1 ?_)|skip
 refine wB1 (wpAny_sequenceKey ht.typeIs (by decide) ?_);refine wB1 (QF (name:=QG "__getitem__") ht.typeIs QH
  (wE1 QH ht.typeIs entry_tuple_getitem ?_ (args_tuple_getitem _ _)))
 show dz _ _ (QI (.ref t) >>= _) _ _ s;refine wB1 (tupleItemsOf_ ht ?_);refine wB1 (QJ d ?_);rw[ak (by decide)];refine wB1 (iT hs pl i ?_);have a:((((sIx items.size 0 lo:Nat):Int) == 0&&(1:Int) == 1&&(sIx items.size items.size hi-sIx items.size 0 lo) == items.size)=M):=by
  rw[hw.1,hw.2];simp
 show dz _ _ (if(((sIx items.size 0 lo:Nat):Int) == 0&&(1:Int) == 1&&(sIx items.size items.size hi-sIx items.size 0 lo) == items.size)=M then _ else _) _ _ s;rw[ak a];refine wB1 ?_;unfold Builtin.Tuple.tupleIsExact;refine wB1 (QJ ht.typeIs (wP1 ?_));rw[ak (by decide)]
 first
  |exact wB1 (P2 (wP1 ⟨_,rfl,wP1 h⟩))
  |exact wB1 (P2 (wB1 (wP1 ⟨_,rfl,wP1 h⟩)))
end HT
namespace Mi
open PySem PySem.Spec PyProof.Rows L2
def Nq(K:Fg1):V->Option Int->Option Int->Hp->VK->Prop:=λx lo hi H Q=>∃a xs,x = .ref a/\kC K H a xs/\(HT.sIx xs.length 0 lo=0/\HT.sIx xs.length xs.length hi=xs.length)/\Q (.ref a) H
variable{X:Cx}
theorem Ey:D8 X (Nq X.K):=by
 intro ag s σ H x v l k lo hi n Q I e f pl j h;obtain⟨a,xs,rfl,i,g,q⟩:=h;cases e;obtain⟨c,r,d,m⟩:=I.tuple i;have b:c.toArray.size=xs.length:=by rw[sT1];exact r.length.symm
 refine⟨"tuple",_,PyProof.Rows.slot_tuple_getitem.lookup,d.typeIs,?_⟩;exact HT.kF d f pl j (by rw[b];exact g) ⟨.ref a,H,I,O,q⟩
def sj(S:Sto)(d:D)(lo hi:Option Int):Option (D×Sto):=(dZ S d).map λp=>if p.1=M then(.ref S.length,S++[.lst (Mi.ma p.2 lo hi)])else(.tup (Mi.ma p.2 lo hi),S)
def kE(m:FE)(lo hi:FO):FE:=λr S=>(m r S).bind λp=>(lo r p.2).bind λa=>(hi r a.2).bind λb=>sj b.2 p.1 a.1 b.1
theorem zX{xs:List D}{lo hi:Option Int}(h:HT.sIx xs.length 0 lo=0/\HT.sIx xs.length xs.length hi=xs.length):Mi.ma xs lo hi=xs:=by
 unfold Mi.ma;rw[h.1,h.2,List.drop_zero,Nat.sub_zero,bU]
theorem gh{e:Expr}{lo hi:Option Expr}{m:FE}{a b:FO}{pos p2:Pos}(h:XE X e m)(aq:XO X lo a)(N:XO X hi b):XE X (.Subscript e (.Slice lo hi Y p2) pos) (kE m a b):=
 ⟨eM (BK (D8.or Ey (D8.or HX Ez)) h.h aq.h N.h) <| by
  rintro σ H Q ⟨r,mu,S,d,P,o,D,f,hc⟩;obtain⟨⟨K,z⟩,C,f⟩:=Sa f;obtain⟨⟨n,B⟩,I,f⟩:=Sa f;obtain⟨⟨l,F⟩,ao,f⟩:=Sa f;refine⟨r,mu,S,K,z,o,D,C,λv H1 mu1 x E G=>?_⟩;refine⟨r,mu1,z,n,B,o.ext x,G,I,λH2 u y av=>?_⟩;refine⟨r,u,B,l,F,(o.ext x).ext y,av,ao,λR g A j=>?_⟩;obtain⟨⟨k,xs⟩,L,f⟩:=Sb f;have s:=(x.trans y).trans A;obtain⟨c,vs,rfl,q,t⟩:=dW ((E.ext y).ext A) j L;cases k with
  |true=>
   cases f;right;right;exact⟨c,vs,O,q,λp i=>hc _ _ (g++[p]) (s.trans (Ext.new_ i)) (.ref (hO j.len p)) (j.newL (yv t n l) i)⟩
  |false=>
   simp only[bF1,QA]at f;cases f;by_cases w:HT.sIx xs.length 0 n=0/\HT.sIx xs.length xs.length l=xs.length
   ·left;rw[zX w]at hc;exact⟨c,vs,O,q,by rw[<- t.length];exact w,hc _ _ g s (.tup q t) j⟩
   ·right;left;exact⟨c,vs,O,q,by rw[<- t.length];exact w,λp i=>hc _ _ g (s.trans (Ext.fresh i)) (.tup (kC.of d9) ((yv t n l).ext (Ext.fresh i))) (j.fresh i)⟩⟩
mutual
inductive eZ (h:dB):TK->di->Prop
 |non:eZ h .non .none
 |int (i t):eZ h (.int i) (.int i t)
 |tup {a o items n xs}:h.get? a=some o->o.cls = .type "tuple"->o.data = .seq items n->fm h xs items.toList->eZ h (.tup xs) (.ref a)
inductive fm (h:dB):List TK->List di->Prop
 |nil:fm h [] []
 |cons {k v ks vs}:eZ h k v->fm h ks vs->fm h (k::ks) (v::vs)
end
section
variable{prog:dn}{w:dr}{A:dq}{E:di->dj->Prop}{s:dj}
theorem ul{Q:Int->dj->Prop}(h:Q 0xFCA86420 {s with toks:=s.toks+1}):dz (PB prog w) A (pyHash .none) Q E s:=by
 have a:s.TypeIs .none "NoneType":=rfl;unfold pyHash
 first|unfold pyHashByItsType|skip
 have b:[Pp].any Value.onHeap=J:=rfl;refine wB1 ?_;rw[cRoomFor,aj (by rw[b];exact aL)];refine wP1 ?_;refine wB1 (RB a F.slot_NoneType_hash.lookup ?_);show dz _ _ (if(Z (Value.builtin "NoneType.__hash__") == Z Pp)=M then _ else _) Q E s;rw[aj (by rw[beq_builtin_none];exact aL)];refine wB1 (RB a F.slot_NoneType_hash.lookup ?_);show dz _ _ (callSpecialIfBoundUnlessNone? .none "__hash__" _ >>= _) Q E s;refine wB1 (RC a F.slot_NoneType_hash (wE1 F.slot_NoneType_hash a F.entry_NoneType_hash (show dz _ _ (retInt 0xFCA86420) _ _ s from wpAny_ret_mkInt ?_) (F.args_NoneType_hash_1 _)));exact wP1 h
def tR(prog:dn)(w:dr)(k:TK):Prop:=∀{A:dq} {E:di->dj->Prop} {s:dj} {v:di} {Q:Int->dj->Prop},A.units+k.dep<Ql->eZ s.heap k v->Q k.hash {s with toks:=s.toks+k.draws}->dz (PB prog w) A (pyHash v) Q E s
theorem fm.split{h:dB}:∀{ks:List TK} {vs:List di},fm h ks vs->ks.length=vs.length:=λa=>a.rec (motive_1:=λ_ _ _=>True) (motive_2:=λks vs _=>ks.length=vs.length) trivial (λ_ _=>trivial) (λ_ _ _ _ _=>trivial) O (λ_ _ _ ih=>congrArg (· + 1) ih)
theorem CO{xs:List TK}(all:∀k∈xs,tR prog w k):tR prog w (.tup xs):=by
 intro A E s v Q y u h;cases u with
 | @tup a o p n _ q hc t hi=>
  have i:s.TypeIs (.ref a) "tuple":=⟨o,q,hc⟩;rw[TK.dep]at y;unfold pyHash
  first|unfold pyHashByItsType|skip
  first|refine wB1 (wpAny_cRoomFor_or (.inr (by lia)) ?_)|skip
  refine wB1 (RB i F.slot_tuple_hash.lookup ?_);show dz _ _ (if(Z (Value.builtin "tuple.__hash__") == Z Pp)=M then _ else _) Q E s;rw[aj (by rw[beq_builtin_none];exact aL)];refine wB1 (RB i F.slot_tuple_hash.lookup ?_);show dz _ _ (callSpecialIfBoundUnlessNone? (.ref a) "__hash__" _ >>= _) Q E s;refine wB1 (RC i F.slot_tuple_hash (wE1 F.slot_tuple_hash i F.entry_tuple_hash ?_ (F.args_tuple_hash_1 _)));show dz _ _ (QI (.ref a) >>= _) _ _ s;refine wB1 (wpAny_tupleItemsOf q t ?_);refine wB1 ?_;rw[<- bV];refine Rx _
   (λrest (b:Array Int) s'=>∃c d,xs=c++d/\fm s.heap d rest/\b.toList=TK.hashes c/\s'={s with toks:=s.toks+TK.drawsAll c})
   _ ?_ ?_ _ _ ⟨[],xs,O,hi,O,O⟩
  ·rintro x rest b s' ⟨c,d,e,m,j,rfl⟩;cases m with
   | @cons k _ g _ h1 f=>
    have r:k∈xs:=by rw[e];simp
    refine wB1 (all k r (show A.in1.units+k.dep<Ql by have:=TK.dep_mem r;rw[show A.in1.units=A.units+1 from rfl];lia) h1 ?_)
    first
     |exact wP1 ⟨c++[k],g,by simp[e],f,by rw[TK.hashes_app];simp[j,TK.hashes],by rw[TK.draws_app];simp[TK.drawsAll,bm]⟩
     |exact wB1 (wP1 (wP1 ⟨c++[k],g,by simp[e],f,by rw[TK.hashes_app];simp[j,TK.hashes],by rw[TK.draws_app];simp[TK.drawsAll,bm]⟩))
  ·rintro b s' ⟨c,d,e,m,j,rfl⟩;cases m;rw[aN]at e;subst e;show dz _ _ (retInt (QY b.toList)) _ _ _;rw[j];refine wpAny_ret_mkInt ?_;show dz _ _ (if(decide (-(2:Int)^63<=QY (TK.hashes xs))&&decide (QY (TK.hashes xs)<2^63))=M then _ else _) Q E _;rw[TK.hash,TK.draws]at h;unfold reduceHash at h;by_cases l:(decide (-(2:Int)^63<=QY (TK.hashes xs))&&decide (QY (TK.hashes xs)<2^63))=M
   ·rw[ak l];rw[ak l]at h;exact wP1 (by simpa[bm]using h)
   ·rw[aj l];rw[aj l]at h;exact wB1 (P2 (wP1 (by simpa[bm]using h)))
mutual
theorem s7:∀k:TK,tR prog w k
 | .non=>λb a h=>by cases a;exact ul h
 | .int i=>λb a h=>by cases a;exact wpAny_pyHash_int h
 | .tup xs=>CO (uU xs)
theorem uU:∀ks:List TK,∀k∈ks,tR prog w k
 |[],k,h=>by simp at h
 |x::xs,k,h=>by
  by_cases e:k=x
  ·rw[e];exact s7 x
  ·exact uU xs k ((aF.mp h).resolve_left e)
end
end
theorem eZ.inj{h:dB}:∀ {k k':TK} {v:di},eZ h k v->eZ h k' v->k=k':=fun j=>j.rec (motive_1:=fun k v _=>∀ k',eZ h k' v->k=k') (motive_2:=fun k v _=>∀ k',fm h k' v->k=k')
  (λk' g=>by cases g;rfl) (λ_ _ k' g=>by cases g;rfl)
  (λe n f m ih k' g=>by
   cases g with
   |tup c l d i=>
    rw[e]at c;cases c;rw[f]at d;cases d;rw[ih _ i])
  (λk' g=>by cases g;rfl) (λ_ _ a b k' g=>by cases g with|cons r' t'=>rw[a _ r',b _ t']) _
theorem eZ.keeps{h h':dB}{d:dk}{o:Obj}{es ep}(ho:h.get? d=some o)(hd:o.data = .dict es ep)(hs:Pz d h h'):∀ {k:TK} {v:di},eZ h k v->eZ h' k v:=fun g=>g.rec (motive_1:=fun k v _=>eZ h' k v) (motive_2:=fun k v _=>fm h' k v) .non .int
  (λ{a} _ _ _ _ c f e _ ih=>.tup ((hs.2 a (λz=>by subst z;rw[c]at ho;cases ho;rw[e]at hd;cases hd)).trans c) f e ih) .nil (λ_ _ a b=>.cons a b)
theorem fm.at{h:dB}:∀{ks:List TK} {vs:List di} (j:Nat) (h1:j<ks.length) (h2:j<vs.length),fm h ks vs->eZ h ks[j] vs[j]
 |_::_,_::_,0,_,_,.cons r _=>r
 |_::ks,_::vs,j+1,h1,h2,.cons _ t=>fm.at j (by simpa using h1) (by simpa using h2) t
theorem DB{xs ys:List TK}(b:xs.length=ys.length):((af (min xs.length ys.length)).all λj=>decide (xs[j]?=ys[j]?))=decide (xs=ys):=by
 by_cases h:xs=ys
 ·subst h;simp
 ·rw[ai h,List.all_eq_false];have:∃j,xs[j]? ≠ ys[j]?:=RD λz=>h (bW λj=>RD λq=>z ⟨j,q⟩);obtain⟨j,a⟩:=this;refine⟨j,?_,by simpa using a⟩;rw[aC,b,Nat.min_self];apply RD;intro c;exact a (by rw[bX (by lia),bX (by lia)])
theorem Hm:∀(n:Nat) {k k':TK} {A:dq} {s:dj} {u v:di},k.dep<=n->A.units+n<Ql->eZ s.heap k u->eZ s.heap k' v->QO A s u v (decide (k=k')):=by
 intro n
 induction n with
 |zero=>
  intro k k' A s u v E R r g;cases r with
  |tup _ _ _ _=>simp[TK.dep]at E
  |non=>
   cases g with
   |non=>simpa using SeqAt.EqAt.same (A:=A) (s:=s) Pp
   |int i t=>simpa[vH]using lp (A:=A) (s:=s) (y:=.non) (x:=.int i) O ⟨t,O⟩ O O
   |tup e c d t=>simpa using(fw (A:=A) (s:=s) (b:=J) (v:=.non) (u:=.none) ⟨_,e,c,_,d⟩ O O (by lia)).2.1
  |int i t=>
   cases g with
   |non=>simpa[vH]using lp (A:=A) (s:=s) (y:=.int i) (x:=.non) ⟨t,O⟩ O O O
   |int j D=>
    have:=lp (A:=A) (s:=s) (y:=.int i) (x:=.int j) ⟨t,O⟩ ⟨D,O⟩ O O;have e:vH (.int i) (.int j)=decide (TK.int i=TK.int j):=by
     by_cases h:i=j
     ·subst h;simp[vH]
     ·rw[ai (λz=>h (by injection z))];simp[vH,h]
    rw[e]at this;exact this
   |tup e c d q=>simpa using(fw (A:=A) (s:=s) (b:=J) (v:=.int i) (u:=.int i t) ⟨_,e,c,_,d⟩ ⟨t,O⟩ O (by lia)).2.1
 |succ n ih=>
  intro k k' A s u v E R r g;cases r with
  |non=>
   cases g with
   |non=>simpa using SeqAt.EqAt.same (A:=A) (s:=s) Pp
   |int i t=>simpa[vH]using lp (A:=A) (s:=s) (y:=.non) (x:=.int i) O ⟨t,O⟩ O O
   |tup e c d t=>simpa using(fw (A:=A) (s:=s) (b:=J) (v:=.non) (u:=.none) ⟨_,e,c,_,d⟩ O O (by lia)).2.1
  |int i t=>
   cases g with
   |non=>simpa[vH]using lp (A:=A) (s:=s) (y:=.int i) (x:=.non) ⟨t,O⟩ O O O
   |int j D=>
    have:=lp (A:=A) (s:=s) (y:=.int i) (x:=.int j) ⟨t,O⟩ ⟨D,O⟩ O O;have e:vH (.int i) (.int j)=decide (TK.int i=TK.int j):=by
     by_cases h:i=j
     ·subst h;simp[vH]
     ·rw[ai (λz=>h (by injection z))];simp[vH,h]
    rw[e]at this;exact this
   |tup e c d q=>simpa using(fw (A:=A) (s:=s) (b:=J) (v:=.int i) (u:=.int i t) ⟨_,e,c,_,d⟩ ⟨t,O⟩ O (by lia)).2.1
  | @tup a o f m xs l p w C=>
   cases g with
   |non=>simpa using(fw (A:=A) (s:=s) (b:=J) (v:=.non) (u:=.none) ⟨_,l,p,_,w⟩ O O (by lia)).1
   |int i t=>simpa using(fw (A:=A) (s:=s) (b:=J) (v:=.int i) (u:=.int i t) ⟨_,l,p,_,w⟩ ⟨t,O⟩ O (by lia)).1
   | @tup a2 S items2 m2 ys P av aq F=>
    by_cases N:a=a2
    ·subst N;have:TK.tup xs=TK.tup ys:=eZ.inj (.tup l p w C) (.tup P av aq F);rw[ah this];exact .same _
    ·refine .of_refs N ?_;have ao:=C.split;have L:=F.split;have I:=SeqAt.RcAt.tuples (A:=A) (s:=s) (e:=fun j=>decide (xs[j]? = ys[j]?)) ⟨o,l,p,m,w⟩ ⟨S,P,av,m2,aq⟩ (by lia) (fun j h1 h2=>by
      have G:j<xs.length:=by rw[ao];simpa using h1
      have K:j<ys.length:=by rw[L];simpa using h2
      rw[TK.dep]at E;have V:=TK.dep_mem (bQ G);have q:=ih (k:=xs[j]) (k':=ys[j]) (A:=A.in1) (s:=s) (by lia) (by show A.units+1+n<Ql;lia) (C.at j G (by simpa using h1)) (F.at j K (by simpa using h2));have e:decide (xs[j]?=ys[j]?)=decide (xs[j]=ys[j]):=by
       rw[gG1 G,gG1 K];simp
      rw[e];simpa using q)
     have Q:f.size=xs.length:=by rw[ao];simp
     have T:items2.size=ys.length:=by rw[L];simp
     rw[Q,T]at I;have H:((af (min xs.length ys.length)).all (λj=>decide (xs[j]?=ys[j]?))&&xs.length == ys.length)=decide (TK.tup xs=TK.tup ys):=by
      by_cases B:xs.length=ys.length
      ·rw[DB B,B,Ru,bJ];by_cases h:xs=ys
       ·subst h;simp
       ·rw[ai h,ai (λz=>h (by injection z))]
      ·have U:(xs.length == ys.length)=J:=by simpa using B
       rw[U,Bool.and_false,ai (λz=>B (by injection z with z;rw[z]))]
     rw[H]at I;exact I
theorem oG{prog:dn}{w:dr}:∀(n:Nat) {k:TK} {A:dq} {E:di->dj->Prop} {s:dj} {v:di} {Q:Bool->dj->Prop},k.dep<=n->eZ s.heap k v->Q M s->dz (PB prog w) A (eqIsQuiet n v) Q E s:=by
 intro n
 induction n with
 |zero=>
  intro k A E s v Q c r h;cases r with
  |non=>rw[RE 0 O];exact wP1 h
  |int i t=>rw[RE 0 O];exact wP1 h
  |tup _ _ _ _=>simp[TK.dep]at c
 |succ n ih=>
  intro k A E s v Q c r h;cases r with
  |non=>rw[RE _ O];exact wP1 h
  |int i t=>rw[RE _ O];exact wP1 h
  | @tup a o b m xs f u j q=>
   have g:s.TypeIs (.ref a) "tuple":=⟨o,f,u⟩;rw[TK.dep]at c;unfold eqIsQuiet;refine wB1 (RB g F.slot_tuple_eq.lookup ?_);show dz _ _ (isInstance (.ref a) (.type "tuple") >>= _) _ _ s;refine wB1 (Rn g isSubtype_tuple_tuple ?_);simp only[bY,bF1,QA];refine wB1 (Re f j ?_);refine wB1 ?_;show dz _ _ (forIn b _ _) _ _ s;rw[<- bV];refine Rx _ (λrest r s'=>r.1=Y/\s'=s /\ ∃ks,fm s.heap ks rest/\TK.depAll ks<=n) _ ?_ ?_ _ _ ⟨O,O,xs,q,by lia⟩
   ·rintro v rest r s' ⟨e,rfl,ks,y,x⟩;cases y with
    | @cons z _ d _ p l=>
     rw[TK.depAll]at x;refine wB1 (ih (k:=z) (by lia) p ?_);simp only[bY,bF1,QA];exact wP1 ⟨O,O,d,l,by lia⟩
   ·rintro⟨B,r2⟩ s' ⟨e,rfl,_⟩;simp only at e;subst e;exact wP1 h
def je(prog:dn)(w:dr):HeapKind prog w TK where
 is:=λh k a=>eZ h k (.ref a)/\k.dep<=8
 hash:=TK.hash
 draws:=TK.draws
 room:=λA=>A.units+8<Ql
 inj:=λhx hy=>hx.1.inj hy.1
 keeps:=λx ho hd hs=>⟨x.1.keeps ho hd hs,x.2⟩
 pyHash:=λhu hk h=>s7 _ (by have:=hk.2;omega) hk.1 h
 eqBool:=λhu hx hy h=>Hm 8 hx.2 hu hx.1 hy.1 _ _ _ _ h
 quiet:=λhk h=>oG 8 hk.2 hk.1 h
noncomputable def O3:G2:=λo v S=>match o,v with
 | .ref n,.ref b=>match S[n]?,S[b]? with
  |some (.lst xs),Z (.lst ys)=>if xs.length+ys.length<=dy then Z (.non,S.set n (.lst (xs++ys)))else Y
  |_,_=>Y
 |_,_=>Y
noncomputable def LV(n:Nat)(k:Int):Nat:=if k<0 then(k+(n:Int)).toNat else min k.toNat n
def O2:G3:=λo i v S=>match o,i with
 | .ref n,.int k=>match S[n]? with
  |some (.lst xs)=>if-(2^63)<=k/\k<2^63/\xs.length<dy then Z (.non,S.set n (.lst (xs.take (LV xs.length k)++v::xs.drop (LV xs.length k))))else Y
  |_=>Y
 |_,_=>Y
def qf(f:D->D->Option Bool)(x:D):List D->Option (List Bool)
 |[]=>Z []
 |y::ys=>(f y x).bind λb=>(qf f x ys).map (b :: ·)
def CU:G2:=λo x S=>match o with
 | .ref n=>match S[n]? with
  |some (.lst ys)=>(qf (i8 S d8) x ys).bind λbs=>if bs.length<2^62 then(bs.findIdx? id).map λj=>(.int (j:Nat),S)else Y
  |_=>Y
 |_=>Y
theorem tu(f:D->D->Option Bool)(x:D):∀{ys:List D} {bs:List Bool},qf f x ys=Z bs->bs.length=ys.length /\ ∀(j:Nat) (y:D) (k:Bool),ys[j]?=Z y->bs[j]?=Z k->f y x=Z k
 |[],bs,h=>by cases h;exact⟨O,λj y k h=>by simp at h⟩
 |y::ys,bs,h=>by
  rw[qf]at h;obtain⟨b,eb,h⟩:=Sa h;obtain⟨bt,d,h⟩:=Sb h;obtain⟨c,a1⟩:=tu f x d;subst h;refine⟨by simp[c],λj=>?_⟩;cases j with
  |zero=>intro a k h1 h2;simp at h1 h2;subst h1;subst h2;exact eb
  |succ j=>intro a k h1 h2;exact a1 j a k (by simpa using h1) (by simpa using h2)
section
open PySem.MeetsSeq PySem.MeetsSeq2 PySem.MeetsSeq3 PySem.SeqRoads2
theorem uT{l:dk}{its:Array di}{n:Nat}{x:di}{e:Nat->Bool}{top:Int}{j:Nat}(f:j<its.size)(ht:(j:Int)<top)(c:e j=true):∀ (k i:Nat),i+k=j->(∀ m,i<=m->m<j->e m=false) ->
  Meets (Builtin.«list.index.loop» ⟨[.ref l,x,P8 i,P8 top],[]⟩)
   (λA R s=>s.heap.get? l=Z {cls:=.type "list",data:=.seq its n}/\(∀m (h:m<its.size),QO A.in1 s its[m] x (e m))/\R (.ok (.ret (.int j s.toks))) {s with toks:=s.toks+1})
 |0,i,hk,hno,prog,w,A,R,⟨hp,g,d,tk,os⟩,⟨hl,he,h⟩=>by
  have o:i=j:=by lia
  subst o
  wp_walk using RF hl
  rw[show(if(i:Int)<top then its[((i:Nat):Int).toNat]? else Y)=Z its[i] by simp[ht,f]];refine wB1 (he i f prog w _ _ ?_);rw[c]
  wp_walk
  exact h
 |k+1,i,hk,hno,prog,w,A,R,⟨hp,g,d,tk,os⟩,⟨hl,he,h⟩=>by
  have h1:i<its.size:=by lia
  have h2:(i:Int)<top:=by lia
  wp_walk using RF hl
  rw[show(if(i:Int)<top then its[((i:Nat):Int).toNat]? else Y)=Z its[i] by simp[h1,h2]];refine wB1 (he i h1 prog w _ _ ?_);rw[hno i (nR1 i) (by lia)]
  wp_walk
  rw[show((i:Int)+1)=((i+1:Nat):Int) by push_cast;rfl];have z:=uT (l:=l) (n:=n) (x:=x) f ht c k (i+1) (by lia) (λm a b=>hno m (by lia) b) prog w A R _ ⟨hl,he,h⟩;exact⟨Ry RG _,wD1 entry_index_loop (by rw[Rz RG _];exact z)⟩
theorem CM{l:dk}{its:Array di}{n:Nat}{x:di}{e:Nat->Bool}{j:Nat}(o:j<its.size)(ht:(j:Int)<2^63-1)(a:e j=true)(c:∀ m,m<j->e m=false):
  Meets (Builtin.«list.index» ⟨[.ref l,x],[]⟩)
   (λA R s=>s.heap.get? l=Z {cls:=.type "list",data:=.seq its n}/\(∀m (h:m<its.size),QO A.in1 s its[m] x (e m))/\R (.ok (.ret (.int j s.toks))) {s with toks:=s.toks+1}):=by
 intro prog w A R ⟨q,g,d,tk,p⟩ ⟨f,k,h⟩
 wp_walk using RF f
 rw[show((λi:Int=>if i<0 then max 0 (i+(its.size:Int))else i) ((Y:Option Int).getD 0))=((0:Nat):Int) by simp,show((λi:Int=>if i<0 then max 0 (i+(its.size:Int))else i) ((Y:Option Int).getD (2^63-1)))=2^63-1 by simp];have z:=uT (l:=l) (n:=n) (x:=x) o ht a j 0 (by lia) (λm _ b=>c m b) prog w A R _ ⟨f,k,h⟩;exact⟨Ry RG _,wD1 entry_index_loop (by rw[Rz RG _];exact z)⟩
end
theorem KX(wq:X.A.units+64<Ql):DY X "list.index" (λx xs H Q=>rN X.K (b2 CU) (x::xs) H Q):=by
 intro ag s σ H x xs v U Q I w C h;obtain⟨x',y,mu,S,d,e,r',au,D,G,r2,f,a,hc⟩:=zf h;cases D;unfold CU at a;split at a
 ·rename_i n;split at a
  ·rename_i ys P;obtain⟨bs,eb,a⟩:=Sa a;split at a
   ·rename_i p;obtain⟨j,q,a⟩:=Sb a;cases a;cases G with
    |ref ao=>
     obtain⟨vs,L,t⟩:=f.lst P ao;cases w;obtain⟨u,rfl,N⟩:=C.one;obtain⟨z,b,R,c,hl,e⟩:=I.lstM L;obtain⟨V,l⟩:=tu _ _ eb;have l2:=t.length;have W:=c.length;rw[bZ]at q;obtain⟨E,g,k⟩:=q;have o:∀m (a:m<b.toArray.size),QO X.A.in1 s b.toArray[m] u (bs[m]?.getD J):=λm a=>by
      have m1:m<b.length:=by simpa using a
      obtain⟨K,aq,T⟩:=t.getV (i:=m) (v:=vs[m]'(by lia)) (gG1 (by lia));obtain⟨w',r,B⟩:=c.get (i:=m) (x:=vs[m]'(by lia)) (gG1 (by lia));have m2:m<bs.length:=by lia
      have av:b.toArray[m]=w':=by
       have:=gG1 m1;rw[this]at r;simpa using r
      rw[av,gG1 m2];exact(lm I f d8 (A:=X.A.in1) (by show X.A.units+1+60<Ql;lia) T r2 B N (l m K bs[m] aq (gG1 m2))).1
     refine call_meets F.slot_list_index ⟨_,e,O⟩ F.entry_list_index (F.args_list_index_2 _ _)
      (CM (n:=R) (e:=λm=>bs[m]?.getD J) (j:=j) (by simp;lia) (by lia) ?_ ?_) ⟨e,o,?_⟩
     ·simp only[gG1 E,b0];simpa using g
     ·intro m a;have m2:m<bs.length:=by lia
      have:=k m a;simp only[gG1 m2,b0];simpa using this
     ·exact⟨.int j,H,I.tok _,⟨_,O⟩,hc.now (.int _) f⟩
   ·cases a
  ·cases a
 ·cases a
mutual
def kD:D->Option TK
 | .non=>Z .non
 | .int i=>Z (.int i)
 | .tup xs=>(zC xs).map .tup
 |_=>Y
def zC:List D->Option (List TK)
 |[]=>Z []
 |x::xs=>(kD x).bind λk=>(zC xs).map (k :: ·)
end
def keyT:D->Option TK
 | .tup xs=>(zC xs).bind λks=>if(TK.tup ks).dep<=8 then Z (.tup ks)else Y
 |_=>Y
mutual
theorem LU:∀{d:D} {k:TK},kD d=Z k->tkD k=d
 | .non,k,h=>by cases h;rfl
 | .int i,k,h=>by cases h;rfl
 | .tup xs,k,h=>by
  rw[kD]at h;obtain⟨ks,e,h⟩:=Sb h;subst h;rw[tkD,wo e]
 | .bl _,k,h=>by simp[kD]at h
 | .str _,k,h=>by simp[kD]at h
 | .rol _,k,h=>by simp[kD]at h
 | .fn _,k,h=>by simp[kD]at h
 | .ref _,k,h=>by simp[kD]at h
theorem wo:∀{ds:List D} {ks:List TK},zC ds=Z ks->jz ks=ds
 |[],ks,h=>by cases h;rfl
 |x::xs,ks,h=>by
  rw[zC]at h;obtain⟨k,a,h⟩:=Sa h;obtain⟨t,b,h⟩:=Sb h;subst h;rw[jz,LU a,wo b]
end
theorem lY{d:D}{k:TK}(h:keyT d=Z k):tkD k=d/\k.dep<=8 /\ ∃xs,k = .tup xs:=by
 cases d with
 |tup xs=>
  rw[keyT]at h;obtain⟨ks,e,h⟩:=Sa h;split at h
  ·rename_i a;cases h;exact⟨by rw[tkD,wo e],a,ks,O⟩
  ·cases h
 |_=>cases h
section
variable{ag:List (dk×Obj)}{σ:L2.St}{H:Hp}{s:dj}{mu:List dk}
mutual
theorem xi(I:Inv X ag σ H s):∀(k:TK) {v:V} {u:di},eU X.K H mu (tkD k) v->d4 v u->eZ s.heap k u
 | .non,v,u,r,q=>by
  rw[tkD]at r;cases r;cases q;exact .non
 | .int i,v,u,r,q=>by
  rw[tkD]at r;cases r;obtain⟨t,rfl⟩:=q;exact .int i t
 | .tup xs,v,u,r,q=>by
  rw[tkD]at r;cases r with
  |tup h t=>
   cases q;obtain⟨c,b,⟨o,a,d,n,e⟩,_⟩:=I.tuple h;exact .tup a d e (by simpa using vT I xs t b)
theorem vT(I:Inv X ag σ H s):∀(ks:List TK) {vs:List V} {a:List di},dX X.K H mu (jz ks) vs->ee vs a->fm s.heap ks a
 |[],vs,a,r,q=>by rw[jz]at r;cases r;cases q;exact .nil
 |k::ks,vs,a,r,q=>by
  rw[jz]at r;cases r with
  |cons r t=>cases q with
   |cons q p=>exact .cons (xi I k r q) (vT I ks t p)
end
theorem v9{α β γ δ:Type}{F:α->β->Prop}{G:γ->δ->Prop}{f:α->γ}{g:β->δ}:∀{l₁:List α} {l₂:List β},Paired F l₁ l₂->(∀a b,F a b->G (f a) (g b))->Paired G (l₁.map f) (l₂.map g):=by
 intro a b h g
 induction h with
 |nil=>exact .nil
 |cons r t ih=>exact .cons (g _ _ r) ih
theorem wa{α β:Type}{F:α->β->Prop}:∀{l₁ e:List α} {l₂ f:List β},Paired F l₁ l₂->Paired F e f->Paired F (l₁++e) (l₂++f):=by
 intro a b c d h g
 induction h with
 |nil=>exact g
 |cons r t ih=>exact .cons r ih
theorem KT.length{K:Fg1}:∀{ks:List (TK×D)} {ws:List (TK×dk×di)},KT K H mu ks ws->ks.length=ws.length:=λh=>Paired.length h
theorem KT.mem{K:Fg1}:∀{ks:List (TK×D)} {ws:List (TK×dk×di)},KT K H mu ks ws -> ∀x∈ws,x.1.dep<=8/\eU K H mu (tkD x.1) (.ref x.2.1):=by
 intro ks ws a x h
 induction a with
 |nil=>cases h
 |cons r t ih=>
  rcases aF.mp h with e|e
  ·subst e;rw[<- r.1];exact⟨r.2.1,r.2.2.1⟩
  ·exact ih e
theorem KT.look{K:Fg1}{k:TK}:∀ {ks:List (TK×D)} {ws:List (TK×dk×di)},KT K H mu ks ws ->
  (∀d,dU ks k=Z d -> ∃p v,QW ws k=Z p/\d4 v p.2/\eU K H mu d v)/\(QW ws k).isSome=(dU ks k).isSome:=by
 intro ks ws h
 induction h with
 |nil=>exact⟨λd h=>by simp[dU]at h,O⟩
 | @cons p i ks ws r t ih=>
  obtain⟨b,c⟩:=p;obtain⟨l,a2,f⟩:=i;obtain⟨z,d,q,v,e,r⟩:=r;dsimp only at z q e r;subst z;obtain⟨h1,h2⟩:=ih;by_cases a:b=k
  ·subst a;refine⟨λd h=>?_,by simp[QW,dU]⟩;have:c=d:=by simpa[dU]using h
   subst this;exact⟨(a2,f),v,by simp[QW],e,r⟩
  ·have g:dU ((b,c)::ks) k=dU ks k:=by simp[dU,bc,a]
   have j:QW ((b,a2,f)::ws) k=QW ws k:=by simp[QW,bc,a]
   rw[g,j];exact⟨h1,h2⟩
theorem KT.put{K:Fg1}{k:TK}{d:D}{v:V}{a:dk}{u:di}(hk:k.dep<=8)(l:eU K H mu (tkD k) (.ref a))(f:d4 v u)(q:eU K H mu d v){ks:List (TK×D)}{ws:List (TK×dk×di)}(h:KT K H mu ks ws):KT K H mu (gU ks k d) (storedH ws k a u):=by
 unfold gU storedH;have e:(ks.any λp=>decide (p.1=k))=(QW ws k).isSome:=by
  rw[h.look.2];unfold dU;rw[bg,bO,List.find?_isSome,bP]
 rw[e];split
 ·clear e;refine v9 h λp w ⟨z,g,i,m,c,j⟩=>?_;unfold putAt;by_cases b:p.1=k
  ·rw[ak b,ak (by rw[<- z];exact b)];exact⟨z,g,i,v,f,q⟩
  ·rw[aj b,aj (by rw[<- z];exact b)];exact⟨z,g,i,m,c,j⟩
 ·exact wa h (.cons ⟨O,hk,l,v,f,q⟩ .nil)
theorem vd(I:Inv X ag σ H s){a:dk}{xs:List (TK×dk×di)}{kvs:List (TK×D)}(e:H a=Z (.ext (j7 a xs)))(h:KT X.K H mu kvs xs):(a == Pt)=J/\s.heap.DictOfH (je X.prog X.w) a xs:=by
 obtain⟨⟨h1,h2,o,es,ep,f,c,g,d⟩,_⟩:=(show eP X.prog X.w H s.heap a (.ext (j7 a xs))from I.hok a _ e);exact⟨h1,o,es,ep,f,c,g,d,λx b=>⟨xi I _ (h.mem x b).2 O,(h.mem x b).1⟩,h2⟩
theorem yp{h:dB}{a:dk}{xs:List (TK×dk×di)}(hd:(a == Pt)=J)(hm:h.DictOfH (je X.prog X.w) a xs):eP X.prog X.w H h a (.ext (j7 a xs)):=by
 obtain⟨o,es,ep,d,e,k,j,m,l⟩:=hm;refine⟨⟨hd,l,o,es,ep,d,e,k,j⟩,⟨o,d⟩,λn p ⟨a1,a2,o',c,b,b3,g,f,i⟩ st=>⟨a1,a2,o',c,b,st _ b3,g,f,i⟩⟩
end
def jl:G2:=λd e S=>match e with
 | .ref n=>match S[n]? with
  |some (.dcT kvs)=>(keyT d).map λk=>(.bl (dU kvs k).isSome,S)
  |_=>wy d e S
 |_=>wy d e S
def fW:G2:=λd e S=>match e with
 | .ref n=>match S[n]? with
  |some (.dcT kvs)=>(keyT d).map λk=>(.bl (!(dU kvs k).isSome),S)
  |_=>jk d e S
 |_=>jk d e S
def dL:G2:=λd e S=>match d with
 | .ref n=>match S[n]? with
  |some (.dcT kvs)=>(keyT e).bind λk=>(dU kvs k).map λx=>(x,S)
  |some (.dcF kvs)=>(keyT e).bind λk=>(dU kvs k).map λx=>(x,S)
  |_=>mS d e S
 |_=>mS d e S
def ju:G3:=λo i v S=>match o with
 | .ref n=>match S[n]? with
  |some (.dcT kvs)=>(keyT i).bind λk=>if kvs.length<dy then Z (.non,S.set n (.dcT (gU kvs k v)))else Y
  |some (.dct [])=>match keyT i with
   |some k=>Z (.non,S.set n (.dcT [(k,v)]))
   |none=>nl o i v S
  |_=>nl o i v S
 |_=>nl o i v S
theorem uM{κ:Type}[DecidableEq κ](kvs:List (κ×D))(k:κ)(d:D):(gU kvs k d).length<=kvs.length+1:=by
 unfold gU;split
 ·rw[lM1];lia
 ·simp
theorem u9{h:dB}{a:dk}(dd:h.DictOf (e9 X.prog X.w) a []):h.DictOfH (je X.prog X.w) a []:=by
 obtain⟨o,es,ep,h1,h2,c,_,b,_⟩:=dd;have e:es.toList=[]:=by
  generalize es.toList=l at b;cases b;rfl
 exact⟨o,es,ep,h1,h2,c,e,(λx d=>by simp at d),bp⟩
theorem kg{A:dq}(a:A.units+64<Ql):(je X.prog X.w).room A.in1:=by
 show A.units+1+8<Ql;lia
theorem mL{ag:List (dk×Obj)}{σ:L2.St}{H:Hp}{s:dj}{mu:List dk}(I:Inv X ag σ H s){d:D}{v:V}{u:di}{k:TK}(r:eU X.K H mu d v)(q:d4 v u)(h:keyT d=some k):
  ∃a,u = .ref a/\v = .ref a/\eU X.K H mu (tkD k) (.ref a)/\k.dep<=8/\(je X.prog X.w).is s.heap k a:=by
 obtain⟨e,b,xs,ex⟩:=lY h;subst e;have is:=xi I k r q;subst ex;cases id is with
 | @tup a _ _ _ _ _ _ _ _=>
  rw[tkD]at r;cases r with
  |tup h1 h2=>
   cases q;exact⟨a,O,O,by rw[tkD];exact .tup h1 h2,b,is,b⟩
theorem qL(m:X.A.units+64<Ql):gE X (Qe .In) (r2 X.K (b2 jl)):=by
 intro ag s σ H x y u w Q I g o h;obtain⟨mu,S,d,e,r,l,i,c,f,b,hc⟩:=pW h;have back:wy d e S=Z (r,l)->dz (PB X.prog X.w) X.A (Qe .In u w) (EP X ag σ Q) X.xe s:=λb=>LD m ag s σ H x y u w Q I g o ⟨mu,S,[d,e],r,l,.cons i (.cons c .nil),f,b,hc⟩;unfold jl at b;split at b
 ·rename_i n;split at b
  ·rename_i kvs A;obtain⟨k,q,b⟩:=Sb b;cases b;cases c with
   |ref v=>
    cases o;obtain⟨xs,z,j,_⟩:=f.dcT A v;obtain⟨p,t⟩:=vd I z j;obtain⟨a,rfl,rfl,_,_,hi⟩:=mL I i g q;refine wpAny_in_heap (kg m) hi p t ?_;exact⟨.bl (QW xs k).isSome,H,I.tok _,O,by rw[j.look.2];exact hc.now (.bl _) f⟩
  ·exact back b
 ·exact back b
theorem oS(m:X.A.units+64<Ql):gE X (Qe .NotIn) (r2 X.K (b2 fW)):=by
 intro ag s σ H x y u w Q I g o h;obtain⟨mu,S,d,e,r,l,i,c,f,b,hc⟩:=pW h;have back:jk d e S=Z (r,l)->dz (PB X.prog X.w) X.A (Qe .NotIn u w) (EP X ag σ Q) X.xe s:=λb=>B2 m ag s σ H x y u w Q I g o ⟨mu,S,[d,e],r,l,.cons i (.cons c .nil),f,b,hc⟩;unfold fW at b;split at b
 ·rename_i n;split at b
  ·rename_i kvs A;obtain⟨k,q,b⟩:=Sb b;cases b;cases c with
   |ref v=>
    cases o;obtain⟨xs,z,j,_⟩:=f.dcT A v;obtain⟨p,t⟩:=vd I z j;obtain⟨a,rfl,rfl,_,_,hi⟩:=mL I i g q;refine wpAny_notIn_heap (kg m) hi p t ?_;exact⟨.bl (!(QW xs k).isSome),H,I.tok _,O,by rw[j.look.2];exact hc.now (.bl _) f⟩
  ·exact back b
 ·exact back b
theorem Kc{ag:List (dk×Obj)}{σ:L2.St}{H:Hp}{s:dj}{mu:List dk}(I:Inv X ag σ H s){a:dk}{xs:List (TK×dk×di)}{kvs:List (TK×D)}(e:∃o u,H a=Z (.frz o u)/\Hy a xs o)(h:KT X.K H mu kvs xs):(a == Pt)=J/\s.heap.DictOfH (je X.prog X.w) a xs:=by
 obtain⟨o,u,e,h1,h2,c,es,ep,g,d⟩:=e;obtain⟨f,_⟩:=(show eP X.prog X.w H s.heap a (.frz o u)from I.hok a _ e);exact⟨h1,o,es,ep,f,c,g,d,λx b=>⟨xi I _ (h.mem x b).2 O,(h.mem x b).1⟩,h2⟩
theorem qP(F:X.A.units+64<Ql):Hw X (r2 X.K (b2 dL)):=by
 intro value c ag s σ H x y v u Q I w G h q;obtain⟨mu,S,d,e,r,A,B,m,t,f,hc⟩:=pW h;have back:mS d e S=Z (r,A)->dz (PB X.prog X.w) X.A (QL value c v u) (EP X ag σ Q) X.xe s:=λf=>KS F value c ag s σ H x y v u Q I w G ⟨mu,S,[d,e],r,A,.cons B (.cons m .nil),t,f,hc⟩ q;have g:∀kvs a xs,v = .ref a->KT X.K H mu kvs xs->s.heap.DictOfH (je X.prog X.w) a xs->((keyT e).bind λk=>(dU kvs k).map λx=>(x,S))=Z (r,A)->dz (PB X.prog X.w) X.A (QL value c v u) (EP X ag σ Q) X.xe s:=λkvs a xs av l K f=>by
  obtain⟨k,aq,f⟩:=Sa f;obtain⟨z,R,f⟩:=Sb f;cases f;subst av;obtain⟨b,rfl,rfl,_,_,hi⟩:=mL I m G aq;obtain⟨p,N,ep,L,P⟩:=l.look.1 _ R;have ao:=K.typeIs;unfold QL;refine wB1 ?_;rw[getitemInPython_of_ne ao.not_modules];refine wB1 (RB ao PySem.F.slot_dict_getitem.lookup ?_);have j:dz (PB X.prog X.w) X.A (subscripted c J (.ref a) (.ref b)) (λr i=>dz (PB X.prog X.w) X.A (letTemporaryGo value (.ref a) r >>= λ_=>pure r) (EP X ag σ Q) X.xe i) X.xe s:=by
   rw[q];exact wpAny_operating (PD (wpAny_getItem_heap (kg F) hi K ep (show EP X ag σ Q p.2 _ from⟨N,H,I.tok _,L,hc.now P t⟩)) (λr i o=>wB1 (wpAny_letTemporaryGo (wP1 o))) λ_ _ x=>x)
  first
   |exact wP1 (wB1 j)
   |exact wB1 j
   |exact j
 unfold dL at f;split at f
 ·rename_i n;split at f
  ·rename_i kvs D;cases B with
   | @ref _ a C=>
    cases w;obtain⟨xs,E,l,_⟩:=t.dcT D C;exact g kvs a xs O l (vd I E l).2 f
  ·rename_i kvs D;cases B with
   | @ref _ a C=>
    cases w;obtain⟨xs,E,l,_⟩:=(show pU X.K H mu a (.dcF kvs)from t.ob n _ a D C);exact g kvs a xs O l (Kc I E l).2 f
  ·exact back f
 ·exact back f
theorem oy(B:X.A.units+64<Ql):wU X (rU X.K (b3 ju)):=by
 intro ag s σ H o i v av R u Q I L F p h;obtain⟨mu,S,ds,d,N,wq,j,a,hc⟩:=id h;cases wq with
 |cons K U=>cases U with
  |cons y au=>cases au with
   |cons r V=>
    cases V;rename_i P T G;dsimp only[b3]at a;have back:nl P T G S=Z (d,N)->dz (PB X.prog X.w) X.A (setItem av R u) (λ_ s'=>∃H',Inv X ag σ H' s'/\Q H') X.xe s:=λa=>H0 B ag s σ H o i v av R u Q I L F p ⟨mu,S,[P,T,G],d,N,.cons K (.cons y (.cons r .nil)),j,a,hc⟩;unfold ju at a;split at a
    ·rename_i n;split at a
     ·rename_i kvs ao;obtain⟨k,A,a⟩:=Sa a;split at a
      ·rename_i hl;cases a;cases K with
       | @ref _ l g=>
        cases L;obtain⟨xs,x,m,W⟩:=j.dcT ao g;obtain⟨D,aq⟩:=vd I x m;obtain⟨b,rfl,rfl,rk,t,hi⟩:=mL I y F A;refine wpAny_setItem_heap (hsz:=W) (kg B) hi aq λh' e c=>?_;have f:∃q,h'.get? _=Z q:=let ⟨q,_,_,f,_⟩:=e;⟨q,f⟩
        have put:Ext mu mu H (upd H l (.ext (j7 l (storedH xs k b u)))):=Ext.put x trivial (gM1 g);refine⟨_,kA I (by rw[x];exact Qk) c f (yp D e),hc _ mu put (j.put g x trivial ⟨_,d9,((m.put t rk p r).ext put),?_⟩)⟩;rw[<- (m.put t rk p r).length];have:=uM kvs k G;lia
      ·cases a
     ·rename_i ao;split at a
      ·rename_i k A;cases a;cases K with
       | @ref _ l g=>
        cases L;obtain⟨ws,w,m⟩:=j.dct ao g;cases m;obtain⟨z,D,vs,E,aq⟩:=va I.hok w;cases E;obtain⟨b,rfl,rfl,rk,t,hi⟩:=mL I y F A;have C:s.heap.DictOfH (je X.prog X.w) _ []:=u9 aq;refine wpAny_setItem_heap (hsz:=bi _) (kg B) hi C λh' e c=>?_;have f:∃q,h'.get? _=Z q:=let ⟨q,_,_,f,_⟩:=e;⟨q,f⟩
        have put:Ext mu mu H (upd H l (.ext (j7 l (storedH [] k b u)))):=Ext.put w trivial (gM1 g);exact⟨_,kA I (by rw[w];exact Qk) c f (yp D e),hc _ mu put (j.put g w trivial ⟨_,d9,KT.ext put (.cons ⟨O,t,rk,v,p,r⟩ .nil),(show 1<=dy by decide)⟩)⟩
      ·exact back a
     ·exact back a
    ·exact back a
def vS(S:Sto)(d:D):Option Bool:=match d with
 | .non=>Z J
 | .bl b=>Z b
 | .int i=>Z (i != 0)
 | .str y=>if y.length<=dy then Z ((y.length:Int) != 0)else Y
 | .ref n=>match S[n]? with
  |some (.dct kvs)=>Z (!kvs.isEmpty)
  |_=>(dZ S d).map λp=> !p.2.isEmpty
 |_=>(dZ S d).map λp=> !p.2.isEmpty
noncomputable def vG (m:FE):FT:=λr S=>(m r S).bind λp=>(vS p.2 p.1).map λb=>(b,p.2)
section
variable{K:Fg1}{H:Hp}{mu:List dk}{S:Sto}
theorem sr{d:D}{v:V}{b:Bool}(r:eU K H mu d v)(s:Sim K H mu S)(h:((dZ S d).map λp=> !p.2.isEmpty)=Z b):GT K v H b:=by
 obtain⟨⟨k,xs⟩,e,h⟩:=Sb h;obtain⟨a,vs,rfl,q,t⟩:=dW r s e;have z:(!xs.isEmpty) = !vs.isEmpty:=by cases t<;>rfl
 dsimp only at h;rw[z]at h;cases k
 ·exact .inr (.inl ⟨vs,q,h.symm⟩)
 ·exact .inl ⟨vs,q,h.symm⟩
theorem HL{d:D}{v:V}{b:Bool}(r:eU K H mu d v)(s:Sim K H mu S)(h:vS S d=Z b):GT K v H b:=by
 cases d with
 |non=>cases r;cases h;rfl
 |bl k=>cases r;cases h;rfl
 |int i=>cases r;cases h;rfl
 |str y=>
  rw[vS]at h;split at h
  ·rename_i f;cases r;cases h;exact⟨f,O⟩
  ·cases h
 |tup xs=>exact sr r s h
 |rol xs=>exact sr r s h
 |fn x=>cases h
 |ref n=>
  rw[vS]at h;split at h
  ·rename_i kvs g;cases h;cases r with
   |ref c=>
    obtain⟨ws,a,e⟩:=s.dct g c;refine .inr (.inr ⟨ws,a,?_⟩);cases e<;>rfl
  ·exact sr r s h
end
theorem gx{X:Cx}{x:Expr}{f:FE}(h:XE X x f)(he:autoParam (∀a,isTrue x X.env a=(do let v<-a;PX x.pos;PV [v] (truthy v))) du0):XT X x (vG f):=
 ⟨vZ (Bx h.h he) <| by
  rintro σ H Q ⟨r,mu,S,b,m,he,i,c,hc⟩;obtain⟨⟨l,n⟩,e,c⟩:=Sa c;obtain⟨b1,k,c⟩:=Sb c;cases c;exact⟨r,mu,S,_,_,he,i,e,λv H1 mu1 j g d=>⟨_,HL g d k,hc H1 mu1 j d⟩⟩⟩
section
variable{ag:List (dk×Obj)}{σ:L2.St}{H:Hp}{s:dj}{mu:List dk}
end
def jj:List D->Option (List Int)
 |[]=>Z []
 | .int i::ds=>(jj ds).map λis=>i::is
 |_=>Y
def ddI(ns:List Int):List Int:=ns.foldl RH []
theorem l8:∀(ns acc:List Int),acc.Nodup->(ns.foldl RH acc).Nodup
 |[],acc,h=>h
 |n::ns,acc,h=>by
  rw[b4];refine l8 ns _ ?_;unfold RH;split
  ·exact h
  ·rename_i d;rw[bx];refine⟨h,by simp,λa f b c e=>?_⟩;simp at c;apply d;rw[bP];exact⟨a,f,by simp[e,c]⟩
theorem ve(ns:List Int):firstMet (λi=>ns.getD i 0) ns.length=ddI ns:=by
 unfold firstMet ddI
 congr 1
 apply List.ext_getElem
 ·simp
 ·intro i h1 h2;simp at h1 ⊢;rw[gG1 (by omega)];rfl
theorem mM{K:Fg1}{H:Hp}{mu:List dk}:∀{ds:List D} {vs:List V} {a:List di} {ns:List Int},dX K H mu ds vs->ee vs a->jj ds=Z ns->QU a ns/\ns.length=ds.length:=by
 intro ds vs a ns g b h
 induction g using dX.ind generalizing a ns with
 |hn=>cases h;cases b;exact⟨.nil,O⟩
 | @hc d v ds vs r t ih=>
  cases d with
  |int i=>
   obtain⟨c,e,h⟩:=Sb h;cases h;cases r;cases b with
   |cons r b=>
    obtain⟨f,j⟩:=ih b e;obtain⟨tk,rfl⟩:=r;exact⟨.cons _ _ f,by rw[lC1,lC1,j]⟩
  |_=>cases h
theorem mm(l:List Int):(λk'=>l.any (· == k'))=λk'=>l.contains k':=by
 funext k
 induction l with
 |nil=>rfl
 |cons x xs ih=>rw[bd,b5,ih,show(x == k)=(k == x)from Bool.beq_comm]
def s9:G1:=λd S=>match dZ S d with
 |some (M,xs)=>(jj xs).bind λns=>if ns.length+1<RI then Z (.ref S.length,S++[.iset (ddI ns)])else Y
 |_=>Y
theorem Mm{k:Nat}(hr:fQ k X.A):eQ X (.type "set") (rN X.K (b1 s9)):=by
 intro ag s σ H xs G Q I r h;obtain⟨x,mu,S,d,K,ao,rfl,y,i,c,hc⟩:=Bu h;unfold s9 at c;split at c
 ·rename_i ys p;obtain⟨ns,e,c⟩:=Sa c;split at c
  ·rename_i F;cases c;obtain⟨a,vs,rfl,q,t⟩:=dW y i p;cases r with
   |cons v rt=>
    cases rt;cases v;obtain⟨g,A,⟨o,n,D,l,w,B⟩,_⟩:=I.list q;obtain⟨hi,m⟩:=mM t A e;have f:g.toArray.size=ns.length:=by rw[sT1,hi.length]
    refine PySem.call_set_list (items:=g.toArray) (ns:=ns) hr.hd ⟨o,D,l,⟨n,B⟩⟩ (by simpa using hi) (by rw[f];exact F) λh' tk j E=>?_;rw[f,ve]at j;have nd:(ddI ns).Nodup:=l8 ns [] bp;have C:=mm (ddI ns);rw[C]at j;refine⟨.ref s.heap.objs.size,upd H s.heap.objs.size (.set (λk=>(ddI ns).contains k) (ddI ns).length),I.laid (λb u z=>E b u (hL1 z) z) (nR1 _) j,O,?_⟩;exact hc _ _ (mu++[s.heap.objs.size]) (Ext.new_ I.fresh) (.ref (hO i.len _)) (i.new I.fresh ⟨d9,nd⟩)
  ·cases c
 ·cases c
def rj:G1:=λd S=>match d with
 | .ref n=>match S[n]? with
  |some (.iset xs)=>Z (.int xs.length,S)
  |_=>eB d S
 |_=>eB d S
theorem Dp:eQ X (.builtin "len") (rN X.K (b1 rj)):=by
 intro ag s σ H xs k Q I r h;obtain⟨x,mu,S,d,l,m,j,f,b,a,hc⟩:=Bu h;have p:=a;unfold rj at a;split at a
 ·rename_i n;split at a
  ·rename_i ys e;cases a;subst j;cases f with
   |ref i=>
    obtain⟨v,nd⟩:=b.iset e i;cases r with
    |cons q rt=>
     cases rt;cases q;have z:=I.hok _ _ v;obtain⟨o,es,ep,t,y,g,u,_,_,c,w,i⟩:=z;refine PySem.call_len_set y g u w (by unfold RI at c;lia) ?_;refine⟨.int es.size,H,I.tok _,⟨_,O⟩,?_⟩;rw[i];exact hc.now (.int _) b
  ·exact eH ag s σ H xs k Q I r (by subst j;exact⟨mu,S,[_],l,m,.cons f .nil,b,(show b1 eB [_] S=_ from a),hc⟩)
 ·exact eH ag s σ H xs k Q I r (by subst j;exact⟨mu,S,[_],l,m,.cons f .nil,b,(show b1 eB [_] S=_ from a),hc⟩)
@[elab_as_elim] theorem OZ {P:List di->Prop}{us:List di}(l:us.length=0)(f:P []):P us:=by
 cases us with
 |nil=>exact f
 |cons _ _=>cases l
@[elab_as_elim] theorem Ol {P:List di->Prop}{us:List di}(l:us.length=1)(f:∀a,P [a]):P us:=by
 cases us with
 |nil=>cases l
 |cons a us=>exact OZ (P:=λus=>P (a::us)) (Nat.succ.inj l) (f a)
@[elab_as_elim] theorem Oj {P:List di->Prop}{us:List di}(l:us.length=2)(f:∀a b,P [a,b]):P us:=by
 cases us with
 |nil=>cases l
 |cons a us=>exact Ol (P:=λus=>P (a::us)) (Nat.succ.inj l) (f a)
@[elab_as_elim] theorem Oi {P:List di->Prop}{us:List di}(l:us.length=3)(f:∀a b c,P [a,b,c]):P us:=by
 cases us with
 |nil=>cases l
 |cons a us=>exact Oj (P:=λus=>P (a::us)) (Nat.succ.inj l) (f a)
@[elab_as_elim] theorem OY {P:List di->Prop}{us:List di}(l:us.length=4)(f:∀a b c d,P [a,b,c,d]):P us:=by
 cases us with
 |nil=>cases l
 |cons a us=>exact Oi (P:=λus=>P (a::us)) (Nat.succ.inj l) (f a)
end Mi
namespace HT
open PySem PySem.Spec PyProof.Rows
variable{prog:dn}{w:dr}{A:dq}{E:di->dj->Prop}{s:dj}
end HT
namespace Mi
open PySem PySem.Spec PyProof.Rows L2
section
variable{X:Cx}
end
end Mi
namespace HT
open PySem PySem.Spec PyProof.Rows
section
variable{prog:dn}{w:dr}{A:dq}{R:Qm->dj->Prop}{I ax L:dk}{xs:Array di}
abbrev Kp(I L:dk)(h h':dB):Prop:=∀p u,p≠I->p≠L->h.get? p=Z u->h'.get? p=Z u
end
section
variable{prog:dn}{w:dr}{A:dq}{E:di->dj->Prop}{s:dj}
end
end HT
namespace Mi
open PySem PySem.Spec PyProof.Rows L2
variable{X:Cx}
section
variable{elt tg iter tg2 iter2 tg3 iter3:Expr}{ifs ifs2 ifs3:List Expr}{scope:dF}{pos:Pos}
end
noncomputable def zK(a:Int):List Int->List Int
 |[]=>[a]
 |b::l=>if a<=b then a::b::l else b::zK a l
def iC:List Int->List Int
 |[]=>[]
 |a::l=>zK a (iC l)
theorem mO(a:Int):∀l:List Int,(zK a l).Perm (a::l)
 |[]=>.refl _
 |b::l=>by
  rw[zK];split
  ·exact .refl _
  ·exact((mO a l).cons b).trans (.swap _ _ _)
theorem fJ:∀l:List Int,(iC l).Perm l
 |[]=>.refl _
 |a::l=>(mO a _).trans ((fJ l).cons a)
theorem yd{a:Int}:∀{l:List Int},l.Pairwise (· <= ·)->(zK a l).Pairwise (· <= ·)
 |[],_=>List.pairwise_singleton _ _
 |b::l,h=>by
  rw[b6]at h;rw[zK];split
  ·rename_i c;rw [b6,b6];exact ⟨fun x d=>by
    rcases aF.mp d with z|z
    ·lia
    ·have:=h.1 x z;lia,h.1,h.2⟩
  ·rename_i c;rw[b6];refine⟨λx d=>?_,yd h.2⟩;rcases aF.mp ((mO a l).mem_iff.mp d)with z|z
   ·lia
   ·exact h.1 x z
theorem jC:∀l:List Int,(iC l).Pairwise (· <= ·)
 |[]=>.nil
 |a::l=>yd (jC l)
theorem nQ:∀{a b:List Int},a.Perm b->a.Pairwise (· <= ·)->b.Pairwise (· <= ·)->a=b
 |[],b,p,_,_=>(List.nil_perm.mp p).symm
 |x::a,[],p,_,_=>absurd p.length_eq (by simp)
 |x::a,y::b,p,h1,h2=>by
  rw[b6]at h1 h2;have e:x=y:=by
   have f:=p.mem_iff.mp (mS1 (a:=x) (l:=a));have d:=p.mem_iff.mpr (mS1 (a:=y) (l:=b));rcases aF.mp f with z|z
   ·exact z
   ·rcases aF.mp d with c|c
    ·exact c.symm
    ·have:=h2.1 x z;have:=h1.1 y c;lia
  subst e;rw[nQ (List.perm_cons x |>.mp p) h1.2 h2.2]
def rh:List D->Option (List Int)
 |[]=>Z []
 | .int i::l=>(rh l).map λt=>i::t
 |_=>Y
def l0:G1:=λd S=>match d with
 | .ref n=>match S[n]? with
  |some (.lst xs)=>(rh xs).bind λns=>if ns.length<64 then Z (.ref S.length,S++[.lst ((iC ns).map D.int)])else Y
  |_=>Y
 |_=>Y
theorem zI{K:Fg1}{H:Hp}{mu:List dk}:∀{ds:List D} {vs:List V} {a:List di} {ns:List Int},dX K H mu ds vs->ee vs a->rh ds=Z ns->QU a ns:=by
 intro ds
 induction ds with
 |nil=>intro vs a ns r v h;cases r;cases v;cases h;exact .nil
 |cons d ds ih=>
  intro vs a ns r v h;cases r with
  |cons b t=>
   cases v with
   |cons c f=>
    cases b
    case int i=>
     obtain⟨m,e,h⟩:=Sb h;subst h;obtain⟨tk,rfl⟩:=c;exact .cons i tk (ih t f e)
    all_goals cases h
theorem rf:∀{us:List di} {ns:List Int},QU us ns->ee (ns.map V.int) us:=by
 intro us ns h
 induction h with
 |nil=>exact .nil
 |cons i t _ ih=>exact .cons ⟨t,O⟩ ih
theorem zJ:∀{ds:List D} {ns:List Int},rh ds=Z ns->ns.length=ds.length:=by
 intro ds
 induction ds with
 |nil=>intro ns h;cases h;rfl
 |cons d ds ih=>
  intro ns h;cases d with
  |int i=>
   obtain⟨m,e,h⟩:=Sb h;subst h;rw[lC1,lC1,ih e]
  |_=>cases h
theorem Dn:eQ X (.builtin "sorted") (rN X.K (b1 l0)):=by
 intro ag s σ H xs E Q I r h;obtain⟨x,mu,S,d,ao,F,rfl,z,i,c,hc⟩:=Bu h;cases d with
 |ref n=>
  dsimp only[l0]at c;split at c
  ·rename_i ds C;obtain⟨ns,v,c⟩:=Sa c;split at c
   ·rename_i L;cases c;have f:dZ S (.ref n)=Z (M,ds):=by simp only[dZ,C]
    obtain⟨a,vs,rfl,q,t⟩:=dW z i f;obtain⟨u,rfl,r2⟩:=iR r;cases r2;obtain⟨g,w,D,K⟩:=I.list q;have A:=zI t w v;have y:g.length=ns.length:=by
     rw[<- w.length,<- t.length,zJ v]
    refine sorted_ints D.isList A (by lia) λout l m B p=>?_;have k:l=iC ns:=nQ (B.trans (fJ ns).symm) p (jC ns);subst k;obtain⟨ep,j⟩:=sortedAll_at s.heap g out;have e:=I.hok.fresh (aX s.heap.objs.size);refine⟨.ref (s.heap.objs.size+1),_,I.laid (t':=s.toks) (o:=.lst ((iC ns).map V.int)) (λb G q=>sortedAll_old q) (aX _) ?_,O,hc _ _ (mu++[_]) (Ext.new_ e) (.ref (hO i.len _)) (i.newL (kh _) e)⟩;refine⟨?_,out.toList,ep,rf m,by rw[Array.toArray_toList];exact j⟩;rw[lM1,(fJ ns).length_eq,Qh];lia
   ·cases c
  ·cases c
 |_=>cases c
theorem my(n:Nat):∀ns:List Int,D.unds n (ns.map D.int)=M
 |[]=>rfl
 |_::ns=>by rw[mP1,D.unds,my n ns];rfl
theorem Gi{n:Nat}{d:D}{S:Sto}(h:S.length=n):gc n (d,S)=(d,S):=by
 unfold gc;split
 ·rw[show(d,S).2=S from rfl,<- h,bU]
 ·rfl
theorem Ab{n:Nat}{f:FN}{ds:List D}{S S1:Sto}{d:D}(h:f ds []=Z (d,S1))(hn:ds.length=n)(a:D.unds 0 ds=M)(hd:d.und 0=M):dI n f ds S=Z (d,S):=by
 unfold dI rG;rw[ak hn,ak a,h,oP1,ak hd]
theorem pG{n:Nat}{f:FN}{ds:List D}{S S1:Sto}{d:D}(h:f ds []=Z (d,S1))(hn:ds.length=n)(a:D.unds 0 ds=M)(hd:d.und 0=J):dI n f ds S=Z (d.sh S.length,S++S1.map (Ob.sh S.length)):=by
 unfold dI rG;rw[ak hn,ak a,h,oP1,aj (by dsimp only;rw[hd];decide)]
theorem rE{n:Nat}{f:FN}{ds:List D}{S S1:Sto}{d:D}(h:f ds S=Z (d,S1))(hn:ds.length=n)(a:D.unds 0 ds=J):dI n f ds S=Z (gc S.length (d,S1)):=by
 unfold dI rG;rw[ak hn,aj (by rw[a];decide),h,oP1]
theorem Ag{n:Nat}{f:FN}{ds:List D}{S S1:Sto}{d:D}(h:f ds S=Z (d,S1))(hn:ds.length=n)(a:D.unds 0 ds=J)(b:S1.length=S.length):dI n f ds S=Z (d,S1):=by
 rw[rE h hn a,Gi b]
theorem uB{i j:Int}(h1: -(2^64)<i)(h2:i<2^64):e6 i j=M:=by
 unfold e6;simp only[bM,bA1,am];exact .inl (.inl ⟨h1,h2⟩)
theorem xN{i j:Int}(h1: -(2^64)<j)(h2:j<2^64):e6 i j=M:=by
 unfold e6;simp only[bM,bA1,am];exact .inl (.inr ⟨h1,h2⟩)
theorem fq{S:Sto}{n:Nat}{xs:List D}(h:S[n]?=Z (.lst xs)):oR S [(n,xs)]=M:=by
 rw[oR,h];simp[D.sames_refl,oR]
def jJ(n:Nat):Nat->List D
 |0=>[]
 |k+1=>.ref n::jJ (n+1) k
theorem uE:∀{n:Nat} {lo:Int} {d:D},d∈fT lo n -> ∃k:Int,d = .int k/\lo<=k/\k<lo+n
 |0,lo,d,h=>by simp[fT]at h
 |n+1,lo,d,h=>by
  rw[fT]at h;rcases aF.mp h with h|h
  ·exact⟨lo,h,Int.le_refl _,by lia⟩
  ·obtain⟨k,e,h1,h2⟩:=uE h;exact⟨k,e,by lia,by lia⟩
open Classical in
def OW(ws:List di)(x:di):Nat:=ws.findIdx λy=>decide (y=x)
section
variable{prog:dn}{w:dr}{A:dq}{E:di->dj->Prop}{s:dj}{κ:RJ}{ws:List di}{a₀:Array RK}
end
section
variable{prog:dn}{w:dr}{A:dq}{E:di->dj->Prop}{s:dj}
end
section
variable{prog:dn}{w:dr}{A:dq}{E:di->dj->Prop}{R:Qm->dj->Prop}
end
section
variable{prog:dn}{w:dr}{A:dq}{E:di->dj->Prop}{s:dj}
end
mutual
theorem AM{n:Nat}:∀k:TK,(tkD k).und n=M
 | .non=>rfl
 | .int _=>rfl
 | .tup xs=>by rw[tkD,D.und];exact xc xs
theorem xc{n:Nat}:∀ks:List TK,D.unds n (jz ks)=M
 |[]=>rfl
 |k::ks=>by rw[jz,D.unds,AM k,xc ks];rfl
end
section
variable{prog:dn}{w:dr}{A:dq}{E:di->dj->Prop}{s:dj}
end
section
variable{prog:dn}{w:dr}{A:dq}{E:di->dj->Prop}{R:Qm->dj->Prop}
end
section
variable{ag:List (dk×Obj)}{σ:L2.St}{H:Hp}{s:dj}{a:dk}{u v:HO}
end
section
variable{K:Fg1}{H H':Hp}{mu mu':List dk}{S:Sto}{n:Nat}{a:dk}{o:Obj}{u:HO}
end
theorem rV.lt{xs:Array Nat}(h:rV xs){a b u v:Nat}(d:a<b)(c:xs[a]?=Z u)(eb:xs[b]?=Z v):u<v:=by
 rw[<- aT1]at c eb;obtain⟨f,c⟩:=R9 c;obtain⟨e,eb⟩:=R9 eb;have:=b7.mp h a b f e d;rw[c,eb]at this;exact this
structure Bs (xs:Array Nat)(j i:Nat):Prop where
 le:i<=xs.size
 lo:∀k v,xs[k]?=some v->k<i->v<j
 hi:∀k v,xs[k]?=some v->i<=k->j<=v
theorem Bs.uniq{xs:Array Nat}{j i i':Nat}(h:Bs xs j i)(h':Bs xs j i'):i=i':=by
 rcases b8 i i' with z|z|z
 ·have a:i<xs.size:=nL1 z h'.le;have e:=aG1 a;have:=h.hi _ _ e (nR1 _);have:=h'.lo _ _ e z;lia
 ·exact z
 ·have a:i'<xs.size:=nL1 z h.le;have e:=aG1 a;have:=h'.hi _ _ e (nR1 _);have:=h.lo _ _ e z;lia
theorem Du{xs:Array Nat}{j:Nat}(hr:rV xs):∀n lo hi:Nat,lo<=hi->hi<=xs.size->hi-lo<=n->(∀k v,xs[k]?=Z v->k<lo->v<j)->(∀k v,xs[k]?=Z v->hi<=k->j<=v)->Bs xs j (SetTable.below.go xs j n lo hi)
 |0,lo,hi,h1,h2,h,a,b=>by
  have:lo=hi:=by lia
  subst this;exact⟨h2,a,b⟩
 |n + 1,lo,hi,h1,h2,h,a,b=>by
  rw[SetTable.below.go];by_cases d:lo<hi
  ·rw[ak d];have f:(lo+hi)/2<xs.size:=by lia
   have c:=aG1 f;have g:xs.getD ((lo+hi)/2) j=xs[(lo+hi)/2]:=by simp[Array.getD,f]
   dsimp only;rw[g];by_cases hc:xs[(lo+hi)/2]<j
   ·rw[ak hc];refine Du hr n _ _ (by lia) h2 (by lia) (λk v e i=>?_) b;rcases bS k ((lo+hi)/2)with z|z
    ·have:=hr.lt z e c;lia
    ·have:k=(lo+hi)/2:=by lia
     subst this;rw[c]at e;cases e;exact hc
   ·rw[aj hc];refine Du hr n _ _ (by lia) (by lia) (by lia) a λk v e i=>?_;rcases bS ((lo+hi)/2) k with z|z
    ·have:=hr.lt z c e;lia
    ·have:k=(lo+hi)/2:=by lia
     subst this;rw[c]at e;cases e;lia
  ·rw[aj d];have:lo=hi:=by lia
   subst this;exact⟨h2,a,b⟩
theorem mf{xs:Array Nat}(hr:rV xs)(j:Nat):Bs xs j (RL xs j):=
 Du hr _ 0 _ (bi _) (nR1 _) (by lia) (λ_ _ _ h=>absurd h (bw _)) λk v e h=>by
  have:=(Array.getElem?_eq_some_iff.mp e).1;lia
theorem jR{α:Type}(xs:Array α)(p:Nat)(x:α):(RM xs p x).toList=xs.toList.take p++x::xs.toList.drop p:=by
 unfold RM;rw[Array.toList_append,b9,Array.toList_extract,Array.toList_extract];simp[List.extract_eq_drop_take];rw[ca (by simp)]
theorem xA{xs:Array Nat}(hr:rV xs){j:Nat}(hn:xs[RL xs j]? ≠ Z j):rV (RM xs (RL xs j) j):=by
 have b:=mf hr j;unfold rV;rw[jR,List.pairwise_append,b6];have lo:∀v∈xs.toList.take (RL xs j),v<j:=λv h=>by
  obtain⟨k,d⟩:=bq h;rw[List.getElem?_take]at d;split at d
  ·rename_i f;exact b.lo k v (by rw[<- aT1];exact d) f
  ·cases d
 have hi:∀v∈xs.toList.drop (RL xs j),j<v:=λv h=>by
  obtain⟨k,d⟩:=bq h;rw[List.getElem?_drop,aT1]at d;have h1:=b.hi _ v d (br _ _);rcases bS j v with z|z
  ·exact z
  ·exfalso;have g:v=j:=by lia
   subst g;cases k with
   |zero=>exact hn d
   |succ k=>
    have l:RL xs v<xs.size:=by have:=(Array.getElem?_eq_some_iff.mp d).1;lia
    have e:=aG1 l;have:=b.hi _ _ e (nR1 _);have:=hr.lt (by lia) e d;lia
 refine⟨hr.sublist (aU _ _),⟨hi,hr.sublist (List.drop_sublist _ _)⟩,λa i c hc=>?_⟩;rcases aF.mp hc with z|z
 ·rw[z];exact lo a i
 ·exact bh (lo a i) (hi c z)
structure TS (l:Bool)(t:Q3):Prop where
 up:rV t.place
 du:t.dummies = #[]
 ld:t.led=l
theorem lR{t:Q3}(hd:t.dummies = #[])(j:Nat):SetTable.has t.dummies j=J:=by rw[hd];rfl
theorem qr{t:Q3}(hd:t.dummies = #[]){f:Nat->Int}{h:Int}:∀(n:Nat) (p:RN) (j:Nat) (d:Option Nat),p.dummy=Y->RO t f h n p=Z (.empty j d)->d=Y/\t.place[RL t.place j]? ≠ Z j
 |0,p,j,d,_,e=>by rw[RO]at e;cases e
 |n+1,p,j,d,hp,e=>by
  have a:(t.advance p).dummy=Y:=by
   unfold SetTable.advance;split
   ·exact hp
   ·dsimp only;exact hp
  rw[RO]at e;unfold SetTable.slot at e;dsimp only at e;rw[lR hd]at e;by_cases hc:(t.place[RL t.place p.j]? == Z p.j)=M
  ·rw[ak hc]at e;dsimp only at e;split at e
   ·cases e
   ·exact qr hd n _ j d a e
  ·rw[aj hc,aj (by decide)]at e;dsimp only at e;cases e;refine⟨hp,λz=>hc ?_⟩;rw[z];simp
theorem Gs{t:Q3}(hd:t.dummies = #[]){h:Int}{j:Nat}{b:Bool}(e:t.freeSlot h=Z (j,b)):t.place[RL t.place j]? ≠ Z j:=by
 unfold SetTable.freeSlot at e;split at e
 ·rename_i c d ep;obtain⟨rfl,a⟩:=qr hd _ _ _ _ O ep;cases e;exact a
 ·cases e
theorem lB{l:Bool}{t:Q3}(h:TS l t)(n:Nat):TS l (t.standIn n):=by
 refine⟨?_,O,h.ld⟩;show(Array.range n).toList.Pairwise (· < ·);rw[Array.toList_range];exact cb
theorem KW{l:Bool}{t:Q3}(h:TS l t)(n:Nat):TS l (t.orStandIn n):=by
 unfold SetTable.orStandIn;split
 ·exact h
 ·exact lB h n
theorem HI{l:Bool}{t:Q3}(ht:TS l t)(es:Array (Int×di))(h:Int)(x:di):TS l (layNew t es h x).2.1:=by
 unfold layNew;split
 ·rename_i j b e;show TS l ((t.put j).1.orStandIn _);refine KW (t:=(t.put j).1) ⟨?_,?_,ht.ld⟩ _
  ·exact xA ht.up (Gs ht.du e)
  ·show(if SetTable.has t.dummies j=M then _ else t.dummies) = #[];rw[lR ht.du,aj (by decide)];exact ht.du
 ·exact lB ht _
theorem nX{α:Type}(f:Nat->Option α):∀l:List Nat,((l.filterMap λj=>(f j).map (j,·)).map (·.1)).Sublist l
 |[]=>.slnil
 |a::l=>by
  rw[aE];cases f a with
  |none=>exact(nX f l).cons a
  |some x=>exact(nX f l).cons₂ a
theorem Er{l p:Bool}{m fi mo:Nat}{hs:Array Int}{t:Q3}{a:Array Nat}(e:SetTable.laid m fi mo l p hs=Z (t,a)):TS l t:=by
 unfold SetTable.laid at e;obtain⟨b,_,e⟩:=Sa e;cases e;refine⟨?_,O,O⟩;unfold rV;dsimp only;exact List.pairwise_lt_range.sublist (by simpa using nX (λj=>b.getD j Y) (af (m+1)))
theorem AT{l:Bool}{t:Q3}(ht:TS l t)(es:Array (Int×di))(n:Nat):TS l (relayAll t es n).2.1:=by
 unfold relayAll;split
 ·rename_i b a e;dsimp only;split
  ·have:=Er e;rw[ht.ld]at this;exact this
  ·exact lB ht _
 ·exact lB ht _
theorem AU(l:Bool):TS l (SetTable.fresh 0 0 l):=⟨List.Pairwise.nil,O,O⟩
theorem GE{xs:Array Nat}(hr:rV xs){i:Nat}(hi:i<xs.size):RL xs (xs[i]+1)=i+1:=by
 refine(mf hr _).uniq ⟨hi,λk v e a=>?_,λk v e a=>?_⟩
 ·rcases bS k i with z|z
  ·have:=hr.lt z e (aG1 hi);lia
  ·have:k=i:=by lia
   subst this;rw[aG1 hi]at e;cases e;lia
 ·have:=hr.lt (show i<k by lia) (aG1 hi) e;lia
theorem Dt{xs:Array Nat}(hr:rV xs):RL xs 0=0:=
 (mf hr _).uniq ⟨bi _,λk v e a=>absurd a (bw _),λk v e a=>bi _⟩
def NG(e:Int×di):Int:=match e.2 with
 | .int k _=>k
 |_=>0
structure Els (es:Array (Int×di))(ns:List Int):Prop where
 el:∀e∈es.toList,∃k t,e=(aa k,ab k t)
 pm:(es.toList.map NG).Perm ns
theorem Els.of{P:dn}{w:dr}{es:Array (Int×di)}{ns:List Int}(h:Els es ns):ElemsOf (Pu P w) es.toList:=λe a=>by
 obtain⟨k,t,rfl⟩:=h.el e a;exact⟨⟨k,intKind_is _ _ _ _,O⟩,O⟩
theorem Els.size{es:Array (Int×di)}{ns:List Int}(h:Els es ns):es.size=ns.length:=by
 have:=h.pm.length_eq;rw[lM1,aK]at this;exact this
theorem Els.perm{es fs:Array (Int×di)}{ns:List Int}(h:Els es ns)(p:fs.toList.Perm es.toList):Els fs ns:=
 ⟨λe a=>h.el e (p.mem_iff.mp a),(p.map _).trans h.pm⟩
theorem Els.add{es fs:Array (Int×di)}{ns:List Int}(h:Els es ns){k:Int}{t:Tok}(p:fs.toList.Perm (es.push (aa k,.int k t)).toList):Els fs (ns++[k]):=by
 rw[b9]at p;refine⟨λe a=>?_,?_⟩
 ·rcases aG.mp (p.mem_iff.mp a)with z|z
  ·exact h.el e z
  ·simp at z;exact⟨k,t,z⟩
 ·refine(p.map _).trans ?_;rw[cc];exact h.pm.append (.refl _)
def j5(b:Bool)(p:dk)(ns:List Int)(h:dB):Prop:=∃es ep t l,h.get? p=Z (stO es ep t)/\Els es ns/\es.size<RI/\t.fits es.size=M/\TS l t/\(b=J->l=M)
section
variable{P:dn}{w:dr}{A:dq}{E:di->dj->Prop}{s:dj}{b:Bool}{p:dk}{ns:List Int}
theorem sA{es fs:Array (Int×di)}{ep:Nat}{t u:Q3}{h:dB}(e:h.get? p=Z (stO es ep t)):(h.update p (Obj.putSet fs u)).get? p=Z (stO fs (ep+1) u):=by
 have:=hW1 (Obj.putSet fs u) e (by rw[putSet_of fs u O];rfl);rw[putSet_of fs u O]at this;exact this
theorem gw{c:Bool}{Q:Unit->dj->Prop}(q:Q () s):dz (PB P w) A (match c with
  |true=>rule "set.scan.the-table-gave-way"
  |false=>pure ()) Q E s:=by cases c<;>first|exact wP1 q|exact P2 q
theorem NW{k:Int}{tk:Tok}{Q:Bool->dj->Prop}(au:j5 b p ns s.heap)(hr:ns.length+1<RI)(q:∀c h',Pz p s.heap h'->j5 b p (RH ns k) h'->Q c {s with heap:=h'}):dz (PB P w) A (setAddHashed p (.int k tk) (aa k)) Q E s:=by
 obtain⟨es,ep,t,l,m,a,S,F,U,ao⟩:=au;have hz:=a.size;have el:ElemsOf (Pu P w) es.toList:=a.of;unfold setAddHashed setAddHashedIn;refine PY (wB1 (RP m O F ?_));dsimp only;rw[byScan_of (knd:=Pu P w) O S el,ak O];unfold setAddByScan;refine wB1 (wB1 (P2 (wB1 (wpAny_setScan_of (knd:=Pu P w) (k:=k) (intKind_is _ _ _ _) m O F el ?_))));cases hx:List.findIdx? (λe=>(Pu P w).is k e.2) es.toList with
 |some j=>
  obtain⟨aq,h,_⟩:=bZ.mp hx;have I:k∈ns:=by
   refine a.pm.mem_iff.mp (cf.mpr ⟨_,bQ aq,?_⟩);obtain⟨k',V,e⟩:=a.el _ (bQ aq);rw[e]at h ⊢;exact((Pu P w).inj _ _ _ h (intKind_is P w k' V)).symm
  have C:RH ns k=ns:=by unfold RH;rw[ak (bP.mpr ⟨k,I,by simp⟩)]
  rw[C]at q;exact wP1 (wP1 (q _ s.heap (Heap.SameBut.refl p s.heap) ⟨es,ep,t,l,m,a,S,F,U,ao⟩))
 |none=>
  have C:RH ns k=ns++[k]:=by
   unfold RH;rw[aj λz=>?_];obtain⟨k',I,e⟩:=bP.mp z;have e:=RW.mp e;subst e;obtain⟨x,g,f⟩:=cf.mp (a.pm.mem_iff.mpr I);obtain⟨y,i,rfl⟩:=a.el x g;have f:y=k':=f;subst f;have:=List.findIdx?_eq_none_iff.mp hx _ g;rw[show(Pu P w).is y (aa y,ab y i).2=M from intKind_is _ _ _ _]at this;cases this
  rw[C]at q;have G:=layNew_perm t es (aa k) (.int k tk);have D:=layNew_fits t es (aa k) (.int k tk);have o:=HI U es (aa k) (.int k tk);dsimp only;generalize layNew t es (aa k) (.int k tk)=L at G D o ⊢;obtain⟨fs,u,X,wq⟩:=L;dsimp only at G D o ⊢;have n:Els fs (ns++[k]):=a.add G;have B:fs.size<RI:=by rw[n.size,lA1];exact hr
  refine wB1 (gw ?_);have tail:∀ (c:Bool),dz (PB P w) A (do
    storeSet p fs u
    if (!X&&u.tooFull)=true then do
      (match (relayAll u fs (RQ fs.size)).2.2 with
       |true=>rule "set.scan.the-table-gave-way"
       |false=>pure ())
      storeSet p (relayAll u fs (RQ fs.size)).1 (relayAll u fs (RQ fs.size)).2.1
      pure (Z M)
     else pure (Z M)) (λr s'=>dz (PB P w) A (match r with
      |some d=>pure d
      |none=>setAddHashedIn p (.int k tk) (aa k) 99999) Q E s') E s:=λ_=>by
   refine wB1 (RR m O ?_ (RT B));have K:=sA (fs:=fs) (u:=u) m;have av:=Rf s.heap p (Obj.putSet fs u);split
   ·have p2:=relayAll_perm u fs (RQ fs.size);have H:=relayAll_fits u fs (RQ fs.size);have i:=AT o fs (RQ fs.size);generalize relayAll u fs (RQ fs.size)=L2 at p2 H i ⊢;obtain⟨N,v,W⟩:=L2;dsimp only at p2 H i ⊢;have T:=n.perm p2;have R:N.size<RI:=by rw[T.size,<- n.size];exact B
    refine wB1 (gw (wB1 (RR K O ?_ (RT R))));exact wP1 (wP1 (q _ _ (av.trans (Rf _ p _)) ⟨N,_,v,l,sA K,T,R,H,i,ao⟩))
   ·exact wP1 (wP1 (q _ _ av ⟨fs,_,u,l,K,n,B,D,o,ao⟩))
  split
  ·refine wB1 (wP1 ?_);exact tail M
  ·refine wB1 (wP1 ?_);exact tail M
end
section
variable{P:dn}{w:dr}{A:dq}{E:di->dj->Prop}{s:dj}
def byT(w:dr):Bool:=w.params.followText "set-order"
theorem xL(x:di){G:di->dj->Prop}(q:G (.ref s.heap.objs.size) {s with heap:=s.heap.push (stO #[] 0 (.fresh 0 0 (!byT w)))}):
  dA (PB P w) A (.call (.builtin "set.__new__") ⟨[.type "set",x],[]⟩) (wants G E) s:=by
 refine Q8 (?_:dz _ A.in1 (do checkBuiltinCall "set.__new__" ⟨[.type "set",x],[]⟩;again (.builtin "set.__new__" ⟨[.type "set",x],[]⟩)) _ _ s);refine wB1 (Ra (PySem.F.newCall_set_1 x) (wP1 ⟨Ry PySem.F.plain_set_new _,wD1 PySem.F.entry_set_new (?_:_)⟩));rw[Rz PySem.F.plain_set_new _];unfold Builtin.«set.__new__» Builtin.Frozenset.newClass;have a:=sub_set_self;obtain⟨b,g,d,tk,c⟩:=s;dsimp only
 wp_walk
 refine Q9 (wP1 (?_:_));dsimp only;simp only[newObj];exact wB1 (wpAny_alloc (wP1 (wP1 q)))
set_option maxHeartbeats 3200000 in
theorem pF {l:dk}{its:Array di}{Q:di->dj->Prop}(H:s.heap.IsList l its)
  (i:∀d:dq,d.handled=A.handled->d.units<=A.units+2 -> ∀R:Qm->dj->Prop,(∀s',Q (.ref s.heap.objs.size) s'->R (.ok (.ret .none)) s') ->
   dA (PB P w) d (.builtin "set.update.loop" ⟨[.ref s.heap.objs.size,.ref (s.heap.objs.size+1)],[]⟩) R {s with heap:=(s.heap.push (stO #[] 0 (.fresh 0 0 (!byT w)))).push {cls:=.type "list_iterator",data:=.fields #[.ref l,.int 0 0]}}):
  dz (PB P w) A (call (.type "set") [.ref l]) Q E s:=by
 obtain⟨av,aq,k⟩:=PySem.F.called_set.mro;have j:=PySem.F.called_set.made;have o:=PySem.F.called_set.sub
 refine wpAny_call (Q8 (?_:dz _ _ (callAny (.type "set") _) _ _ _));refine wP1 ⟨Code.quiet_builtin _ (by decide+kernel),wD1 PySem.F.entry_type_call (?_:_)⟩;rw[Around.under_plain (weight_type_call_type "set" [.ref l] []) O];have N:=PySem.F.called_set.notType;have L:=PySem.F.called_set.canCreate;have S:=PySem.F.typeCall_set_1 (.ref l)
 repeat(any_goals (first|wp_step|assumption))
 refine Qn (xL (.ref l) (E:=E) (G:=λx m=>x = .ref s.heap.objs.size/\m={s with heap:=s.heap.push (stO #[] 0 (.fresh 0 0 (!byT w)))}) ⟨O,O⟩) λr m h=>?_;cases r with
 |error e=>exact h
 |ok u=>
  cases u with
  |ret x=>
   obtain⟨rfl,rfl⟩:=h;have n:(s.heap.push (stO #[] 0 (.fresh 0 0 (!byT w)))).get? s.heap.objs.size=Z (stO #[] 0 (.fresh 0 0 (!byT w))):=hS1 _ O;have B:Shared.TypeIs {s with heap:=s.heap.push (stO #[] 0 (.fresh 0 0 (!byT w)))} (.ref s.heap.objs.size) "set":=⟨_,n,O⟩;have W:=PySem.F.called_set.init.lookup;have U:=PySem.F.called_set.init.bind (.ref s.heap.objs.size)
   repeat(any_goals (first|wp_step|assumption))
   refine Qn (codeAny_call_builtin (R:=wants (λr t=>r = .none/\Q (.ref s.heap.objs.size) t) E) PySem.F.called_set.init.plain PySem.F.entry_set_init (check_set_init_1 B (?_:_))) λr2 t a=>?_
   ·obtain⟨y,g,c,p,b⟩:=H;obtain⟨ao,v,V,D⟩:=y;simp only at c b;subst c;subst b;have F:(s.heap.push (stO #[] 0 (.fresh 0 0 (!byT w)))).get? l=Z {cls:=.type "list",dict:=v,data:=.seq its p,slots:=D}:=hP1 _ g;have T:=PySem.F.sub_list_set;have K:=PySem.F.sub_list_frozenset;have X:(Ps "list" == Ps "dict")=J:=by decide
    have C:(s.heap.push (stO #[] 0 (.fresh 0 0 (!byT w)))).IsList l its:=⟨_,F,O,p,O⟩;have I:(s.heap.push (stO #[] 0 (.fresh 0 0 (!byT w)))).get? s.heap.objs.size=Z {cls:=.type "set",dict:=Y,data:=.set #[] 0 (.fresh 0 0 (!byT w)),slots:= #[]}:=n;unfold Builtin.«set.__init__» noKeywords Builtin.Frozenset.updateFrom;generalize f:P7=PI
    wp_walk
    subst f;refine wpAny_pyIter_list C (wB1 (wpAny_runValue (?_:_)));dsimp only;rw[show(s.heap.push (stO #[] 0 (.fresh 0 0 (!byT w)))).objs.size=s.heap.objs.size+1 from by rw[hZ1]];refine i A.in1.in1 (by simp) (nR1 _) _ λs' q=>?_;exact wP1 (wP1 ⟨O,q⟩)
   ·cases r2 with
    |error e=>exact a
    |ok z=>
     cases z with
     |ret r=>
      obtain⟨rfl,q⟩:=a
      repeat(any_goals (first|wp_step|assumption))
     |_=>exact a.elim
  |_=>exact h.elim
theorem Ad {l:dk}{its:Array di}{Q:di->dj->Prop}(c:s.heap.IsList l its)
  (b:∀a:dq,a.handled=A.handled -> ∀R:Qm->dj->Prop,(∀s',Q (.ref s.heap.objs.size) s'->R (.ok (.ret .none)) s') ->
   dA (PB P w) a (.builtin "set.update.loop" ⟨[.ref s.heap.objs.size,.ref (s.heap.objs.size+1)],[]⟩) R {s with heap:=(s.heap.push (stO #[] 0 (.fresh 0 0 (!byT w)))).push {cls:=.type "list_iterator",data:=.fields #[.ref l,.int 0 0]}}):
  dz (PB P w) A (call (.type "set") [.ref l]) Q E s:=pF c λa h _=>b a h
end
section
variable{P:dn}{w:dr}{A:dq}{E:di->dj->Prop}{b:Bool}
theorem j5.old{p:dk}{ns:List Int}{h h':dB}(x:j5 b p ns h)(k:∀o,h.get? p=Z o->h'.get? p=Z o):j5 b p ns h':=by
 obtain⟨es,ep,t,l,e,r⟩:=x;exact⟨es,ep,t,l,k _ e,r⟩
theorem pq:∀(ns acc:List Int),(ns.foldl RH acc).length<=acc.length+ns.length
 |[],acc=>by simp
 |n::ns,acc=>by
  rw[b4];have h1:=pq ns (RH acc n);have h2:(RH acc n).length<=acc.length+1:=by unfold RH;split<;>simp
  rw[lC1];lia
theorem Bk{p l it:dk}{its:Array di}{ns:List Int}{R:Qm->dj->Prop}(L:A.handled=none)(z:QU its.toList ns)(hb:ns.length+1<RI)(I:p≠l)(m:p≠it)(ao:it≠l):
  ∀(k i:Nat) (s:dj),its.size-i=k->i<=its.size->s.heap.IsListIter it l i->s.heap.IsList l its->j5 b p ((ns.take i).foldl RH []) s.heap ->
  (∀h' tk,(∀c o,c≠p->c≠it->s.heap.get? c=Z o->h'.get? c=Z o)->j5 b p (ddI ns) h'->R (.ok (.ret .none)) {s with heap:=h',toks:=tk})->dA (PB P w) A (.builtin "set.update.loop" ⟨[.ref p,.ref it],[]⟩) R s:=by
 have a:its.size=ns.length:=by rw[<- aK];exact z.length
 intro k
 induction k with
 |zero=>
  intro i s K hi st h u q;have e:i=its.size:=by lia
  subst e;refine wD1 RU (?_:_);rw[Rz RV _];show dz _ A.in1 (P5 (.ref it) >>= _) _ _ s;refine wB1 (Qa (by simpa using L) st h (by simp) λh' eb=>wP1 ?_);refine q h' s.toks (λc o _ hc e=>eb c o hc e) ?_;have:=u.old (h':=h') λo e=>eb p o m e;rw[a,bU]at this;exact this
 |succ k ih=>
  intro i s K hi st h u q;have d:i<its.size:=by lia
  have C:=aG1 d;obtain⟨t,D⟩:=PyProof.Rows.IntsAre.int_at z i its[i] (by rw[aT1];exact C);refine wD1 RU (?_:_);rw[Rz RV _];show dz _ A.in1 (P5 (.ref it) >>= _) _ _ s;refine wB1 (P9 st h C λh' st' B=>?_);rw[D];show dz _ A.in1 (PV [ab (ns.getD i 0) t] (setAdd p (.int (ns.getD i 0) t)) >>= _) _ _ _;refine wB1 (PY ?_);unfold setAdd;refine PY (wB1 (wpAny_pyHash_int ?_));have v:j5 b p ((ns.take i).foldl RH []) h':=u.old λo e=>by rw[B.2 p m];exact e
  have j:=pq (ns.take i) [];refine NW (s:={s with heap:=h',toks:=s.toks+1}) (k:=ns.getD i 0) v (by rw[aR,bf]at j;lia) λc h2 g f=>?_;have H:ns[i]?=Z (ns.getD i 0):=by rw[gG1 (by lia)];simp[List.getD,show i<ns.length by lia]
  have G:RH ((ns.take i).foldl RH []) (ns.getD i 0)=(ns.take (i+1)).foldl RH []:=by
   rw[cg,H,ci];rfl
  rw[G]at f;have y:∀c o,c≠p->c≠it->s.heap.get? c=Z o->h2.get? c=Z o:=λc o h1 n e=>by rw[g.2 c h1];show h'.get? c=_;rw[B.2 c n];exact e
  have keepIt:∀o,h'.get? it=Z o->h2.get? it=Z o:=λo e=>by rw[g.2 it (Py m)];exact e
  refine wP1 ⟨Ry RV _,ih (i+1) {s with heap:=h2,toks:=s.toks+1} (by lia) d (st'.at keepIt) ?_ f λn tk E F=>?_⟩
  ·obtain⟨o,e,r⟩:=h;exact⟨o,y l o (Py I) (Py ao) e,r⟩
  ·exact q n tk (λc o h1 x e=>E c o h1 x (y c o h1 x e)) F
theorem Af{s:dj}{l:dk}{its:Array di}{ns:List Int}{Q:di->dj->Prop}(n:A.handled=Y)(d:s.heap.IsList l its)(j:QU its.toList ns)(hb:ns.length+1<RI)(q:∀h' tk,(∀c o,s.heap.get? c=Z o->h'.get? c=Z o)->j5 (byT w) s.heap.objs.size (ddI ns) h'->Q (.ref s.heap.objs.size) {s with heap:=h',toks:=tk}):dz (PB P w) A (call (.type "set") [.ref l]) Q E s:=by
 have a:l<s.heap.objs.size:=by obtain⟨o,e,_⟩:=d;exact hL1 e
 refine Ad d λt g R p=>?_;have i:(s.heap.push (stO #[] 0 (.fresh 0 0 (!byT w)))).objs.size=s.heap.objs.size+1:=by rw[hZ1]
 have f:(s.heap.push (stO #[] 0 (.fresh 0 0 (!byT w)))).get? s.heap.objs.size=Z (stO #[] 0 (.fresh 0 0 (!byT w))):=hS1 _ O;refine Bk (its:=its) (ns:=ns) (b:=byT w) (g.trans n) j hb (nG1 a) (nN1 (bB _)) (nG1 (cj a)) _ 0 _ O (bi _) ?_ ?_ ?_ λh' tk k x=>p _ (q h' tk (λc o e=>k c o (nN1 (hL1 e)) (nN1 (cj (hL1 e))) (hP1 _ (hP1 _ e))) x)
 ·refine⟨{cls:=.type "list_iterator",data:=.fields #[.ref l,.int 0 0]},?_,O,O⟩;have this:((s.heap.push (stO #[] 0 (.fresh 0 0 (!byT w)))).push {cls:=.type "list_iterator",data:=.fields #[.ref l,.int 0 0]}).get? (s.heap.push (stO #[] 0 (.fresh 0 0 (!byT w)))).objs.size=Z {cls:=.type "list_iterator",data:=.fields #[.ref l,.int 0 0]}:=hS1 _ O;rw[i]at this;exact this
 ·obtain⟨o,e,r⟩:=d;exact⟨o,hP1 _ (hP1 _ e),r⟩
 ·refine⟨#[],0,_,!byT w,hP1 _ f,⟨λe m=>by simp at m,.refl _⟩,by decide,O,AU _,λh=>by rw[h];rfl⟩
end
theorem jD:Slot "set_iterator" "__next__" "set_iterator.__next__":=
 .of (owner:="set_iterator") (n:="__next__") (by rw[typeLookup_type,builtinLookup_eq_fast];kernel_rfl) (by decide+kernel) (by decide+kernel) (by decide+kernel) (by first|exact .inl (by decide+kernel)|exact .inr (by decide+kernel)) (by rw[isSubtype_type];kernel_rfl)
theorem rp:entryFor table "set_iterator.__next__"=Z Builtin.«set_iterator.__next__» :=entryFor_of_tree (by kernel_rfl)
theorem vv(x:di):argsOk "set_iterator.__next__" ⟨[x],[]⟩:=by unfold argsOk;kernel_rfl
theorem u7:entryFor table "set.__iter__"=Z Builtin.«frozenset.__iter__» :=entryFor_alias (id':="frozenset.__iter__") (by kernel_rfl) O (by decide+kernel) (by kernel_rfl)
abbrev KC(h:dB)(it a:dk)(f:di)(i n ep:Nat):Prop:=h.get? it=Z {cls:=.type "set_iterator",dict:=Y,data:=.fields #[f,.int i 0,.ref a,.int n 0,.int ep 0],slots:= #[]}
def mE(t:Q3)(i:Nat):Nat:=match i with
 |0=>0
 |i+1=>t.place.getD i 0+1
inductive vw (w:dr)(h:dB)(a:dk)(es:Array (Int×di))(ep:Nat)(t:Q3):di->Nat->List di->Prop
 |txt (b:byT w=true) (i:Nat) (sl:Nat):vw w h a es ep t (.int sl 0) i ((pickOrder (w.params.setOrder a ep) es).toList.map (·.2))
 |drw (b:byT w=false) (d:(!t.plain&&decide (es.size>1))=true) (i:Nat) (tp:dk) (ps:List Nat) (e:h.get? tp=some {cls:=.type "tuple",data:=.seq (ps.map λj=>ab (j:Nat) 0).toArray}) (pm:ps.Perm (af es.size)):vw w h a es ep t (.ref tp) i (ps.map λj=>(es[j]?.map (·.2)).getD .none)
 |plc (b:byT w=false) (d:(!t.plain&&decide (es.size>1))=false) (ld:t.led=true) (up:rV t.place) (i:Nat):vw w h a es ep t (.int (mE t i) 0) i (es.toList.map (·.2))
theorem qy{α:Type}(f:Nat->Nat):∀(n k:Nat) (l:List α) (out:Array α),l.length=n->(pickOrder.go f n k l out).toList.Perm (out.toList++l)
 |0,k,l,out,h=>by
  rw[pickOrder.go,List.length_eq_zero_iff.mp h,aN]
 |n+1,k,l,out,h=>by
  have b:f k%l.length<l.length:=ck _ (by lia);rw[pickOrder.go,gG1 b];refine(qy f n (k+1) _ _ (by rw[List.length_eraseIdx_of_lt b];lia)).trans ?_;rw[b9,bE];refine List.Perm.append_left _ ?_;have c:l=l.take (f k%l.length)++l[f k%l.length]::l.drop (f k%l.length+1):=by rw[List.getElem_cons_drop,cm]
  rw[cq];refine List.Perm.trans ?_ (List.Perm.of_eq c.symm);exact(List.perm_middle (l₁:=l.take (f k%l.length)) (l₂:=l.drop (f k%l.length+1)) (a:=l[f k%l.length])).symm
theorem vw.perm{w:dr}{h:dB}{a:dk}{es:Array (Int×di)}{ep:Nat}{t:Q3}{f:di}{i:Nat}{pl:List di}(y:vw w h a es ep t f i pl):pl.Perm (es.toList.map (·.2)):=by
 cases y with
 |txt=>exact(qy _ _ _ _ _ O).map _
 |drw _ _ _ d ps e c=>
  refine(c.map _).trans ?_;have:(af es.size).map (λj=>(es[j]?.map (·.2)).getD .none)=es.toList.map (·.2):=by
   apply bW;intro j;rw[gP1,gP1,aT1 (xs:=es)];by_cases b:j<es.size
   ·rw[cr b,oP1,aG1 b];rfl
   ·rw[bX (by simpa using b),cu (by lia)];rfl
  rw[this]
 |plc=>exact .refl _
theorem vw.len{w:dr}{h:dB}{a:dk}{es:Array (Int×di)}{ep:Nat}{t:Q3}{f:di}{i:Nat}{pl:List di}(y:vw w h a es ep t f i pl):pl.length=es.size:=by
 rw[y.perm.length_eq,lM1,aK]
section
variable{P:dn}{w:dr}{A:dq}{E:di->dj->Prop}{s:dj}{it a:dk}{f:di}{i ep:Nat}{es:Array (Int×di)}{t:Q3}{pl:List di}
theorem rX{Q:Bool->dj->Prop}(q:Q (byT w) s):dz (PB P w) A setsByText Q E s:=by unfold setsByText;exact wB1 (Q9 (wP1 q))
theorem Ba{sl:Nat}{Q:Option (di×Nat)->dj->Prop}(b:byT w=M)(ho:s.heap.get? a=Z (stO es ep t))(hf:t.fits es.size=M)(q:Q (((pickOrder (w.params.setOrder a ep) es)[i]?).map λe=>(e.2,sl)) s):dz (PB P w) A (setNext a sl i ep) Q E s:=by
 unfold setNext;refine wB1 (RP ho O hf (wB1 (rX ?_)));rw[b,ak O,aj (by simp)];refine wB1 ?_;unfold setWalk;refine wB1 (RP ho O hf (wB1 (rX ?_)));rw[b,ak O];exact wB1 (Q9 (wP1 (wP1 q)))
theorem GF(up:rV t.place)(hi:i<=t.place.size):RL t.place (mE t i)=i:=by
 cases i with
 |zero=>exact Dt up
 |succ j=>
  have a:j<t.place.size:=hi;show RL t.place (t.place.getD j 0+1)=j+1;rw[show t.place.getD j 0=t.place[j]from by simp[Array.getD,a]];exact GE up a
theorem Bb{Q:Option (di×Nat)->dj->Prop}(b:byT w=J)(d:(!t.plain&&decide (es.size>1))=J)(h:t.led=M)(up:rV t.place)(ho:s.heap.get? a=Z (stO es ep t))(hf:t.fits es.size=M)(hi:i<=es.size)(q:Q ((es[i]?).map λe=>(e.2,mE t (i+1))) s):dz (PB P w) A (setNext a (mE t i) i ep) Q E s:=by
 have j:t.place.size=es.size:=by
  unfold SetTable.fits at hf;rw[bA1,RW]at hf;exact hf.1
 unfold setNext;refine wB1 (RP ho O hf (wB1 (rX ?_)));rw[b,aj (by decide)];rw[aj (λz=>by have f:(!t.plain&&decide (es.size>1))=M:=z;rw[d]at f;cases f)];refine wB1 ?_;show dz _ _ (if(!t.led && !es.isEmpty)=M then _ else _) _ _ _;rw[aj (by rw[h];simp)];refine wP1 ?_;dsimp only;rw[GF up (by omega)];by_cases c:i<es.size
 ·rw [aG1 c] at q ⊢;rw [aG1 (show i<t.place.size by omega)];have g:mE t (i+1)=t.place[i]+1:=by
   show t.place.getD i 0+1=_;rw[show t.place.getD i 0=t.place[i]from by simp[Array.getD,show i<t.place.size by omega]]
  rw[g]at q;exact wP1 q
 ·rw[cu (by omega)]at q ⊢;exact wP1 q
theorem Eh{Q:Option di->dj->Prop}(h:KC s.heap it a f i es.size ep)(ho:s.heap.get? a=Z (stO es ep t))(hf:t.fits es.size=M)(y:vw w s.heap a es ep t f i pl){x:di}(hx:pl[i]? = Z x)(aq:∀ g,f = .ref g->g≠it)(q:∀h' k,KC h' it a k (i+1) es.size ep->(∀c o,c≠it->s.heap.get? c=Z o->h'.get? c=Z o)->vw w h' a es ep t k (i+1) pl->(∀g,k = .ref g->f = .ref g)->Q (Z x) {s with heap:=h'}):dz (PB P w) A (P5 (.ref it)) Q E s:=by
 have ao:s.TypeIs (.ref it) "set_iterator":=⟨_,h,O⟩;unfold P5;refine wB1 (Ri (QF (name:=QG "__next__") ao jD (wE1 jD ao rp ?_ (vv _))));refine wB1 (wP1 (wB1 (wpAny_fieldsOf h O ?_)));dsimp only;refine wB1 (wpAny_setEntries_of ho O hf ?_);rw[aj (by simp)];have N:i<es.size:=by have:=(R9 hx).1;rw[y.len]at this;exact this
 have n:∀ (k:di),(∀ g,k = .ref g->f = .ref g)->(∀ h',(∀ c o,c≠it->s.heap.get? c=some o->h'.get? c=some o)->vw w h' a es ep t k (i+1) pl) ->
   dz (PB P w) A.in1 (setField (.ref it) 0 k >>= fun _=>setField (.ref it) 1 (P8 ((i:Int)+1)) >>= fun _=>ret x) (fun D s'=>∃ v,D=Fin.done (Flow.ret v)/\dz (PB P w) A (pure (some v)) Q E s') (fun e s'=>dz (PB P w) A (do
     let y<-isInstance e (.type "StopIteration")
     if y=M then pure Y else throw e) Q E s') s:=λk L R=>by
  refine wB1 (wS1 h (by simp) λh1 av C=>wB1 (wS1 (s:={s with heap:=h1}) av (by simp) λh2 u l=>wP1 ⟨_,O,wP1 ?_⟩));have m:∀c o,c≠it->s.heap.get? c=Z o->h2.get? c=Z o:=λc o hc e=>l.extBut c o hc (C.extBut c o hc e);refine q h2 k ?_ m (R h2 m) L;have e:((i+1:Nat):Int)=(i:Int)+1:=by lia
  unfold KC;rw[e];simpa[P8]using u
 cases y with
 |txt b _ B=>
  refine wB1 (Ba (i:=i) (sl:=B) (ep:=ep) b ho hf ?_);rw[gP1,aT1]at hx;obtain⟨e,r,rfl⟩:=Sb hx;rw[r];exact n (.int B 0) (λg z=>by cases z) λh' _=>.txt b _ B
 |plc b d K up _=>
  refine wB1 (Bb (i:=i) b d K up ho hf (by lia) ?_);rw[gP1,aT1]at hx;obtain⟨e,r,rfl⟩:=Sb hx;rw[r];exact n (.int (mE t (i+1)) 0) (λg z=>by cases z) λh' _=>.plc b d K up _
 |drw b d _ g ps e I=>
  rw[gP1]at hx;obtain⟨j,H,rfl⟩:=Sb hx;have p:j<es.size:=by have:=I.mem_iff.mp (gM1 H);simpa using this
  refine wB1 (Re e O ?_);have F:((ps.map λj=>ab (j:Nat) 0).toArray)[((i:Int)).toNat]?=Z (.int (j:Nat) 0):=by
   rw[Qy,List.getElem?_toArray,gP1,H];rfl
  dsimp only;rw[F];dsimp only;refine wB1 ?_;unfold setNextDrawn;refine wB1 (RP ho O hf ?_);dsimp only;rw[aj (by simp),Qy,aG1 p];refine wP1 (wB1 (wS1 h (by simp) λh2 u l=>wP1 ⟨_,O,wP1 ?_⟩));have m:∀c o,c≠it->s.heap.get? c=Z o->h2.get? c=Z o:=λc o hc e=>l.extBut c o hc e;have G:=q h2 (.ref g) ?_ m (.drw b d _ g ps (m g _ (aq g O) e) I) λ_ z=>z
  ·rw[aG1 p]at G;exact G
  ·have e:((i+1:Nat):Int)=(i:Int)+1:=by lia
   unfold KC;rw[e];simpa[P8]using u
theorem vU{Q:Option di->dj->Prop}{G:Fin->dj->Prop}(d:A.handled=none)(q:∀ h',(∀ c o,s.heap.get? c=some o->h'.get? c=some o)->Q none {s with heap:=h'}):
  dz (PB P w) A.in1 (newExc (.type "StopIteration") [] >>= fun e=>raiseNew e) G (fun e s'=>dz (PB P w) A (do
     let y<-isInstance e (.type "StopIteration")
     if y=M then pure Y else throw e) Q E s') s:=by
 refine wB1 ?_;simp only[newExc,newTuple];refine wB1 (wO1 ?_ (by size_fits));refine wB1 (m:=Rg _ _) (Ra (a:=Pp) (by first|rfl|(simp only[Rg];rfl)) ?_);refine wO1 ?_ (by size_fits);simp only[raiseNew];refine wB1 (wpAny_handled ?_);rw[show A.in1.handled=Y from d];refine wB1 (wP1 (wpAny_throw (?_:_)));refine wB1 (Rn (b:=M) (T:="StopIteration") ⟨_,hS1 _ O,O⟩ Ro (?_:_));exact wP1 (q _ λb o e=>hP1 _ (hP1 _ e))
theorem HA{Q:Option di->dj->Prop}(p:A.handled=Y)(g:KC s.heap it a f es.size es.size ep)(ho:s.heap.get? a=Z (stO es ep t))(hf:t.fits es.size=M)(y:vw w s.heap a es ep t f es.size pl)(q:∀h',(∀c o,c≠it->s.heap.get? c=Z o->h'.get? c=Z o)->Q Y {s with heap:=h'}):dz (PB P w) A (P5 (.ref it)) Q E s:=by
 have u:s.TypeIs (.ref it) "set_iterator":=⟨_,g,O⟩;unfold P5;refine wB1 (Ri (QF (name:=QG "__next__") u jD (wE1 jD u rp ?_ (vv _))));refine wB1 (wP1 (wB1 (wpAny_fieldsOf g O ?_)));dsimp only;refine wB1 (wpAny_setEntries_of ho O hf ?_);rw[aj (by simp)];have l:=y.len;cases y with
 |txt b _ x=>
  refine wB1 (Ba (i:=es.size) (sl:=x) (ep:=ep) b ho hf ?_);rw[cu (by rw[lM1,aK]at l;lia)];refine wB1 (wS1 g (by simp) λh1 m h=>?_);exact vU (s:={s with heap:=h1}) p λh' k=>q h' λc o hc e=>k c o (h.extBut c o hc e)
 |plc b d v up _=>
  refine wB1 (Bb (i:=es.size) (ep:=ep) b d v up ho hf (nR1 _) ?_);rw[cu (nR1 _)];refine wB1 (wS1 g (by simp) λh1 m h=>?_);exact vU (s:={s with heap:=h1}) p λh' k=>q h' λc o hc e=>k c o (h.extBut c o hc e)
 |drw b d _ z ps e C=>
  refine wB1 (Re e O ?_);have r:((ps.map λj=>ab (j:Nat) 0).toArray)[((es.size:Int)).toNat]?=Y:=by
   rw[Qy,List.getElem?_toArray,bX (by rw[lM1]at l ⊢;lia)]
  dsimp only;rw[r];dsimp only;refine wB1 (wS1 g (by simp) λh1 m h=>?_);refine wB1 (wS1 (s:={s with heap:=h1}) m (by simp) λh2 B n=>?_);exact vU (s:={s with heap:=h2}) p λh' k=>q h' λc o hc e=>k c o (n.extBut c o hc (h.extBut c o hc e))
theorem Dk{b:Source}{n:Nat}{Q:Nat->dj->Prop}(hn:n≠0)(q:∀i c,i<n->Q i {s with drawn:=c}):dz (PB P w) A (choose b n) Q E s:=fun Γ p a=>by
 unfold choose;rw[Sem.wp_choose];refine⟨hn,?_⟩;exact wP1 (A:=A) (E:=E) (q _ _ (ck _ (Nat.pos_of_ne_zero hn))) Γ p a
theorem C9{α:Type}:∀(n:Nat) (xs:List α) (s:dj) (Q:List α->dj->Prop),xs.length=n->(∀ys b,ys.Perm xs->Q ys {s with drawn:=b})->dz (PB P w) A (drawOrder n xs) Q E s
 |0,xs,s,Q,h,q=>by
  have:=List.length_eq_zero_iff.mp h;subst this;exact wP1 (q [] s.drawn (.refl _))
 |n+1,[],s,Q,h,q=>by simp at h
 |n+1,x::xs,s,Q,h,q=>by
  rw[drawOrder];refine wB1 (Dk (by simp) λi b hi=>?_);rw[gG1 hi];dsimp only;refine wB1 (C9 n _ _ _ (by rw[List.length_eraseIdx_of_lt hi];lia) λys a d=>wP1 (q _ a ?_));refine(d.cons _).trans ?_;have c:x::xs=(x::xs).take i++(x::xs)[i]::(x::xs).drop (i+1):=by rw[List.getElem_cons_drop,cm]
  rw[cq];refine List.Perm.trans ?_ (List.Perm.of_eq c.symm);exact List.perm_middle.symm
  all_goals simp
theorem Ej{l:Bool}{Q:di->dj->Prop}(ho:s.heap.get? a=some (stO es ep t))(hf:t.fits es.size=true)(hz:es.size<RI)(y:TS l t)(F:byT w=false->l=true)(q:∀it h' h f pl,(∀c o,s.heap.get? c=some o->h'.get? c=some o)->s.heap.objs.size<=it->KC h' it a f 0 es.size ep->vw w h' a es ep t f 0 pl->(∀b,f = .ref b->b≠it/\s.heap.objs.size<=b)->Q (.ref it) {s with heap:=h',drawn:=h}):
  dz (PB P w) A (P7 (.ref a)) Q E s:=by
 have B:s.TypeIs (.ref a) "set":=⟨_,ho,rfl⟩;refine wpAny_pyIter_slot B PySem.F.slot_set_iter (wE1 PySem.F.slot_set_iter B u7 ?_ (PySem.F.args_set_iter_1 _));unfold Builtin.«frozenset.__iter__»;refine wB1 (m:=Builtin.Frozenset.slot0 _ _) (wP1 ?_);unfold Builtin.Frozenset.sizeOf;refine wB1 (wB1 (wpAny_setEntries_of ho rfl hf (wP1 ?_)));unfold setDrawn;refine wB1 (wB1 (RP ho rfl hf (wB1 (rX (wP1 ?_)))));show dz _ _ (if (!byT w&&(!t.plain&&decide (es.size>1)))=true then _ else _) _ _ _;have d:∀ (h1:dB) (h:Drawn) (f:di) (pl:List di),(∀ c o,s.heap.get? c=some o->h1.get? c=some o)->s.heap.objs.size<=h1.objs.size->(∀ b,f = .ref b->b<h1.objs.size/\s.heap.objs.size<=b)->(∀ h',(∀ c o,h1.get? c=some o->h'.get? c=some o)->vw w h' a es ep t f 0 pl) ->
   dz (PB P w) A.in1 (setEpoch a >>= λe=>newFields "set_iterator" [f,P8 0,.ref a,P8 es.size,P8 e] >>= λr=>ret r) (λd s'=>∃r,d=Fin.done (Flow.ret r) /\ ∃T g,s'.TypeIs r T/\typeLookup (.type T) "__next__"=pure (Z g)/\Q r s') E {s with heap:=h1,drawn:=h}:=by
  intro h1 h f pl C v u G;refine wB1 (wpAny_setEpoch_of (C a _ ho) O hf (wB1 (wO1 (wP1 ⟨_,O,"set_iterator",_,⟨_,hS1 _ O,O⟩,jD.lookup,?_⟩) (by size_fits))));refine q h1.objs.size _ h f pl (λc o e=>hP1 _ (C c o e)) v ?_ (G _ λc o e=>hP1 _ e) λb e=>⟨nN1 (u b e).1,(u b e).2⟩;have:=hS1 h1 (o:={cls:=.type "set_iterator",data:=.fields #[f,.int 0 0,.ref a,.int es.size 0,.int ep 0]}) O;exact this
 by_cases n:byT w=M
 ·rw[aj (by rw[n];simp)];refine wB1 (wP1 ?_);exact d s.heap s.drawn _ _ (λ_ _ e=>e) (nR1 _) (λb z=>by cases z) λh' _=>.txt n 0 0
 ·have n:byT w=J:=by simpa using n
  by_cases p:(!t.plain&&decide (es.size>1))=M
  ·rw[ak (by rw[n,p];rfl)];refine wB1 (C9 es.size (af es.size) s _ (by simp) λys h D=>?_);refine wB1 (m:=newTuple _) (wO1 (s:={s with drawn:=h}) ?_ ?_)
   ·refine d (s.heap.push {cls:=.type "tuple",data:=.seq (ys.map λ(i:Nat)=>P8 i).toArray}) h (.ref s.heap.objs.size) (ys.map λj=>(es[j]?.map (·.2)).getD .none) (λc o e=>hP1 _ e) (by rw[hZ1];exact aX _) (λb z=>by cases z;exact⟨by rw[hZ1];exact bB _,nR1 _⟩) λh' k=>?_;exact .drw n p 0 _ ys (k _ _ (hS1 _ O)) D
   ·have:=D.length_eq;have x:=RT hz;simp[sizeOk,this,x]
  ·have p:(!t.plain&&decide (es.size>1))=J:=by simpa using p
   rw[aj (by rw[p];simp)];refine wB1 (wP1 ?_);exact d s.heap s.drawn _ _ (λ_ _ e=>e) (nR1 _) (λb z=>by cases z) λh' _=>.plc n p (by rw[y.ld];exact F n) y.up 0
end
theorem vw.keep{w:dr}{h h':dB}{a:dk}{es:Array (Int×di)}{ep:Nat}{t:Q3}{f:di}{i:Nat}{pl:List di}(y:vw w h a es ep t f i pl)(k:∀c o,f = .ref c->h.get? c=Z o->h'.get? c=Z o):vw w h' a es ep t f i pl:=by
 cases y with
 |txt b _ l=>exact .txt b _ l
 |drw b d _ c ps e j=>exact .drw b d _ c ps (k c _ O e) j
 |plc b d g up _=>exact .plc b d g up _
section
variable{P:dn}{w:dr}{A:dq}{E:di->dj->Prop}
theorem Ei{it a S:dk}{ep:Nat}{es:Array (Int×di)}{t:Q3}{pl:List di}{p:di}{R:Qm->dj->Prop}(V:A.handled=none)(hf:t.fits es.size=true)(h1:it≠a)(h2:S≠a)(H:S≠it)(hn:es.size<=dy):
  ∀(k i:Nat) (s:dj) (f:di) (acc:Array di) (c:Nat),es.size-i=k->i<=es.size->KC s.heap it a f i es.size ep->s.heap.get? a=Z (stO es ep t)->vw w s.heap a es ep t f i pl->(∀g,f = .ref g->g≠it/\g≠S) ->
  s.heap.get? S=Z {cls:=.type "list",dict:=Y,data:=.seq acc c,slots:= #[]}->acc.toList=pl.take i ->
  (∀h' d G,(∀b u,b≠it->b≠S->s.heap.get? b=Z u->h'.get? b=Z u)->h'.get? S=Z {cls:=.type "list",dict:=Y,data:=.seq d G,slots:= #[]}->d.toList=pl->R (.ok (.ret p)) {s with heap:=h'}) ->
  dA (PB P w) A (.builtin "list.extend.loop" ⟨[.ref S,.ref it,p],[]⟩) R s:=by
 intro k
 induction k with
 |zero=>
  intro i s f acc c U hi l D y C L E aq;have e:i=es.size:=by lia
  subst e;have j:=y.len;refine wD1 PySem.F.entry_extend_loop (?_:_);rw[Rz RX _];show dz _ A.in1 (P5 (.ref it) >>= _) _ _ s;refine wB1 (HA V l D hf y λh' keep=>wP1 ?_);exact aq h' acc c (λb u n _ e=>keep b u n e) (keep S _ H L) (by rw[E,<- j,bU])
 |succ k ih=>
  intro i s f acc c U hi l D y C L E aq;have I:i<es.size:=by lia
  have j:=y.len;obtain⟨x,av⟩:∃x,pl[i]?=some x:=⟨_,gG1 (by lia)⟩;have v:acc.size=i:=by rw[<- aK,E,aR];lia
  refine wD1 PySem.F.entry_extend_loop (?_:_);rw[Rz RX _];show dz _ A.in1 (P5 (.ref it) >>= _) _ _ s;refine wB1 (Eh l D hf y av (λg e=>(C g e).1) λh' Q r keep T N=>?_);have B:=keep S _ H L;show dz _ A.in1 (updateSeq S (·.push x) >>= _) _ _ _;refine wB1 (wpAny_updateSeq (s:={s with heap:=h'}) B O ?_ (by rw[v];lia) (by show(acc.push _).size<=dy+1;rw[Array.size_push,v];lia));have h:∀b u,b≠S->h'.get? b=Z u->(h'.update S (QM (·.push x))).get? b=Z u:=λb u n e=>by rw[hU1 _ _ _ _ n];exact e
  refine wP1 ⟨Ry RX _,ih (i+1) {s with heap:=h'.update S (QM (·.push x))} Q (acc.push x) _ (by lia) I (h it _ (Py H) r) (h a _ (Py h2) (keep a _ (Py h1) D)) (T.keep λg o e q=>h g o (C g (N g e)).2 q) (λg e=>C g (N g e)) (hW1 _ B O) ?_ ?_⟩
  ·rw[b9,E,cg,av];rfl
  ·intro F d G m K ao;exact aq F d G (λb u n z e=>m b u n z (h b u z (keep b u n e))) K ao
theorem Bm:typeLookup (.type "set") "__len__"=pure (Z (.builtin "set.__len__")):=by rw[typeLookup_type,builtinLookup_eq_fast];kernel_rfl
theorem Ek {s:dj}{v:dk}{Q:Bool->dj->Prop}(c:s.TypeIs (.ref v) "set")(q:Q J s):dz (PB P w) A (Builtin.List.listLengthHint (.ref v)) Q E s:=by
 unfold Builtin.List.listLengthHint;refine wB1 (RB c Bm (?_:_));generalize a:("set.__len__":String)=id0
 wp_delta
 rw[show splitId id0=Z ("set","__len__")from by subst a;decide+kernel];subst a;refine wB1 (Rn (b:=M) c (by rw[isSubtype_type];kernel_rfl) (?_:_));rw[aj (by decide)];dsimp only;rw[ak (by decide+kernel)];exact wB1 (QJ c (wP1 q))
theorem vN{s:dj}{a:dk}{ns:List Int}{Q:List di->dj->Prop}(wq:A.handled=Y)(hx:j5 (byT w) a ns s.heap)(q:∀h' p vs N,(∀b u,s.heap.get? b=Z u->h'.get? b=Z u)->s.heap.objs.size<=h'.objs.size->QU vs N->N.Perm ns->Q vs {s with heap:=h',drawn:=p}):dz (PB P w) A (collect (.ref a)) Q E s:=by
 obtain⟨es,ep,t,l,G,av,S,R,ts,au⟩:=hx;have n:a<s.heap.objs.size:=hL1 G;unfold collect;refine wB1 (wpAny_runValue (wD1 PySem.F.entry_proto_collect (?_:_)));rw[Rz PySem.F.plain_proto_collect _];show dz _ A.in1 (newList [] >>= λl=>again (.builtin "list.__iadd__" ⟨[l,.ref a],[]⟩)) _ _ s;refine wB1 (wO1 (?_:_));refine wP1 ⟨Ry PySem.F.plain_list_iadd _,wD1 PySem.F.entry_list_iadd (?_:_)⟩;rw[Rz PySem.F.plain_list_iadd _];have B:(s.heap.push {cls:=.type "list",data:=.seq ([]:List di).toArray}).get? s.heap.objs.size=Z {cls:=.type "list",data:=.seq ([]:List di).toArray}:=hS1 _ O;have h:∀b u,s.heap.get? b=Z u->(s.heap.push {cls:=.type "list",data:=.seq ([]:List di).toArray}).get? b=Z u:=λb u e=>hP1 _ e;have r:(s.heap.push {cls:=.type "list",data:=.seq ([]:List di).toArray}).objs.size=s.heap.objs.size+1:=by rw[hZ1]
 have L:s.heap.objs.size≠a:=nG1 n;have h1:Builtin.List.listSameRef (.ref s.heap.objs.size) (.ref a)=J:=by simp[Builtin.List.listSameRef,L]
 show dz _ A.in1 (Builtin.List.listExtendWith (.ref s.heap.objs.size) (.ref a) (.ref s.heap.objs.size)) _ _ {s with heap:=s.heap.push {cls:=.type "list",data:=.seq ([]:List di).toArray}};generalize s.heap.push {cls:=.type "list",data:=.seq ([]:List di).toArray}=h₁ at *
 unfold Builtin.List.listExtendWith;refine wB1 (QJ (T:="set") ⟨_,h a _ G,O⟩ ?_);rw[aj (by rw[h1];decide)];refine wB1 (Ej (s:={s with heap:=h₁}) (h a _ G) R S ts au λit d p f pl g c K y F=>?_);dsimp only at g c F;have i:=g _ _ B;have x:Shared.TypeIs {s with heap:=d,drawn:=p} (.ref a) "set":=⟨_,g _ _ (h a _ G),O⟩;refine wB1 (PY (Ek x ?_));rw[ak (by decide+kernel)];refine wB1 (P2 (wB1 ?_));show dz _ A.in1 (updateSeq s.heap.objs.size (·.push .none) >>= λ_=>updateSeq s.heap.objs.size (·.pop)) _ _ _;refine wB1 (wpAny_updateSeq (s:={s with heap:=d,drawn:=p}) i O ?_);have j:=hW1 (QM (·.push Pp)) i O;refine wpAny_updateSeq (s:={s with heap:=d.update s.heap.objs.size (QM (·.push Pp)),drawn:=p}) j O ?_;have z:=hW1 (QM (·.pop)) j O;have m:∀b u,b≠s.heap.objs.size->d.get? b=Z u->((d.update s.heap.objs.size (QM (·.push Pp))).update s.heap.objs.size (QM (·.pop))).get? b=Z u:=λb u C e=>by
  rw[hU1 _ _ _ _ C,hU1 _ _ _ _ C];exact e
 rw[r]at c F;have aq:=y.perm;refine wP1 ⟨Ry RX _,Ei (it:=it) (pl:=pl) wq R (nG1 (bh n c)) (nG1 n) (nN1 c) (RT S) es.size 0
  {s with heap:=(d.update s.heap.objs.size (QM (·.push Pp))).update s.heap.objs.size (QM (·.pop)),drawn:=p} f _ _ O (bi _) (m _ _ (nG1 c) K) (m a _ (nN1 n) (g _ _ (h a _ G))) (y.keep λH o e q=>m H o (nG1 (F H e).2) q) (λH e=>⟨(F H e).1,nG1 (F H e).2⟩) z O λh' D c' keep I X=>?_⟩
 show dz _ A (load s.heap.objs.size >>= _) _ _ {s with heap:=h',drawn:=p};refine wB1 (wpAny_load I ?_);have W:∀v∈pl,∃k t,v=ab k t:=λv ao=>by
  obtain⟨e,U,rfl⟩:=cf.mp (aq.mem_iff.mp ao);obtain⟨k,t,rfl⟩:=av.el e U;exact⟨k,t,O⟩
 have all:∀vs:List di,(∀v∈vs,∃k t,v=ab k t)->QU vs (vs.map λv=>NG (0,v)):=by
  intro vs
  induction vs with
  |nil=>intro _;exact .nil
  |cons v vs ih=>
   intro ao;obtain⟨k,t,rfl⟩:=ao v mS1;exact .cons k t (ih λu V=>ao u (mC1 _ V))
 refine wP1 (q h' p D.toList (pl.map λv=>NG (0,v)) (λb u e=>?_) (Nat.le_of_lt (hL1 I)) (by rw[X];exact all pl W) ?_)
 ·have C:=hL1 e;exact keep b u (nN1 (bh C c)) (nN1 C) (m b u (nN1 C) (g _ _ (h b u e)))
 ·refine(aq.map _).trans ?_;rw[bu];exact av.pm
theorem t0 {s:dj}{a:dk}{ns:List Int}{Q:di->dj->Prop}(r:A.handled=none)(hx:j5 (byT w) a ns s.heap)(g:ns.length<64)
  (q:∀h' d L n out,(∀b u,s.heap.get? b=Z u->h'.get? b=Z u)->s.heap.objs.size<=L->h'.get? L=Z (seqObj "list" out n)->QU out.toList (iC ns)->Q (.ref L) {s with heap:=h',drawn:=d}):
  dz (PB P w) A (call (.builtin "sorted") [.ref a]) Q E s:=by
 refine Calls.call_function_entry kind_sorted plain_sorted entry_sorted (args_sorted1 _) (?_:_);unfold Builtin.«sorted»;refine wB1 (m:=checkCount "sorted" 1 1 _) (wP1 (wB1 (vN r hx λh' d vs t keep o k l=>?_)));have f:vs.length<64:=by rw[k.length,l.length_eq];exact g
 refine wB1 (wpAny_newList (hsz:=by rw[Qh];lia) ?_);have c:(h'.push (seqObj "list" vs.toArray 0)).get? h'.objs.size=Z (seqObj "list" vs.toArray 0):=hS1 _ O;show dz _ _ _ _ _ {s with heap:=h'.push (seqObj "list" vs.toArray 0),drawn:=d};refine wB1 (PY (wE1 slot_list_sort ⟨_,c,O⟩ entry_list_sort (list_sort_tree (s:={s with heap:=h'.push (seqObj "list" vs.toArray 0),drawn:=d}) c k f λout j a1 a2 a3=>⟨_,O,?_⟩) (args_list_sort _)));have p:j=iC ns:=nQ (a2.trans (l.trans (fJ ns).symm)) a3 (jC ns);subst p;obtain⟨n,h⟩:=sortedHeap_at (out:=out) c;refine wP1 ⟨_,O,q _ d h'.objs.size n out (λb u e=>?_) o h a1⟩;have i:=keep b u e;show(sortedHeap (h'.push (seqObj "list" vs.toArray 0)) h'.objs.size vs out).get? b=Z u;rw[sortedHeap_old (nN1 (hL1 i)) (by rw[hZ1];exact cj (hL1 i))];exact hP1 _ i
end
def i7:G1:=λd S=>match dZ S d with
 |some (M,xs)=>(jj xs).bind λns=>if ns.length<64 then Z (.ref S.length,S++[.lst ((iC (ddI ns)).map D.int)])else Y
 |_=>Y
def Li(X:Cx)(vs:List V)(H:Hp)(Q:VK):Prop:=∃a xs ns,vs=[.ref a]/\mX X.K H a xs/\(∀us,ee xs us->QU us ns)/\ns.length+1<RI /\ ∀p,H p=Y->Q (.ref p) (upd H p (.ext (j5 (byT X.w) p (ddI ns))))
def Ia(X:Cx)(vs:List V)(H:Hp)(Q:VK):Prop:=∃a ns,vs=[.ref a]/\H a=Z (.ext (j5 (byT X.w) a ns))/\ns.length<64 /\ ∀p,H p=Y->Q (.ref p) (upd H p (.lst ((iC ns).map V.int)))
theorem zG{ag:List (dk×Obj)}{σ:L2.St}{H:Hp}{s:dj}(I:Inv X ag σ H s)(d:Drawn):Inv X ag σ H {s with drawn:=d}:=⟨I.ok,I.os,I.bare,I.base,I.loc,I.cell,I.free,I.freeC,I.pin,I.hok,I.len⟩
theorem Ki(hc:X.calm=M):eQ X (.type "set") (Li X):=by
 intro ag s σ H xs m Q I r h;obtain⟨a,vs,ns,rfl,j,hi,i,q⟩:=h;obtain⟨u,rfl,r2⟩:=iR r;cases r2;obtain⟨b,f,p,n⟩:=I.list j;have g:=hi b f;refine Af (I.ok.hd hc) p.isList (by simpa using g) i λh' tk keep d=>?_;have c:=I.hok.fresh (nR1 s.heap.objs.size);refine⟨.ref s.heap.objs.size,_,I.laid (t':=tk) (o:=.ext (j5 (byT X.w) s.heap.objs.size (ddI ns))) keep (nR1 _) ⟨d,?_,λh1 h2 x k=>x.old k⟩,O,q _ c⟩;obtain⟨es,ep,t,l,e,_⟩:=d;exact⟨_,e⟩
theorem GC(hc:X.calm=M):eQ X (.builtin "sorted") (Ia X):=by
 intro ag s σ H xs k Q I r h;obtain⟨a,ns,rfl,f,j,q⟩:=h;obtain⟨u,rfl,r2⟩:=iR r;cases r2;obtain⟨i,_⟩:=(show eP X.prog X.w H s.heap a (.ext (j5 (byT X.w) a ns))from I.hok a _ f);refine t0 (I.ok.hd hc) i j λh' e L n out keep d b g=>?_;have c:=I.hok.fresh d;refine⟨.ref L,_,zG (I.laid (t':=s.toks) (o:=.lst ((iC ns).map V.int)) keep d ⟨?_,out.toList,n,rf g,by rw[Array.toArray_toList];exact b⟩) e,O,q _ c⟩;rw[lM1,(fJ ns).length_eq,Qh];lia
theorem Md(ns:List Int):(ddI ns).length<=ns.length:=by
 have:=pq ns [];unfold ddI;simpa using this
theorem qm (hc:X.calm=true){o:Expr}{m:FE}{p p2 pos b:Pos}(hg:Gl X "sorted")(hm:X.mg "sorted"=none)(hg2:Gl X "set")(hm2:X.mg "set"=none)(ho:XE X o m)
  (he:autoParam (dw [.Call (.Name "set" p2) [o] [] b] X.env=[(J,eval (.Call (.Name "set" p2) [o] [] b) X.env)]) cu0) (e:autoParam (dw [o] X.env=[(J,eval o X.env)]) cu0):XE X (.Call (.Name "sorted" p) [.Call (.Name "set" p2) [o] [] b] [] pos) (mN (b1 i7) (dG m dH)):=
 ⟨eM (lM (GC hc) hg hm (by decide+kernel) (iE (kj (Ki hc) hg2 hm2 (by decide+kernel) (iE ho.h lh e) (he:=e)) lh he) (he:=he)) <| by
  rintro σ H Q ⟨r,mu,S,d,D,he,l,hm,g⟩;obtain⟨⟨ds,E⟩,f,hm⟩:=Sa hm;obtain⟨⟨A,F⟩,y,f⟩:=Sa f;cases f;dsimp only[b1,i7]at hm;split at hm
  ·rename_i xs z;obtain⟨ns,n,hm⟩:=Sa hm;split at hm
   ·rename_i j;cases hm;refine⟨r,mu,S,A,_,he,l,y,λv H1 mu1 x s i=>?_⟩;obtain⟨a,vs,rfl,q,t⟩:=dW s i z;refine⟨a,vs,ns,O,q,λC B=>(mM t B n).1,bh (Nat.succ_lt_succ j) (by decide),λp h=>?_⟩;refine⟨p,ddI ns,O,d9,bF (Md ns) j,λp2 c=>?_⟩;have w:Ext mu1 mu1 H1 (upd H1 p (.ext (j5 (byT X.w) p (ddI ns)))):=Ext.fresh h;have k:=i.fresh (u:=.ext (j5 (byT X.w) p (ddI ns))) h;exact g _ _ (mu1++[p2]) (x.trans (w.trans (Ext.new_ c))) (.ref (hO k.len _)) (k.newL (kh _) c)
   ·cases hm
  ·cases hm⟩
section
variable{ag:List (dk×Obj)}{σ:L2.St}{H:Hp}{s:dj}{a:dk}{kvs:List (Key×V)}{k:Key}{v:V}{u r:di}{A:dq}{E:di->dj->Prop}
theorem Ke{Q:di->dj->Prop}(I:Inv X ag σ H s)(e:H a=Z (.dK kvs))(l:kvs.length<dy)(x:d4 (kV k) u)(p:d4 v r)(h1:∀z,hA kvs k=Z z -> ∀g s',Inv X ag σ H s'->d4 z g->Q g s')(h2:hA kvs k=Y -> ∀s',Inv X ag σ (upd H a (.dK (hW kvs k v))) s'->Q r s'):dz (PB X.prog X.w) A (call (.builtin "dict.setdefault") [.ref a,u,r]) Q E s:=by
 obtain⟨z,i,vs,b,j⟩:=va I.hok e;refine call_meetsIn PySem.F.slot_dict_setdefault j.typeIs PySem.F.entry_dict_setdefault (PySem.F.args_dict_setdefault_3 _ _ _) (kt_meets_setdefault (e9 X.prog X.w) a (pc x) i r) ⟨vs,j,by rw[<- b.length];exact z,λy c=>?_,λm h' d n=>?_⟩
 ·cases ev:hA kvs k with
  |none=>
   have:=b.val k;rw[ev,c]at this;cases this
  |some z=>
   obtain⟨g,h,f⟩:=mY.some_of (v:=z) (o:=QV vs k) (by rw[<- ev];exact b.val k);rw[h]at c;cases c;exact h1 z ev _ _ (I.tok _) f
 ·cases ev:hA kvs k with
  |some z=>
   obtain⟨g,h,f⟩:=mY.some_of (v:=z) (o:=QV vs k) (by rw[<- ev];exact b.val k);rw[h]at m;cases m
  |none=>
   have w:(hW kvs k v).length<=dy:=by have:=iG kvs k v;lia
   have t:∃q,h'.get? a=Z q:=let ⟨q,_,_,hq,_⟩:=d;⟨q,hq⟩
   exact h2 ev _ (kA I (by rw[e];exact Qk) n t (wH w i (b.put k p) d))
end
def Nj(td ty tx:TE):TE:=fun σ H Q=>td σ H λx H1=>∃a,x = .ref a/\N9 H1 a/\ty σ H1 λy H2=>tx σ H2 λz H3=>∃kvs k,H3 a=Z (.dK kvs)/\kvs.length<dy/\y=kV k /\
 (∀v,hA kvs k=Z v->Q v H3)/\(hA kvs k=Y->Q z (upd H3 a (.dK (hW kvs k z))))
theorem IF {o e f:Expr}{apos cpos:Pos}{td ty tx:TE}(ho:PE X o td)(he:PE X e ty)(hf:PE X f tx)(m:M2 X o "setdefault" apos e f cpos):PE X (.Call (.Attribute o "setdefault" apos) [e,f] [] cpos) (Nj td ty tx):=by
 intro ag s σ H Q I h;refine wpAny_Call_method m.base m.few m.line PySem.F.plainAttrs_dict PySem.F.slot_dict_setdefault PySem.F.type_dict_setdefault (fh (ho ag s σ H _ I h) λu D ⟨x,H1,c,i,a,ex,d,F⟩=>?_);subst ex;obtain rfl:u=Pr a:=i;obtain⟨p,B,_⟩:=JW c d;refine⟨p,B,?_⟩;rw[m.trees];refine QS O (QT (Calls.spliced_cons (fh (he ag D σ H1 _ c F) λN ao ⟨y,H2,j,A,n⟩=>
  Calls.spliced_cons (fh (hf ag ao σ H2 _ j n) λaq K ⟨z,t,C,g,kvs,k,G,el,w,q,E⟩=>Calls.spliced_nil ?_))))
 subst w;exact Ke C G el A g (λv l L s' b r=>⟨v,t,b,r,q v l⟩) λl s' b=>⟨z,_,b,g,E l⟩
def oY(m a b:FE):FE:=λr S=>(m r S).bind λp=>match p.1 with
 | .ref n=>match p.2[n]? with
  |some (.dct _)=>(a r p.2).bind λq=>(b r q.2).bind λt=>match t.2[n]? with
   |some (.dct kvs)=>(nI q.1).bind λk=>if kvs.length<dy then Z (match dU kvs k with|some z=>(z,t.2)|none=>(t.1,t.2.set n (.dct (gU kvs k t.1))))else none
   |_=>Y
  |_=>Y
 |_=>Y
theorem Ef {o e f:Expr} {apos cpos:Pos} {m a b:FE} (ho:XE X o m) (he:XE X e a) (hf:XE X f b) (hm:M2 X o "setdefault" apos e f cpos:=by exact⟨O,O,O,O⟩):XE X (.Call (.Attribute o "setdefault" apos) [e,f] [] cpos) (oY m a b):=
 ⟨eM (IF ho.h he.h hf.h hm) <| by
  rintro σ H Q ⟨r,mu,S,d,S',he,G,hm,hc⟩;obtain⟨⟨W,A⟩,F,hm⟩:=Sa hm;refine⟨r,mu,S,W,A,he,G,F,λv1 H1 mu1 l aq D=>?_⟩;dsimp only at hm;split at hm
  ·rename_i n;split at hm
   ·rename_i ao w;cases aq with
    | @ref _ L C=>
     refine⟨L,O,JV D C w,?_⟩;obtain⟨⟨av,E⟩,T,hm⟩:=Sa hm;obtain⟨⟨R,P⟩,U,hm⟩:=Sa hm;refine⟨r,mu1,A,av,E,he.ext l,D,T,λv2 H2 s p r2 wq=>?_⟩;refine⟨r,s,E,R,P,(he.ext l).ext p,wq,U,λN t g i B q=>?_⟩;dsimp only at hm;split at hm
     ·rename_i kvs V;obtain⟨k,I,hm⟩:=Sa hm;split at hm
      ·rename_i au;have hm:=Option.some.inj hm;have h:=i.at (p.at C);obtain⟨ws,u,x⟩:=q.dct V h;have lk:=x.look (k:=k);refine⟨ws,k,u,by rw[<- x.length];exact au,ku (r2.ext i) I,λv j=>?_,λj=>?_⟩
       ·cases e:dU kvs k with
        |none=>have:=lk.2;rw[e]at this;simp[j]at this
        |some z=>
         rw[e]at hm;cases hm;obtain⟨K,c,y⟩:=lk.1 _ e;rw[j]at c;cases c;exact hc _ t g ((l.trans p).trans i) y q
       ·cases e:dU kvs k with
        |some z=>
         obtain⟨K,c,y⟩:=lk.1 _ e;rw[j]at c;cases c
        |none=>
         rw[e]at hm;cases hm;have put:Ext g g t (upd t _ (.dK (hW ws k N))):=Ext.put u trivial (gM1 h);exact hc _ _ g (((l.trans p).trans i).trans put) (B.ext put) (q.put h u trivial ⟨_,d9,(x.put B).ext put⟩)
      ·cases hm
     ·cases hm
   ·cases hm
  ·cases hm⟩
open AutoSeq1 (wpAny_loadPart')
section
variable{prog:dn}{w:dr}{A:dq}{E:di->dj->Prop}{s:dj}
end
section
variable{P:dn}{w:dr}{A:dq}{E:di->dj->Prop}{s:dj}
set_option maxHeartbeats 3200000 in
theorem Ac {l:dk}{its:Array di}{Q:di->dj->Prop}(H:s.heap.IsTuple l its)
  (h:∀j:dq,j.handled=A.handled -> ∀R:Qm->dj->Prop,(∀s',Q (.ref s.heap.objs.size) s'->R (.ok (.ret .none)) s') ->
   dA (PB P w) j (.builtin "set.update.loop" ⟨[.ref s.heap.objs.size,.ref (s.heap.objs.size+1)],[]⟩) R {s with heap:=(s.heap.push (stO #[] 0 (.fresh 0 0 (!byT w)))).push {cls:=.type "tuple_iterator",data:=.fields #[.ref l,.int 0 0]}}):
  dz (PB P w) A (call (.type "set") [.ref l]) Q E s:=by
 obtain⟨av,aq,k⟩:=PySem.F.called_set.mro;have i:=PySem.F.called_set.made;have o:=PySem.F.called_set.sub
 refine wpAny_call (Q8 (?_:dz _ _ (callAny (.type "set") _) _ _ _));refine wP1 ⟨Code.quiet_builtin _ (by decide+kernel),wD1 PySem.F.entry_type_call (?_:_)⟩;rw[Around.under_plain (weight_type_call_type "set" [.ref l] []) O];have N:=PySem.F.called_set.notType;have L:=PySem.F.called_set.canCreate;have S:=PySem.F.typeCall_set_1 (.ref l)
 repeat(any_goals (first|wp_step|assumption))
 refine Qn (xL (.ref l) (E:=E) (G:=λx m=>x = .ref s.heap.objs.size/\m={s with heap:=s.heap.push (stO #[] 0 (.fresh 0 0 (!byT w)))}) ⟨O,O⟩) λr m g=>?_;cases r with
 |error e=>exact g
 |ok u=>
  cases u with
  |ret x=>
   obtain⟨rfl,rfl⟩:=g;have n:(s.heap.push (stO #[] 0 (.fresh 0 0 (!byT w)))).get? s.heap.objs.size=Z (stO #[] 0 (.fresh 0 0 (!byT w))):=hS1 _ O;have B:Shared.TypeIs {s with heap:=s.heap.push (stO #[] 0 (.fresh 0 0 (!byT w)))} (.ref s.heap.objs.size) "set":=⟨_,n,O⟩;have W:=PySem.F.called_set.init.lookup;have U:=PySem.F.called_set.init.bind (.ref s.heap.objs.size)
   repeat(any_goals (first|wp_step|assumption))
   refine Qn (codeAny_call_builtin (R:=wants (λr t=>r = .none/\Q (.ref s.heap.objs.size) t) E) PySem.F.called_set.init.plain PySem.F.entry_set_init (check_set_init_1 B (?_:_))) λr2 t a=>?_
   ·obtain⟨y,f,c,p,b⟩:=H;obtain⟨ao,v,V,D⟩:=y;simp only at c b;subst c;subst b;have F:(s.heap.push (stO #[] 0 (.fresh 0 0 (!byT w)))).get? l=Z {cls:=.type "tuple",dict:=v,data:=.seq its p,slots:=D}:=hP1 _ f;have T:=PySem.F.sub_tuple_set;have K:=PySem.F.sub_tuple_frozenset;have X:(Ps "tuple" == Ps "dict")=J:=by decide
    have C:(s.heap.push (stO #[] 0 (.fresh 0 0 (!byT w)))).IsTuple l its:=⟨_,F,O,p,O⟩;have I:(s.heap.push (stO #[] 0 (.fresh 0 0 (!byT w)))).get? s.heap.objs.size=Z {cls:=.type "set",dict:=Y,data:=.set #[] 0 (.fresh 0 0 (!byT w)),slots:= #[]}:=n;unfold Builtin.«set.__init__» noKeywords Builtin.Frozenset.updateFrom;generalize d:P7=PI
    wp_walk
    subst d;refine wpAny_pyIter_tuple C (wB1 (wpAny_runValue (?_:_)));dsimp only;rw[show(s.heap.push (stO #[] 0 (.fresh 0 0 (!byT w)))).objs.size=s.heap.objs.size+1 from by rw[hZ1]];refine h A.in1.in1 (by simp) _ λs' q=>?_;exact wP1 (wP1 ⟨O,q⟩)
   ·cases r2 with
    |error e=>exact a
    |ok z=>
     cases z with
     |ret r=>
      obtain⟨rfl,q⟩:=a
      repeat(any_goals (first|wp_step|assumption))
     |_=>exact a.elim
  |_=>exact g.elim
theorem wL{l:dk}{its:Array di}{ns:List Int}{Q:di->dj->Prop}(H:A.handled=Y)(j:s.heap.IsTuple l its)(y:QU its.toList ns)(hb:its.size+1<RI)(q:∀h' tk,(∀c o,s.heap.get? c=Z o->h'.get? c=Z o)->h'.SetOf (Pu P w) s.heap.objs.size (λB=>(firstMet (λi=>ns.getD i 0) its.size).any (· == B)) (firstMet (λi=>ns.getD i 0) its.size).length->Q (.ref s.heap.objs.size) {s with heap:=h',toks:=tk}):dz (PB P w) A (call (.type "set") [.ref l]) Q E s:=by
 have a:l<s.heap.objs.size:=by obtain⟨o,e,_⟩:=j;exact hL1 e
 refine Ac j λp D R I=>?_;have x:(s.heap.push (stO #[] 0 (.fresh 0 0 (!byT w)))).objs.size=s.heap.objs.size+1:=by rw[hZ1]
 have C:(s.heap.push (stO #[] 0 (.fresh 0 0 (!byT w)))).get? s.heap.objs.size=Z (stO #[] 0 (.fresh 0 0 (!byT w))):=hS1 _ O;have b:∀(i:Nat) (v:di),its[i]?=Z v -> ∃t,v = .int ((λi=>ns.getD i 0) i) t:=λi v ao=>PyProof.Rows.IntsAre.int_at y i v (by rw[aT1];exact ao);have h:s.heap.objs.size∉[s.heap.objs.size+1,l]:=by
  simp only[aF,cv,bI,Rt,not_or];exact⟨nN1 (bB _),nG1 a⟩
 have g:p.in1.handled=Y:=by simpa using D.trans H
 refine PyProof.Rows.codeAny_set_update_loopS ((Walks.tuple g _ l (nN1 (cj a)) its).toS) s.heap.objs.size h (λi=>ns.getD i 0) b hb (its.size-0) 0 _ (by lia) (bi _) ⟨?_,?_⟩ ?_ λs' d m=>?_
 ·refine⟨{cls:=.type "tuple_iterator",data:=.fields #[.ref l,.int 0 0]},?_,O,O⟩;have this:((s.heap.push (stO #[] 0 (.fresh 0 0 (!byT w)))).push {cls:=.type "tuple_iterator",data:=.fields #[.ref l,.int 0 0]}).get? (s.heap.push (stO #[] 0 (.fresh 0 0 (!byT w)))).objs.size=Z {cls:=.type "tuple_iterator",data:=.fields #[.ref l,.int 0 0]}:=hS1 _ O;rw[x]at this;exact this
 ·obtain⟨o,e,r⟩:=j;exact⟨o,hP1 _ (hP1 _ e),r⟩
 ·exact PyProof.Rows.SetOf_congr ((PyProof.Rows.setObjOf_fresh (knd:=Pu P w) (!byT w)).setOf (hP1 _ C) (by unfold RI;lia)) (λ_=>rfl) O
 ·obtain⟨h',F,G,k,f⟩:=s';have u:F=s.gens:=d.gens;have z:G=s.drawn:=d.drawn;have n:f=s.os:=d.os;subst u;subst z;subst n;refine I _ (q h' k (λc o e=>d.heap c o ?_ (hP1 _ (hP1 _ e))) m);have:=hL1 e;simp only[aF,cv,bI,Rt,not_or];exact⟨nN1 this,nN1 (cj this)⟩
end
def iH:G1:=λd S=>match dZ S d with
 |some (_,xs)=>(jj xs).bind λns=>if ns.length+1<RI then Z (.ref S.length,S++[.iset (ddI ns)])else Y
 |_=>Y
theorem Do{k:Nat}(hr:fQ k X.A):eQ X (.type "set") (rN X.K (b1 iH)):=by
 intro ag s σ H xs o Q I r h;have E:=h;obtain⟨x,mu,S,d,p,B,rfl,m,i,c,hc⟩:=Bu h;unfold iH at c;split at c
 ·rename_i b ys l;cases b with
  |true=>exact Mm hr ag s σ H _ o Q I r ⟨mu,S,[d],p,B,.cons m .nil,i,(by show s9 d S=_;unfold s9;rw[l];exact c),hc⟩
  |false=>
  obtain⟨ns,e,c⟩:=Sa c;split at c
  ·rename_i C;cases c;obtain⟨a,vs,rfl,q,t⟩:=dW m i l;cases r with
   |cons w rt=>
    cases rt;cases w;obtain⟨f,v,D,_⟩:=I.tuple q;obtain⟨hi,n⟩:=mM t v e;have g:f.toArray.size=ns.length:=by rw[sT1,hi.length]
    refine wL (its:=f.toArray) (ns:=ns) hr.hd D (by simpa using hi) (by rw[g];exact C) λh' tk A j=>?_;rw[g,ve]at j;have nd:(ddI ns).Nodup:=l8 ns [] bp;have y:=mm (ddI ns);rw[y]at j;refine⟨.ref s.heap.objs.size,upd H s.heap.objs.size (.set (λk=>(ddI ns).contains k) (ddI ns).length),I.laid (λb u z=>A b u z) (nR1 _) j,O,?_⟩;exact hc _ _ (mu++[s.heap.objs.size]) (Ext.new_ I.fresh) (.ref (hO i.len _)) (i.new I.fresh ⟨d9,nd⟩)
  ·cases c
 ·cases c
section
variable{a b:Expr}{rest:List Expr}{pos:Pos}{ta tb:TE}{f g:FE}
end
theorem KR.len{K:Fg1}{H:Hp}{mu:List dk}{ks:List (Key×D)}{ws:List (Key×V)}(h:KR K H mu ks ws):ws.length=ks.length:=by
 induction h with
 |nil=>rfl
 |cons _ _ ih=>rw[lC1,lC1,ih]
def pj:G1:=λd S=>match d with
 | .ref n=>match S[n]? with
  |some (.dct kvs)=>Z (.int kvs.length,S)
  |_=>eB d S
 |_=>eB d S
theorem Kn:eQ X (.builtin "len") (rN X.K (b1 pj)):=by
 intro ag s σ H xs g Q I r h;obtain⟨x,mu,S,d,i,j,f,c,b,a,hc⟩:=Bu h;have k:=a;unfold pj at a;split at a
 ·rename_i n;split at a
  ·rename_i ys e;cases a;subst f;cases c with
   |ref p=>
    obtain⟨ws,o,q⟩:=b.dct e p;cases r with
    |cons l rt=>
     cases rt;cases l;refine Me I (Rd.of o) λt s' m=>⟨.int ws.length,H,m,⟨_,O⟩,?_⟩;rw[q.len];exact hc.now (.int _) b
  ·exact eH ag s σ H xs g Q I r (by subst f;exact⟨mu,S,[_],i,j,.cons c .nil,b,(show b1 eB [_] S=_ from a),hc⟩)
 ·exact eH ag s σ H xs g Q I r (by subst f;exact⟨mu,S,[_],i,j,.cons c .nil,b,(show b1 eB [_] S=_ from a),hc⟩)
section
variable{P:dn}{w:dr}{A:dq}{E:di->dj->Prop}{b:Bool}
end
section
variable{prog:dn}{w:dr}{A:dq}{E:di->dj->Prop}{s:dj}
end
section
variable{ag:List (dk×Obj)}{σ:L2.St}{H:Hp}{s:dj}{mu:List dk}
end
theorem Mf{K:Fg1}{x:Str}{f:dk}(h:wN1 K dv x=Z (Z (.ref f))):CV K (.fn x) (.ref f):=⟨.ref f,O,λ_ _=>.fn h⟩
section
variable{f:dk}{fd:dD}{ps:List Str}{k n:Nat}{sp:Sp}{dvs:List V}{ds:List di}{CX:Ap}{E:XK}{t:TA}{e:Expr}{es:List Expr}{p pos:Pos}{i:Nat}{v x:Str}
theorem BP (hN:X.N[i]? = some v)(hv:Vis X.env.scope v)(F:j6 X.prog X.w X.K X.mg X.base CX k f fd ps sp)(hr:fQ k X.A)(hm:X.mg x=some (.ref f))(hk:wK1 X.K (.ref f)=true)(hb:k9 X.K fd ps ds)(hd:ee dvs ds)(hx:tQ CX X E)
  (ha:PA X (e::es) t) (hdb:autoParam ((v == ("__debug__":Str))=J) bu0) (hcd:autoParam ((v == ("__classdict__":Str))=J) bu0) (he:autoParam (dw (e::es) X.env=(J,eval e X.env)::dw es X.env) cu0) (hpl:autoParam ((PC pos (dw es X.env)).any (·.1)=J) cu0):
  PE X (.Call (.Name v p) (e::es) [] pos) (fun σ H Q=>(∃a,σ[i]?=Z (Z (.ref a))/\wN1 X.K dv x=Z (Z (.ref a)))/\G5 sp dvs E t σ H Q):=by
 rintro ag s σ H Q I ⟨⟨a,o,j⟩,h⟩;have g:=wM1 I.ok.mod.kin I.ok.mod.glob j;rw[hm]at g;cases g;obtain⟨m,w,y⟩:=I.loc;obtain⟨u,r,l⟩:=y i v _ hN o hv;cases r;have d:dz (PB X.prog X.w) X.A (callWith pos (.ref f) [] (PC pos (dw (e::es) X.env)) (QQ pos (QR [] X.env))) (EP X ag σ Q) X.xe s:=by
  refine PySem.W.callWith_K (h₀:=X.base) I.ok.mod.kin hk (fh (ha pos ag s σ H _ I h) λz A ⟨vs,H1,n,r,q⟩=>⟨n.kIn,?_⟩) he hpl;exact Bt F hr hb hd hx n r q
 refine Qo ?_;rcases l with⟨hk,hm⟩|⟨hk,c,hc,b⟩
 ·exact PF (PH I.ok.kind hk w hm d) hdb
 ·rcases hk with hk|hk
  ·exact PF (wpAny_loadName_cell I.ok.kind hk hc b d) hdb
  ·exact PF (wpAny_loadName_free I.ok.kind hk hc b d hcd) hdb
def uH(i:Nat)(x:Str)(g:FN)(a:FA):FE:=λr S=>match r[i]? with
 |some (Z (.fn y))=>if y=x then mN g a r S else Y
 |_=>Y
theorem Cm {m:FN}{a:FA}{k':Nat}(i:Nat)(h:eR X.prog X.w X.K X.mg X.base k x n m)(hr:fQ k' X.A)(hk:k<=k')(hN:X.N[i]? = some v)(hv:Vis X.env.scope v)(ha:MA X (e::es) a)(hdb:autoParam ((v == ("__debug__":Str))=false) bu0)(hcd:autoParam ((v == ("__classdict__":Str))=false) bu0)
  (he:autoParam (dw (e::es) X.env=(J,eval e X.env)::dw es X.env) cu0) (hpl:autoParam ((PC pos (dw es X.env)).any (·.1)=J) cu0):ME X (.Call (.Name v p) (e::es) [] pos) (uH i x (dI n m) a):=by
 obtain⟨f,fd,ps,F,b,C,u⟩:=h;refine eM (BP (E:=E0) hN hv F (hr.mono hk) u C b .nil G9 ha hdb hcd he hpl) fun σ H Q h=>?_;obtain⟨r,mu,S,d,l,he,j,c,hc⟩:=h;unfold uH at c;split at c
 ·rename_i y w;split at c
  ·rename_i L;subst L;obtain⟨P,G,z⟩:=he.val i _ w;cases z with
   |fn t=>
    refine⟨⟨_,G,t⟩,?_⟩;obtain⟨r,mu,S,ds,l,he,j,c,hc⟩:=xQ (K:=X.K) (f:=dI n m) ⟨r,mu,S,d,l,he,j,c,hc⟩;refine⟨r,mu,S,ds,l,he,j,c,λvs H' mu' I B ao=>?_⟩;have q:=hc vs H' mu' I B ao;show A8 X.K n m (vs++[]) H' Q E0;rw[aN];obtain⟨o,aq,s,av,D,h1,h2,g,A⟩:=q;unfold dI at g;split at g
    ·rename_i N;exact⟨by rw[<- h1.length];exact N,vp ⟨o,aq,s,av,D,h1,h2,g,A⟩⟩
    ·cases g
  ·cases c
 ·cases c
theorem qo {m:FN}{a:FA}{k':Nat}(i:Nat)(h:eR X.prog X.w X.K X.mg X.base k x n m)(hr:fQ k' X.A)(hk:k<=k')(hN:X.N[i]? = some v)(hv:Vis X.env.scope v)(ha:XA X (e::es) a)(hdb:autoParam ((v == ("__debug__":Str))=false) bu0)(hcd:autoParam ((v == ("__classdict__":Str))=false) bu0)
  (he:autoParam (dw (e::es) X.env=(J,eval e X.env)::dw es X.env) cu0) (hpl:autoParam ((PC pos (dw es X.env)).any (·.1)=J) cu0):XE X (.Call (.Name v p) (e::es) [] pos) (uH i x (dI n m) a):=⟨Cm i h hr hk hN hv ha.h hdb hcd he hpl⟩
end
section
variable{prog:dn}{w:dr}{K:Type} [DecidableEq K] {knd:HeapKind prog w K}{A:dq}{E:di->dj->Prop}{s:dj}
theorem wl{d:dk}(hd:(d == Pt)=false):
  MeetsIn prog w (Builtin.«dict.__len__» ⟨[.ref d],[]⟩) (λ_ R s=>∃xs,s.heap.DictOfH knd d xs/\R (.ok (.ret (.int xs.length s.toks))) {s with toks:=s.toks+1}):=
 .of_wp λA R s ⟨xs,e,h⟩=>by
  obtain⟨o,es,ep,b,hc,a,c,_⟩:=e;show dz _ _ (dictSize d >>= _) _ _ s;unfold dictSize;refine wB1 (wB1 (wpAny_dictEntries b a (wP1 ?_)));show dz _ _ (Builtin.Dict.pendingCount d >>= _) _ _ s;refine wB1 (wpAny_pendingCount_other hd ?_);refine wpAny_ret_mkInt ?_;rw[Nat.add_zero,size_of_entries c];exact h
theorem Aj{d:dk}{xs:List (K×dk×di)}{Q:di->dj->Prop}(hd:(d == Pt)=J)(hm:s.heap.DictOfH knd d xs)(a:(xs.length:Int)<2^63)(h:Q (.int xs.length (s.toks+1)) {s with toks:=s.toks+1+1}):dz (PB prog w) A (call (.builtin "len") [.ref d]) Q E s:=by
 refine Calls.call_function_entry kind_len plain_len entry_len (args_len1 _) ?_;unfold Builtin.«len»;refine wB1 (m:=oneArg "len" _) (wP1 ?_);refine wB1 (m:=callSpecial? (.ref d) (QG "__len__")) (QF (name:=QG "__len__") hm.typeIs F.slot_dict_len
  (call_meetsIn F.slot_dict_len hm.typeIs F.entry_dict_len (F.args_dict_len_1 _) (wl (knd:=knd) hd) ⟨xs,hm,?_⟩))
 show dz _ _ _ _ _ {s with toks:=s.toks+1};refine wB1 (PY (wP1 ?_));refine wB1 (Rm ?_);show dz _ _ (if((xs.length:Nat):Int)<0 then _ else _) _ _ _;rw[aj (by omega)];show dz _ _ (if((xs.length:Nat):Int)>=2^63 then _ else _) _ _ _;rw[aj (by omega)];exact wB1 (wpAny_mkInt (wP1 ⟨_,O,h⟩))
end
def rl:G1:=λd S=>match d with
 | .ref n=>match S[n]? with
  |some (.dcT kvs)=>Z (.int kvs.length,S)
  |_=>pj d S
 |_=>pj d S
theorem Km:eQ X (.builtin "len") (rN X.K (b1 rl)):=by
 intro ag s σ H xs c Q I r h;obtain⟨x,mu,S,d,f,k,i,g,b,a,hc⟩:=Bu h;have back:pj d S=Z (f,k)->dz (PB X.prog X.w) X.A (call (.builtin "len") c) (EP X ag σ Q) X.xe s:=λa=>Kn ag s σ H xs c Q I r (by subst i;exact⟨mu,S,[d],f,k,.cons g .nil,b,(show b1 pj [d] S=_ from a),hc⟩);unfold rl at a;split at a
 ·rename_i n;split at a
  ·rename_i ys e;cases a;subst i;cases g with
   |ref p=>
    obtain⟨ws,o,j,q⟩:=b.dcT e p;obtain⟨m,t⟩:=vd I o j;cases r with
    |cons l rt=>
     cases rt;cases l;refine Aj m t (by rw[Qh]at q;lia) ?_;refine⟨.int ws.length,H,I.tok _,⟨_,O⟩,?_⟩;rw[<- j.length];exact hc.now (.int _) b
  ·exact back a
 ·exact back a
def kx:G2:=λd e S=>match e with
 | .ref n=>match S[n]? with
  |some (.dct [])=>match keyT d with
   |some _=>Z (.bl M,S)
   |none=>fW d e S
  |_=>fW d e S
 |_=>fW d e S
theorem B1(o:X.A.units+64<Ql):gE X (Qe .NotIn) (r2 X.K (b2 kx)):=by
 intro ag s σ H x y u w Q I j p h;obtain⟨mu,S,d,e,r,m,l,c,g,a,hc⟩:=pW h;have back:fW d e S=Z (r,m)->dz (PB X.prog X.w) X.A (Qe .NotIn u w) (EP X ag σ Q) X.xe s:=λa=>oS o ag s σ H x y u w Q I j p ⟨mu,S,[d,e],r,m,.cons l (.cons c .nil),g,a,hc⟩;unfold kx at a;split at a
 ·rename_i n;split at a
  ·rename_i D;split at a
   ·rename_i k t;cases a;cases c with
    |ref B=>
     cases p;obtain⟨ws,A,C⟩:=g.dct D B;cases C;obtain⟨z,q,vs,i,v⟩:=va I.hok A;cases i;obtain⟨b,rfl,rfl,rk,E,hi⟩:=mL I l j t;have f:s.heap.DictOfH (je X.prog X.w) _ []:=u9 v;refine wpAny_notIn_heap (kg o) hi q f ?_;exact⟨.bl M,H,I.tok _,O,hc.now (.bl _) g⟩
   ·exact back a
  ·exact back a
 ·exact back a
theorem H9(m i:Nat):QZ m i-i<=9:=by unfold QZ;split<;>lia
theorem Br(m i:Nat):i<=QZ m i:=by unfold QZ;split<;>lia
theorem Lf{m i:Nat}(h:i<=m):QZ m i<=m:=by unfold QZ;split<;>lia
theorem xW(m i b:Nat):(Q0 m i b).1<=m:=by
 unfold Q0;have:=ck (i*5+1+b/32) (bK m);dsimp only;lia
theorem uq(m:Nat):∀n i b:Nat,(gp m n i b).length<=10*n
 |0,_,_=>by simp[gp]
 |n+1,i,b=>by
  rw[gp,lA1,List.length_range'];have:=uq m n (Q0 m i b).1 (Q0 m i b).2;have:=H9 m i;lia
theorem xF(m:Nat):∀n i b:Nat,i<=m -> ∀x∈gp m n i b,x<=m
 |0,_,_,_,x,h=>by simp[gp]at h
 |n+1,i,b,hi,x,h=>by
  rw[gp,aG]at h;rcases h with h|h
  ·rw[List.mem_range'_1]at h;have:=Lf hi;have:=Br m i
   lia
  ·exact xF m n _ _ (xW m i b) x h
def EG(m:Nat):Nat->Nat->Nat->Nat×Nat
 |0,i,b=>(i,b)
 |n+1,i,b=>EG m n (Q0 m i b).1 (Q0 m i b).2
theorem Ct(m:Nat):∀n i b:Nat,(EG m n i b).2=b/32^n
 |0,i,b=>by simp[EG]
 |n+1,i,b=>by
  rw[EG,Ct m n];show b/32/32^n=_;rw[Nat.div_div_eq_div_mul,Nat.pow_succ,Nat.mul_comm]
theorem Cu(m:Nat):∀n i b:Nat,i<=m->(EG m n i b).1<=m
 |0,i,b,h=>h
 |n+1,i,b,h=>by rw[EG];exact Cu m n _ _ (xW m i b)
theorem qz(m:Nat):∀n k i b x:Nat,x∈gp m k (EG m n i b).1 (EG m n i b).2->x∈gp m (n+k) i b
 |0,k,i,b,x,h=>by rw[bL];exact h
 |n+1,k,i,b,x,h=>by
  rw[EG]at h;rw[show n+1+k=(n+k)+1 by lia,gp];exact mA1 _ (qz m n k _ _ x h)
def xw(m:Nat):Nat->Nat->Nat
 |0,i=>i
 |n+1,i=>xw m n ((i*5+1)%(m+1))
def Bq(m:Nat):Nat->Nat->List Nat
 |0,_=>[]
 |k+1,i=>i::Bq m k ((i*5+1)%(m+1))
theorem x2{m j:Nat}:∀{k i:Nat},j∈Bq m k i -> ∃n,n<k/\xw m n i=j
 |0,i,h=>by simp[Bq]at h
 |k+1,i,h=>by
  rw[Bq,aF]at h;rcases h with h|h
  ·exact⟨0,bK k,h.symm⟩
  ·obtain⟨n,a,e⟩:=x2 h;exact⟨n+1,Nat.succ_lt_succ a,e⟩
theorem sY(m:Nat):∀a b i:Nat,xw m (a+b) i=xw m b (xw m a i)
 |0,b,i=>by rw[bL];rfl
 |a+1,b,i=>by rw[show a+1+b=(a+b)+1 by lia,xw,xw,sY m a b]
theorem sX(m:Nat):∀n k i:Nat,n<k->xw m n i∈gp m k i 0
 |0,k+1,i,_=>by rw[xw,gp];exact aH _ (List.mem_range'_1.mpr ⟨nR1 _,by lia⟩)
 |n+1,k+1,i,h=>by
  rw[xw,gp];refine mA1 _ ?_;have e:Q0 m i 0=((i*5+1)%(m+1),0):=rfl;rw[e];exact sX m n k _ (Nat.lt_of_succ_lt_succ h)
def Le(m:Nat):Bool:=((af (m+1)).all λj=>(Bq m (m+1) 0).contains j)&&xw m (m+1) 0 == 0
theorem ze.orb{m:Nat}(h:ze m):Le m=M:=by
 rcases h with rfl|rfl|rfl
 ·decide+kernel
 ·decide+kernel
 ·decide+kernel
theorem ze.full{m:Nat}(h:ze m){i j:Nat}(hi:i<=m)(k:j<=m):j∈gp m (m+2) i 0:=by
 have f:=h.orb;unfold Le at f;rw[bA1,bA,RW]at f;have c:∀x,x<=m -> ∃n,n<m+1/\xw m n 0=x:=λx g=>x2 (by simpa using f.1 x (aC.mpr (Nat.lt_succ_of_le g)));obtain⟨a,l,d⟩:=c i hi;obtain⟨b,o,eb⟩:=c j k;rcases bS b a with z|z
 ·have e:xw m (b+(m+1)-a) i=j:=by
   rw[<- d,<- sY,show a+(b+(m+1)-a)=(m+1)+b by lia,sY,f.2,eb]
  rw[<- e];exact sX m _ _ i (by lia)
 ·have e:xw m (b-a) i=j:=by rw[<- d,<- sY,show a+(b-a)=b by lia,eb]
  rw[<- e];exact sX m _ _ i (by lia)
theorem GG(h:Int):Q2 h<2^64:=by
 unfold Q2;have h1:=RY h (show(2^64:Int)≠0 by decide);have h2:=RZ h (show(0:Int)<2^64 by decide);have:((h%(2^64:Int)).toNat:Int)<2^64:=by rw[Int.toNat_of_nonneg h1];exact h2
 exact_mod_cast this
theorem xa{m:Nat}(hm:ze m)(h:Int){j:Nat}(a:j<=m):j∈nA m h:=by
 unfold nA Q1;rw[show m+15=13+(m+2) by lia];apply qz;rw[Ct,Nat.div_eq_of_lt (bh (GG h) (by decide))];have hi:=Cu m 13 (Q2 h%(m+1)) (Q2 h) (by have:=ck (Q2 h) (bK m);lia);exact hm.full hi a
theorem w9(m:Nat)(h:Int):(nA m h).length<=10*Q1 m:=uq _ _ _ _
theorem AH{m:Nat}(h:Int):∀x∈nA m h,x<=m:=xF _ _ _ _ (by have:=ck (Q2 h) (bK m);lia)
def No(m:Nat)(p:RN):RN:=SetTable.advance {SetTable.fresh 0 0 M with mask:=m} p
def jI(m:Nat):RN->List Nat->Prop
 |_,[]=>True
 |p,x::L=>p.j=x/\p.dummy=Y/\jI m (No m p) L
theorem oo(m i b:Nat)(L:List Nat)(h:jI m {j:=(Q0 m i b).1,more:=QZ m (Q0 m i b).1-(Q0 m i b).1,i:=(Q0 m i b).1,perturb:=(Q0 m i b).2,dummy:=none} L):
  ∀more j:Nat,jI m {j,more,i,perturb:=b,dummy:=Y} (bn j (more+1)++L)
 |0,j=>by
  refine⟨O,O,?_⟩;exact h
 |more+1,j=>by
  rw[cy];refine⟨O,O,?_⟩;exact oo m i b L h more (j+1)
theorem om(m:Nat):∀n i b:Nat,jI m {j:=i,more:=QZ m i-i,i,perturb:=b,dummy:=Y} (gp m n i b)
 |0,_,_=>trivial
 |n+1,i,b=>by
  rw[gp];exact oo m i b _ (om m n _ _) _ _
theorem yW(t:Q3)(h:Int):jI t.mask (t.probeStart h) (nA t.mask h):=om _ _ _ _
theorem pH{xs:Array Nat}(hr:rV xs){j:Nat}(d:j∈xs.toList):xs[RL xs j]?=Z j:=by
 have b:=mf hr j;obtain⟨k,a⟩:=bq d;rw[aT1]at a;have c:¬ k<RL xs j:=λz=>by have:=b.lo _ _ a z;lia
 have f:RL xs j<xs.size:=by have:=(Array.getElem?_eq_some_iff.mp a).1;lia
 have e:=aG1 f;have h1:=b.hi _ _ e (nR1 _);rcases bS (RL xs j) k with z|z
 ·have:=hr.lt z e a;lia
 ·have:k=RL xs j:=by lia
  rw[<- this];exact a
theorem sf{t:Q3}(hr:rV t.place){j:Nat}(a:j∈t.place.toList):t.slot j = .live (RL t.place j):=by
 unfold SetTable.slot;dsimp only;rw[pH hr a];simp
theorem Bc{t:Q3}(hd:t.dummies = #[]){j:Nat}(a:j∉t.place.toList):t.slot j = .empty:=by
 unfold SetTable.slot;have:(t.place[RL t.place j]? == Z j)=J:=by
  rw[R0];intro z;rw[<- aT1]at z;exact a (gM1 z)
 dsimp only;rw[this,lR hd];simp
theorem ye{t:Q3}{f:Nat->Int}{h:Int}(hr:rV t.place)(hd:t.dummies = #[]):∀ (L:List Nat) (p:RN) (n:Nat),jI t.mask p L->L.length<=n->(∃ x∈L,x∉t.place.toList) ->
  ∃b x a,L=b++x::a/\(∀y∈b,y∈t.place.toList/\f (RL t.place y)≠h) /\
   ((x∉t.place.toList/\RO t f h n p=Z (.empty x Y))\/(∃q,x∈t.place.toList/\f (RL t.place x)=h/\RO t f h n p=Z (.candidate x (RL t.place x) q)/\jI t.mask q a))
 |[],p,n,_,_,g=>by obtain⟨x,g,_⟩:=g;cases g
 |x::L,p,0,_,hl,_=>by simp at hl
 |x :: L,p,n+1,i,hl,g=>by
  obtain⟨rfl,r,i⟩:=i;rw[RO];by_cases c:p.j∈t.place.toList
  ·rw[sf hr c];dsimp only;by_cases j:f (RL t.place p.j)=h
   ·refine⟨[],p.j,L,O,(λy d=>by cases d),.inr ⟨t.advance p,c,j,?_,i⟩⟩;rw[j];simp
   ·have m:(f (RL t.place p.j) == h)=false:=R0.mpr j;rw [m];obtain ⟨y,d,l⟩:=g;have k:∃ x∈L,x∉t.place.toList:=by
     rcases aF.mp d with e|e
     ·subst e;exact absurd c l
     ·exact⟨y,e,l⟩
    obtain⟨b,x,a,e,h1,h2⟩:=ye hr hd L (t.advance p) n i (by simpa using hl) k;refine⟨p.j::b,x,a,by rw[e];rfl,λz o=>?_,?_⟩
    ·rcases aF.mp o with e|e
     ·subst e;exact⟨c,j⟩
     ·exact h1 z e
    ·simpa using h2
  ·rw[Bc hd c];refine⟨[],p.j,L,O,(λy d=>by cases d),.inl ⟨c,?_⟩⟩;rw[r]
theorem xV{α:Type}[DecidableEq α]:∀(l l':List α),l.Nodup->(∀x∈l,x∈l')->l.length<=l'.length
 |[],_,_,_=>bi _
 |x::l,l',hn,hs=>by
  obtain⟨h1,h2⟩:=aO.mp hn;have b:x∈l':=hs x (mS1);have:=xV l (l'.erase x) h2 λy c=>by
   have a:y≠x:=λz=>by subst z;exact h1 c
   exact(List.mem_erase_of_ne a).mpr (hs y (mC1 _ c))
  rw[List.length_erase_of_mem b]at this;have:=List.length_pos_of_mem b;rw[lC1];lia
theorem EI{m:Nat}(occ:List Nat)(b:occ.length<=m):∃j,j<=m/\j∉occ:=by
 apply RD;intro z;have:=xV (af (m+1)) occ cA λx a=>RD λq=>z ⟨x,by have:=aC.mp a;lia,q⟩;rw[cB]at this;lia
theorem zd.more{m:Nat}{occ a:List Nat}{h:Int}{j:Nat}(r:zd m occ h j)(k:∀x∈occ,x∈a):zd m a h j:=by
 obtain⟨c,b,e,f⟩:=r;exact⟨c,b,e,λy d=>k y (f y d)⟩
theorem sTT.fits{es:Array (Int×di)}{t:Q3}(h:sTT es t):t.fits es.size=M:=by
 unfold SetTable.fits SetTable.fill;rw[h.du,h.sz];have:=h.fl;simp;exact this
theorem Ea{α β:Type}(a:Array α)(b:Array β)(p:Nat)(x:α)(y:β)(c:a.size=b.size):(RM a p x).toList.zip (RM b p y).toList=(a.toList.zip b.toList).take p++(x,y)::(a.toList.zip b.toList).drop p:=by
 rw[jR,jR,List.zip_append (by rw[aR,aR];simp[c]),bR];rw[show List.take p (a.toList.zip b.toList)=(a.toList.take p).zip (b.toList.take p) by simp only[List.zip_eq_zipWith,List.take_zipWith]];rw[show List.drop p (a.toList.zip b.toList)=(a.toList.drop p).zip (b.toList.drop p) by simp only[List.zip_eq_zipWith,List.drop_zipWith]]
theorem nW{α:Type}(a:Array α)(p:Nat)(x y:α):y∈(RM a p x).toList↔y=x\/y∈a.toList:=by
 rw[jR,aG,aF];have:=cm p a.toList;constructor
 ·rintro(h|h|h)
  ·exact .inr (cC h)
  ·exact .inl h
  ·exact .inr (List.mem_of_mem_drop h)
 ·rintro(h|h)
  ·exact .inr (.inl h)
  ·rw[<- this,aG]at h;rcases h with h|h
   ·exact .inl h
   ·exact .inr (.inr h)
theorem il{α:Type}(a:Array α)(p:Nat)(x:α):(RM a p x).size=a.size+1:=by
 rw[<- aK,jR,lA1,lC1,<- bm,<- lA1,cm,aK]
theorem sTT.put{es:Array (Int×di)}{t:Q3}(h:sTT es t){j:Nat}{e:Int×di}(g:j<=t.mask)(hn:j∉t.place.toList)(hr:zd t.mask t.place.toList e.1 j)(hs:es.size+1<=t.mask):sTT (RM es (t.put j).2 e) (t.put j).1:=by
 have f:(t.put j).1.mask=t.mask:=rfl;have d:(t.put j).1.place=RM t.place (RL t.place j) j:=rfl;refine⟨h.mks,?_,?_,?_,?_,?_,?_⟩
 ·rw[d];exact xA h.up λz=>hn (by rw[<- aT1]at z;exact gM1 z)
 ·show(if SetTable.has t.dummies j=M then _ else t.dummies) = #[];rw[lR h.du,aj (by decide)];exact h.du
 ·rw[d,il,il,h.sz]
 ·intro x b;rw[d,nW]at b;rcases b with rfl|b
  ·exact g
  ·exact h.le x b
 ·rw[il,f];exact hs
 ·rw[d,f];show∀z∈(RM t.place (RL t.place j) j).toList.zip (RM es (RL t.place j) e).toList,_;rw[Ea _ _ _ _ _ h.sz];have a:∀x∈t.place.toList,x∈(RM t.place (RL t.place j) j).toList:=λx b=>(nW _ _ _ _).mpr (.inr b);intro z c;rw[aG,aF]at c;rcases c with c|rfl|c
  ·exact(h.rc z (cC c)).more a
  ·exact hr.more a
  ·exact(h.rc z (List.mem_of_mem_drop c)).more a
theorem sTT.fresh(l:Bool):sTT #[] (SetTable.fresh 0 0 l):=⟨.inl O,.nil,O,O,(λj h=>by simp[SetTable.fresh]at h),bi _,λz h=>by simp[SetTable.fresh]at h⟩
theorem yk(m:Nat)(a:Array (Option Nat)):∀n i b:Nat,SetTable.layClean.free m a n i b=(gp m n i b).find? λj=>(a.getD j (Z 0)).isNone
 |0,i,b=>by rw[SetTable.layClean.free,gp];rfl
 |n+1,i,b=>by
  rw[SetTable.layClean.free,gp,List.find?_append,List.range'_eq_map_range,List.find?_map];rw[show QZ m i+1-i=QZ m i-i+1 by have:=Br m i;lia];show(match List.find? (λk=>(a.getD (i+k) (Z 0)).isNone) (af (QZ m i-i+1))with
   |some k=>Z (i+k)
   |none=>_)=(Option.map (λk=>i+k) (List.find? (λk=>(a.getD (i+k) (Z 0)).isNone) (af (QZ m i-i+1)))).or _
  cases List.find? (λk=>(a.getD (i+k) (Z 0)).isNone) (af (QZ m i-i+1))with
  |some k=>rfl
  |none=>exact yk m a n _ _
structure sLO (m:Nat)(hs:List Int)(ow:Array (Option Nat)):Prop where
 sz:ow.size=m+1
 ct:ow.toList.countP (·.isSome)=hs.length
 all:∀q:Nat,q<hs.length -> ∃j:Nat,ow[j]?=some (some q)
 rc:∀j q:Nat,ow[j]?=some (some q) -> ∃h,hs[q]?=some h /\ ∃pre post,nA m h=pre++j::post /\ ∀y∈pre,∃q':Nat,ow[y]?=some (some q')
theorem rA(k:Nat):∀(l:List (Option Nat)) (j:Nat),l[j]?=Z Y->(l.set j (Z k)).countP (·.isSome)=l.countP (·.isSome)+1
 |[],j,h=>by simp at h
 |x::l,0,h=>by
  have:x=Y:=by simpa using h
  subst this;simp
 |x::l,j+1,h=>by
  rw[cD,List.countP_cons,List.countP_cons,rA k l j (by simpa using h)];lia
theorem FQ{m:Nat}{hs:List Int}{b:Array (Option Nat)}(hm:ze m)(h:sLO m hs b)(ao:hs.length<=m)(x:Int):
  ∃j,SetTable.layClean.free m b (Q1 m) (Q2 x%(m+1)) (Q2 x)=Z j/\sLO m (hs++[x]) (b.setIfInBounds j (Z hs.length)):=by
 rw[yk];show∃j,(nA m x).find? _=Z j/\_;have I:∃j:Nat,b[j]?=Z Y:=by
  apply RD;intro z;have:b.toList.countP (·.isSome)=b.toList.length:=List.countP_eq_length.mpr λa F=>by
   obtain⟨j,w⟩:=bq F;cases a with
   |some q=>rfl
   |none=>exact absurd ⟨j,by rw[<- aT1];exact w⟩ z
  rw[h.ct,show b.toList.length=b.size from rfl,h.sz]at this;lia
 obtain⟨u,C⟩:=I;have p:u<=m:=by have:=(Array.getElem?_eq_some_iff.mp C).1;rw[h.sz]at this;lia
 cases hf:(nA m x).find? λj=>(b.getD j (Z 0)).isNone with
 |none=>
  exfalso;have:=List.find?_eq_none.mp hf u (xa hm x p);rw[cE,C]at this;simp at this
 |some j=>
  obtain⟨r,o,k,e,G⟩:=List.find?_eq_some_iff_append.mp hf;have le:=AH (m:=m) x;have w:j<=m:=le j (by rw[e];simp);have f:j<b.size:=by rw[h.sz];lia
  have t:∀y,y<=m->(b.getD y (Z 0)).isNone=J -> ∃q,b[y]?=Z (Z q):=λy g l=>by
   have i:y<b.size:=by rw[h.sz];lia
   rw[cE,aG1 i]at l;rw[aG1 i];cases hc:b[y]with
   |none=>rw[hc]at l;cases l
   |some q=>exact⟨q,O⟩
  have A:b[j]?=Z Y:=by
   rw[cE,aG1 f]at r;rw[aG1 f];cases hc:b[j]with
   |none=>rfl
   |some q=>rw[hc]at r;cases r
  have keep:∀y q,b[y]?=Z (Z q)->(b.setIfInBounds j (Z hs.length))[y]?=Z (Z q):=λy q c=>by
   have:j≠y:=λz=>by subst z;rw[A]at c;cases c
   rw[Array.getElem?_setIfInBounds_ne this];exact c
  have new:(b.setIfInBounds j (Z hs.length))[j]?=Z (Z hs.length):=by
   rw[Array.getElem?_setIfInBounds_self_of_lt f]
  refine⟨j,O,?_,?_,?_,?_⟩
  ·rw[Array.size_setIfInBounds];exact h.sz
  ·rw[Array.toList_setIfInBounds,rA _ _ _ (by rw[aT1];exact A),h.ct];simp
  ·intro q l;rw[lA1,aY]at l;rcases bS q hs.length with z|z
   ·obtain⟨y,c⟩:=h.all q z;exact⟨y,keep y q c⟩
   ·have:q=hs.length:=by lia
    subst this;exact⟨j,new⟩
  ·intro y q c;by_cases g:j=y
   ·subst g;rw[new]at c;cases c;refine⟨x,by simp,o,k,e,λy g=>?_⟩;obtain⟨q,eq⟩:=t y (le y (by rw[e];simp[g])) (by have:=G y g;simpa using this);exact⟨q,keep y q eq⟩
   ·rw[Array.getElem?_setIfInBounds_ne g]at c;obtain⟨h',B,n,d,D,E⟩:=h.rc y q c;refine⟨h',?_,n,d,D,λz H=>?_⟩
    ·rw[gL1 (R9 B).1];exact B
    ·obtain⟨v,s⟩:=E z H;exact⟨v,keep z v s⟩
noncomputable def xy(m:Nat)(acc:Option (Array (Option Nat)×Nat))(h:Int):Option (Array (Option Nat)×Nat):=do
 let (owner,k)<-acc
 let j<-SetTable.layClean.free m owner (Q1 m) (Q2 h%(m+1)) (Q2 h)
 pure (owner.setIfInBounds j (Z k),k+1)
theorem xT{m:Nat}(hm:ze m):∀(rest hs:List Int) (b:Array (Option Nat)),sLO m hs b->hs.length+rest.length<=m+1 -> ∃a,rest.foldl (xy m) (Z (b,hs.length))=Z (a,hs.length+rest.length)/\sLO m (hs++rest) a
 |[],hs,b,h,_=>⟨b,O,by rw[aN];exact h⟩
 |x::rest,hs,b,h,hl=>by
  rw[lC1]at hl;obtain⟨j,e,h'⟩:=FQ hm h (by lia) x;obtain⟨a,d,c⟩:=xT hm rest (hs++[x]) _ h' (by rw[lA1,aY];lia);refine⟨a,?_,by rw[bE]at c;exact c⟩;rw[b4];have:xy m (Z (b,hs.length)) x=Z (b.setIfInBounds j (Z hs.length),(hs++[x]).length):=by
   show(SetTable.layClean.free m b (Q1 m) (Q2 x%(m+1)) (Q2 x) >>= λj=>_)=_;rw[e,lA1,aY];rfl
  rw[this,d,lA1,aY,lC1]
  congr 2;lia
theorem JH{m:Nat}(hm:ze m)(hs:Array Int)(c:hs.size<=m+1):∃ow,SetTable.layClean m hs=Z ow/\sLO m hs.toList ow:=by
 have b:sLO m [] (Array.replicate (m+1) Y):=by
  refine⟨Array.size_replicate,?_,(λq h=>absurd h (bw _)),λj q h=>?_⟩
  ·rw[Array.toList_replicate,bf,List.countP_eq_zero];intro a d;rw[(bC.mp d).2];simp
  ·exfalso;rw[Array.getElem?_replicate]at h;split at h<;>simp at h
 obtain⟨ow,e,h⟩:=xT hm hs.toList [] _ b (by simpa using c);refine⟨ow,?_,by simpa using h⟩;unfold SetTable.layClean;rw[<- Array.foldl_toList];show Option.map _ (List.foldl (xy m) (Z (Array.replicate (m+1) Y,0)) hs.toList)=_;have e:List.foldl (xy m) (Z (Array.replicate (m+1) Y,0)) hs.toList=_:=e;rw[e];rfl
theorem uX{α β:Type}(f:α->Option β)(g:α->β):∀l:List α,(∀a∈l,f a=Z (g a))->l.filterMap f=l.map g
 |[],_=>rfl
 |a::l,h=>by
  rw[aE,h a mS1];dsimp only;rw[mP1,uX f g l λb c=>h b (mC1 _ c)]
theorem wZ{α β γ:Type}(f:α->β)(g:α->γ):∀l:List α,(l.map f).zip (l.map g)=l.map λa=>(f a,g a)
 |[]=>rfl
 |a::l=>by rw[mP1,mP1,bR,wZ f g l];rfl
theorem ll{α β:Type}{f g:α->Option β}:∀l:List α,(∀a∈l,f a=g a)->l.filterMap f=l.filterMap g
 |[],_=>rfl
 |a::l,h=>by rw[aE,aE,h a mS1,ll l λb c=>h b (mC1 _ c)]
theorem uL:∀(l:List (Option Nat)) (s:Nat),((bn s l.length).filterMap λj=>(l.getD (j-s) Y).map (j,·)).length=l.countP (·.isSome)
 |[],s=>rfl
 |x::l,s=>by
  rw[lC1,cy,aE,List.countP_cons];have ih:=uL l (s+1);have e:(List.filterMap (λj=>Option.map (λx=>(j,x)) ((x::l).getD (j-s) Y)) (bn (s+1) l.length))=List.filterMap (λj=>(l.getD (j-(s+1)) Y).map (j,·)) (bn (s+1) l.length):=by
   refine ll _ λj a=>?_;rw[List.mem_range'_1]at a;rw[show j-s=(j-(s+1))+1 by lia];rfl
  rw[e,cF];cases x with
  |none=>simpa using ih
  |some q=>simpa using ih
theorem FZ{m fi mo:Nat}{l p:Bool}(hm:ze m){es:Array (Int×di)}(I:es.size<=m):∃r b,SetTable.laid m fi mo l p (es.map (·.1))=Z (r,b)/\(b.filterMap (es[·]?)).size=es.size/\sTT (b.filterMap (es[·]?)) r/\(∀e,e∈(b.filterMap (es[·]?)).toList↔e∈es.toList)/\r.led=l/\r.mask=m:=by
 obtain⟨g,e,h⟩:=JH hm (es.map (·.1)) (by rw[Array.size_map];lia);have c:(es.map (·.1)).toList.length=es.size:=by simp
 generalize t:(af (m+1)).filterMap (λj=>(g.getD j Y).map (j,·))=a;refine⟨{mask:=m,place:=(a.map (·.1)).toArray,dummies:= #[],finger:=fi,led:=l,moves:=mo,plain:=p},(a.map (·.2)).toArray,?_,?_⟩
 ·unfold SetTable.laid;rw[e,<- t];rfl
 have mem:∀j q,(j,q)∈a↔g[j]?=Z (Z q):=λj q=>by
  rw[<- t,aM];constructor
  ·rintro⟨ao,o,e⟩;obtain⟨A,eq,e⟩:=Sb e;cases e;rw[aC]at o;have k:j<g.size:=by rw[h.sz];exact o
   rw[cE,aG1 k]at eq;rw[aG1 k];have:g[j]=Z q:=by simpa using eq
   rw[this]
  ·intro e;have k:=(Array.getElem?_eq_some_iff.mp e).1;refine⟨j,aC.mpr (by rw[h.sz]at k;exact k),?_⟩;rw[cE,e];rfl
 have lt:∀z∈a,z.2<es.size:=λz d=>by
  obtain⟨h',u,_⟩:=h.rc z.1 z.2 ((mem _ _).mp d);have:=(R9 u).1;rw[c]at this;exact this
 have B:a.length=es.size:=by
  have:=uL g.toList 0;rw[show g.toList.length=g.size from rfl,h.sz,h.ct,c]at this;rw[<- this,<- t,List.range_eq_range']
  congr 1
  refine ll _ λj _=>?_;simp[cE]
 have i:((a.map (·.2)).toArray.filterMap (es[·]?)).toList=a.map λz=>(es[z.2]?).getD (0,.none):=by
  rw[Array.toList_filterMap];rw[List.filterMap_map];exact uX _ _ _ λz d=>by
   show es[z.2]?=_;rw[aG1 (lt z d)];rfl
 have sz:((a.map (·.2)).toArray.filterMap (es[·]?)).size=es.size:=by rw[<- aK,i,lM1,B]
 refine⟨sz,⟨hm,?_,O,?_,?_,?_,?_⟩,λe=>?_,O,O⟩
 ·unfold rV;rw[<- t];exact List.pairwise_lt_range.sublist (by simpa using nX (λj=>g.getD j Y) (af (m+1)))
 ·rw[sz,sT1,lM1,B]
 ·intro j s;simp only[cf]at s;obtain⟨z,d,rfl⟩:=s;have:=(Array.getElem?_eq_some_iff.mp ((mem z.1 z.2).mp d)).1;rw[h.sz]at this;show _<=m;lia
 ·rw[sz];exact I
 ·rw [i];show ∀ z∈(a.map (·.1)).zip _,zd m (a.map (·.1)) _ _;rw [wZ];intro z d;obtain ⟨y,C,rfl⟩:=cf.mp d;obtain ⟨h',u,w,n,D,F⟩:=h.rc y.1 y.2 ((mem _ _).mp C);have:((es[y.2]?).getD (0,.none)).1=h':=by
   have f:=lt y C;rw[Array.toList_map,gP1,aT1,aG1 f]at u;rw[aG1 f];simpa using u
  rw[this];exact⟨w,n,D,λx H=>by obtain⟨A,G⟩:=F x H;exact cf.mpr ⟨(x,A),(mem _ _).mpr G,O⟩⟩
 ·rw[i,cf];constructor
  ·rintro⟨z,d,rfl⟩;rw[aG1 (lt z d)];simp
  ·intro E;obtain⟨q,v⟩:=bq E;rw[aT1]at v;have f:=(Array.getElem?_eq_some_iff.mp v).1;obtain⟨j,s⟩:=h.all q (by rw[c];exact f);exact⟨(j,q),(mem _ _).mpr s,by rw[v];rfl⟩
theorem J0{prog:dn}{w:dr}:∀(n:Nat) {k:TK} {A:dq} {E:di->dj->Prop} {s:dj} {v:di} {Q:Bool->dj->Prop},k.dep<=n->eZ s.heap k v->Q M s->dz (PB prog w) A (hashByValue n v) Q E s:=by
 intro n
 induction n with
 |zero=>
  intro k A E s v Q c r h;cases r with
  |non=>exact wP1 h
  |int i t=>exact wP1 h
  |tup _ _ _ _=>simp[TK.dep]at c
 |succ n ih=>
  intro k A E s v Q c r h;cases r with
  |non=>exact wP1 h
  |int i t=>exact wP1 h
  | @tup a o b m xs f u g q=>
   have p:s.TypeIs (.ref a) "tuple":=⟨o,f,u⟩;rw[TK.dep]at c;unfold hashByValue;refine wB1 (RB p F.slot_tuple_hash.lookup ?_);show dz _ _ (seqItems? (.ref a) >>= _) _ _ s;refine wB1 (Re f g ?_);refine wB1 ?_;show dz _ _ (forIn b _ _) _ _ s;rw[<- bV];refine Rx _ (λrest r s'=>r.1=Y/\s'=s /\ ∃ks,fm s.heap ks rest/\TK.depAll ks<=n) _ ?_ ?_ _ _ ⟨O,O,xs,q,by lia⟩
   ·rintro v rest r s' ⟨e,rfl,ks,y,x⟩;cases y with
    | @cons z _ d _ l j=>
     rw[TK.depAll]at x;refine wB1 (ih (k:=z) (by lia) l ?_);simp only[bY,bF1,QA];exact wP1 ⟨O,O,d,j,by lia⟩
   ·rintro⟨B,r2⟩ s' ⟨e,rfl,_⟩;simp only at e;subst e;exact wP1 h
theorem Di{prog:dn}{w:dr}:∀(n:Nat) {k:TK} {A:dq} {E:di->dj->Prop} {s:dj} {v:di} {Q:Bool->dj->Prop},k.dep<=n->eZ s.heap k v->Q J s->dz (PB prog w) A (ofAClassStatement n v) Q E s:=by
 intro n
 induction n with
 |zero=>
  intro k A E s v Q c r h;cases r with
  |non=>exact wP1 h
  |int i t=>exact wP1 h
  |tup _ _ _ _=>simp[TK.dep]at c
 |succ n ih=>
  intro k A E s v Q c r h;cases r with
  |non=>exact wP1 h
  |int i t=>exact wP1 h
  | @tup a o b m xs f u g q=>
   have p:s.TypeIs (.ref a) "tuple":=⟨o,f,u⟩;rw[TK.dep]at c;unfold ofAClassStatement;refine wB1 (QJ p ?_);show dz _ _ (pure M >>= _) _ _ s;refine wB1 (wP1 ?_);simp only[bY,bF1,QA];refine wB1 (Re f g ?_);refine wB1 ?_;show dz _ _ (forIn b _ _) _ _ s;rw[<- bV];refine Rx _ (λrest r s'=>r.1=Y/\s'=s /\ ∃ks,fm s.heap ks rest/\TK.depAll ks<=n) _ ?_ ?_ _ _ ⟨O,O,xs,q,by lia⟩
   ·rintro v rest r s' ⟨e,rfl,ks,y,x⟩;cases y with
    | @cons z _ d _ l j=>
     rw[TK.depAll]at x;refine wB1 (ih (k:=z) (by lia) l ?_);simp only[bF1,QA];exact wP1 ⟨O,O,d,j,by lia⟩
   ·rintro⟨B,r2⟩ s' ⟨e,rfl,_⟩;simp only at e;subst e;exact wP1 h
def EH(h:dB)(k:TK)(e:Int×di):Prop:=∃a,e=(k.hash,.ref a)/\eZ h k (.ref a)/\k.dep<=8
section
variable{prog:dn}{w:dr}{A:dq}{E:di->dj->Prop}{s:dj}
theorem EE{k:TK}{x:dk}{Q:Bool->dj->Prop}(hk:eZ s.heap k (.ref x))(hd:k.dep<=8)(l:List di)(he:∀v∈l,∃b a,v = .ref a/\eZ s.heap b (.ref a)/\b.dep<=8)(h:Q J s):dz (PB prog w) A (searchCouldBeSeen (.ref x) l) Q E s:=by
 unfold searchCouldBeSeen;refine wB1 ?_;refine Rx _ (λrest r s'=>r.1=Y/\s'=s /\ ∀v∈rest,∃b a,v = .ref a/\eZ s.heap b (.ref a)/\b.dep<=8) _ ?_ ?_ _ _ ⟨O,O,he⟩
 ·rintro v rest r s' ⟨d,rfl,e⟩;obtain⟨b,a,rfl,h1,h2⟩:=e v mS1;have tl:∀v∈rest,∃b a,v=Pr a/\eZ s'.heap b (.ref a)/\b.dep<=8:=λv h=>e v (mC1 _ h);dsimp only;by_cases c:(x == a)=M
  ·rw[c];exact wP1 ⟨O,O,tl⟩
  ·rw[cG]at c;rw[c];show dz _ _ (eqIsQuiet 8 (.ref x) >>= _) _ _ _;refine wB1 (oG 8 hd hk ?_);refine wB1 (oG 8 h2 h1 ?_);refine wB1 (Di 8 hd hk ?_);refine wB1 (Di 8 h2 h1 ?_);exact wP1 ⟨O,O,tl⟩
 ·rintro⟨f,r2⟩ s' ⟨d,rfl,_⟩;simp only at d;subst d;exact wP1 h
theorem rn{α:Type}{occ:List α}{a c:α}(hc:c∉occ)(ha:a∈occ):∀{d b B D:List α},(∀y∈b,y∈occ)->b++a::B=d++c::D->a∈d
 |[],[],B,D,_,e=>by
  simp at e;obtain⟨rfl,_⟩:=e;exact absurd ha hc
 |[],z::b,B,D,h,e=>by
  simp at e;obtain⟨rfl,_⟩:=e;exact absurd (h z mS1) hc
 |z::d,[],B,D,_,e=>by
  simp at e;obtain⟨rfl,_⟩:=e;exact mS1
 |z::d,z'::b,B,D,h,e=>by
  simp at e;exact mC1 _ (rn hc ha (λy f=>h y (mC1 _ f)) e.2)
theorem Dw{xs:Array Nat}(hr:rV xs){i j:Nat}(h:xs[i]?=Z j):RL xs j=i:=by
 have e:=pH hr (gM1 (by rw[aT1];exact h));rcases b8 (RL xs j) i with z|z|z
 ·have:=hr.lt z e h;lia
 ·exact z
 ·have:=hr.lt z h e;lia
theorem IS{m:Nat}(h:ze m):(m%2 == 0)=J:=by rcases h with rfl|rfl|rfl<;>rfl
theorem Nn(av:Bool){a:dk}{es:Array (Int×di)}{ep:Nat}{t:Q3}{k:TK}{x:dk}(hu:A.units+8<Ql)(ho:s.heap.get? a=some (stO es ep t))(ht:sTT es t)(he:∀ e∈es.toList,∃ k',EH s.heap k' e)(hk:eZ s.heap k (.ref x))(hd:k.dep<=8){Q:SetFound->dj->Prop}(q1:(∃e∈es.toList,EH s.heap k e) -> ∀i,Q (.there (if av=true then none else some i)) s)(q2:∀j r m,nA t.mask k.hash=r++j::m->(∀y∈r,y∈t.place.toList)->j∉t.place.toList->(∀e∈es.toList,¬ EH s.heap k e)->Q (.free j false) s):
  ∀(n:Nat) (L c:List Nat) (b:Option RN),nA t.mask k.hash=c++L->jI t.mask (b.getD (t.probeStart k.hash)) L->L.length<n->(∀y∈c,y∈t.place.toList /\ ∀e,es[RL t.place y]?=Z e -> ¬ EH s.heap k e)->dz (PB prog w) A (setSearchFrom a (.ref x) k.hash av n b) Q E s:=by
 have hf:=ht.fits;have P:t.place.toList.length<=t.mask:=by rw[aK,ht.sz];exact ht.fl
 intro n
 induction n with
 |zero=>intro L _ _ _ _ h;exact absurd h (bw _)
 |succ n ih=>
  intro L c b R hs hl X;have hx:∃y∈L,y∉t.place.toList:=by
   obtain⟨j,hj,S⟩:=EI t.place.toList P;have:=xa ht.mks k.hash hj;rw[R,aG]at this;rcases this with z|z
   ·exact absurd (X j z).1 S
   ·exact⟨j,z,S⟩
  have hL:L.length<=10*Q1 t.mask:=by
   have:=w9 t.mask k.hash;rw[R,lA1]at this;lia
  obtain⟨r,y,m,e,h1,h2⟩:=ye (f:=λi=>(es[i]?.map (·.1)).getD 0) (h:=k.hash) ht.up ht.du L _ _ hs hL hx;unfold setSearchFrom;refine wB1 (RP ho O hf ?_);dsimp only;rw[show t.gaveWay=J from IS ht.mks];simp only[bF1,QA];rcases h2 with⟨S,hg⟩|⟨q,V,hh,hg,hq⟩
  ·generalize D:SetTable.probe t _ k.hash (b.getD (t.probeStart k.hash))=met;have D:=D.symm.trans hg;subst D;refine wP1 (q2 y (c++r) m (by rw[R,e,bE]) (λz T=>?_) S λe' he' d=>?_)
   ·rcases aG.mp T with p|p
    ·exact(X z p).1
    ·exact(h1 z p).1
   ·obtain⟨i,hi⟩:=bq he';have H:es[i]?=Z e':=by rw[<- aT1];exact hi
    have ao:=(Array.getElem?_eq_some_iff.mp H).1;have hpi:i<t.place.size:=by rw[ht.sz];exact ao
    have F:=aG1 hpi;have T:(t.place[i],e')∈t.place.toList.zip es.toList:=by
     refine gM1 (i:=i) ?_;rw[cH];exact⟨by rw[aT1];exact F,hi⟩
    obtain⟨N,U,_⟩:=id d;obtain⟨pre1,post1,C,f1⟩:=ht.rc _ T;dsimp only at C;rw[show e'.1=k.hash from by rw[U],R,e,<- bE]at C;have hm:=rn (occ:=t.place.toList) S (gM1 (by rw[aT1];exact F)) f1 C.symm;have wq:=Dw ht.up F;rcases aG.mp hm with p|p
    ·exact(X _ p).2 e' (by rw[wq];exact H) d
    ·refine(h1 _ p).2 ?_;rw[wq,H,U];rfl
  ·generalize D:SetTable.probe t _ k.hash (b.getD (t.probeStart k.hash))=met;have D:=D.symm.trans hg;subst D;have wq:=pH ht.up V;have ao:RL t.place y<es.size:=by rw[<- ht.sz];exact(Array.getElem?_eq_some_iff.mp wq).1
   have g:=aG1 ao;generalize es[RL t.place y]=e0 at g;have I:e0∈es.toList:=gM1 (by rw [aT1];exact g);obtain ⟨k',N,rfl,d,G⟩:=he e0 I;dsimp only;have B:dz (PB prog w) A (do
     let equal<-PV [Pr N] (eqBool (Pr N) (.ref x))
     let (es',_,t')<-setState a
     if(av&&equal)=M then return SetFound.there Y
     let Z same:=t'.sameMemory t.moves t.mask|unsupported "set.changed-during-lookup:is-the-new-block-at-the-old-address"
     let still<-match (if same=M then t'.slot y else .empty)with
      | .live W=>match es'[W]? with
       |some (_,y')=>do pure (if(<- isSame y' (.ref N))=M then Z W else Y)
       |none=>pure Y
      |_=>pure Y
     match still with
     |none=>do rule "set.search.anew";setSearchFrom a (.ref x) k.hash av n Y
     |some W=>if equal=M then return .there (Z W)else setSearchFrom a (.ref x) k.hash av n (Z q)) Q E s:=by
    refine wB1 (PY (Hm 8 G hu d hk _ _ _ _ ?_));refine wB1 (RP ho O hf ?_);dsimp only;by_cases aq:k'=k
    ·subst aq;rw[ah O];cases av with
     |true=>exact wP1 (q1 ⟨_,I,N,O,d,G⟩ 0)
     |false=>
      simp only[Bool.false_and,bF1,QA];rw[show t.sameMemory t.moves t.mask=Z M from by unfold SetTable.sameMemory;simp];dsimp only;rw[ak O,sf ht.up V];dsimp only;rw[g];dsimp only;refine wB1 ?_;refine Ra (a:=M) (by unfold isSame;simp) ?_;rw[ak O];refine wB1 (wP1 ?_);exact wP1 (q1 ⟨_,I,N,O,d,G⟩ _)
    ·rw[ai aq];simp only[Bool.and_false,bF1,QA];rw[show t.sameMemory t.moves t.mask=Z M from by unfold SetTable.sameMemory;simp];dsimp only;rw[ak O,sf ht.up V];dsimp only;rw[g];dsimp only;refine wB1 ?_;refine Ra (a:=M) (by unfold isSame;simp) ?_;rw[ak O];refine wB1 (wP1 ?_);dsimp only;refine ih m (c++r++[y]) (Z q) ?_ hq ?_ λz T=>?_
     ·rw[R,e];simp
     ·rw[e]at hl;simp at hl;lia
     ·rcases aG.mp T with p|p
      ·rcases aG.mp p with au|au
       ·exact X z au
       ·refine⟨(h1 z au).1,λC l K=>(h1 z au).2 ?_⟩;obtain⟨a1,rfl,_⟩:=K;rw[l];rfl
      ·have:z=y:=by simpa using p
       subst this;refine⟨V,λC l K=>aq ?_⟩;rw[g]at l;obtain⟨a1,o,hi1,_⟩:=K;cases l;injection o with _ o;injection o with o;subst o;exact d.inj hi1
   by_cases u:t.led=M
   ·rw[u];simp only[bY,bF1,QA];rw[g];exact B
   ·rw[cG]at u;rw[u];simp only[cI,QC];refine wB1 (EE hk hd _ (λv hv=>?_) ?_)
    ·obtain⟨C,l,rfl⟩:=cf.mp hv;rw[Array.toList_filter]at l;obtain⟨k1,a1,rfl,g1,g2⟩:=he C ((aB.mp l).1);exact⟨k1,a1,O,g1,g2⟩
    ·simp only[bF1,QA];rw[g];exact B
end
theorem eZ.keepsS{h h':dB}{p:dk}{es:Array (Int×di)}{ep:Nat}{t:Q3}(ho:h.get? p=some (stO es ep t))(hs:∀ a o,a≠p->h.get? a=some o->h'.get? a=some o):∀ {k:TK} {v:di},eZ h k v->eZ h' k v:=fun f=>f.rec (motive_1:=fun k v _=>eZ h' k v) (motive_2:=fun k v _=>fm h' k v) .non .int
  (λ{a} _ _ _ _ c e d _ ih=>.tup (hs a _ (λz=>by subst z;rw[c]at ho;cases ho;cases d) c) e d ih) .nil (λ_ _ a b=>.cons a b)
theorem eZ.grows{h h':dB}(hs:∀ a o,h.get? a=some o->h'.get? a=some o):∀ {k:TK} {v:di},eZ h k v->eZ h' k v:=fun f=>f.rec (motive_1:=fun k v _=>eZ h' k v) (motive_2:=fun k v _=>fm h' k v) .non .int
  (λ{a} _ _ _ _ c e d _ ih=>.tup (hs a _ c) e d ih) .nil (λ_ _ a b=>.cons a b)
def kG(ks:List TK)(k:TK):List TK:=if k∈ks then ks else ks++[k]
def ddK(ks:List TK):List TK:=ks.foldl kG []
theorem Dd(ks:List TK)(k:TK):(kG ks k).length<=ks.length+1:=by unfold kG;split<;>simp
theorem mT:∀(ns acc:List TK),(ns.foldl kG acc).length<=acc.length+ns.length
 |[],acc=>by simp
 |n::ns,acc=>by
  rw[b4];have h1:=mT ns (kG acc n);have h2:=Dd acc n;rw[lC1];lia
theorem EH.keep{h h':dB}{p:dk}{es:Array (Int×di)}{ep:Nat}{t:Q3}(ho:h.get? p=Z (stO es ep t))(hs:∀a o,a≠p->h.get? a=Z o->h'.get? a=Z o){k:TK}{e:Int×di}(x:EH h k e):EH h' k e:=by
 obtain⟨a,b,c,d⟩:=x;exact⟨a,b,c.keepsS ho hs,d⟩
theorem tm{es:Array (Int×di)}{t:Q3}(h:sTT es t):t.tooFull=decide (es.size*5>=t.mask*3):=by
 unfold SetTable.tooFull SetTable.fill;rw[h.du,h.sz];rfl
def wV(h:dB)(xs:List (TK×dk×di)):Prop:=∀z∈xs,eZ h z.1 (.ref z.2.1)/\z.1.dep<=8
theorem wV.el{h:dB}{xs:List (TK×dk×di)}{es:Array (Int×di)}(b:wV h xs)(a:∀e∈es.toList,∃z∈xs,e=(z.1.hash,.ref z.2.1)):∀e∈es.toList,∃f,EH h f e:=λe d=>by
 obtain⟨z,c,rfl⟩:=a e d;exact⟨z.1,z.2.1,O,(b z c).1,(b z c).2⟩
theorem wV.found{h:dB}{xs:List (TK×dk×di)}{es:Array (Int×di)}{k:TK}(f:wV h xs)(i:∀e∈es.toList,∃z∈xs,e=(z.1.hash,.ref z.2.1))(d:∀z∈xs,(z.1.hash,Pr z.2.1)∈es.toList):(∃e∈es.toList,EH h k e)↔k∈xs.map (·.1):=by
 constructor
 ·rintro⟨e,j,a,l,g,_⟩;obtain⟨z,b,c⟩:=i e j;rw[l]at c;injection c with _ c;injection c with c;refine cf.mpr ⟨z,b,?_⟩;have:=(f z b).1;rw[<- c]at this;exact this.inj g
 ·intro g;obtain⟨z,b,rfl⟩:=cf.mp g;exact⟨_,d z b,z.2.1,O,(f z b).1,(f z b).2⟩
section
variable{P:dn}{w:dr}{A:dq}{E:di->dj->Prop}{s:dj}{p:dk}{xs:List (TK×dk×di)}
theorem AO{m:Nat}(h:ze m):Q1 m<=142:=by unfold Q1;rcases h with z|z|z<;>rw[z]<;>decide
def mn(xs:List (TK×dk×di))(k:TK)(x:dk):List (TK×dk×di):=if k∈xs.map (·.1)then xs else xs++[(k,x,.none)]
theorem NX{k:TK}{x:dk}{Q:Bool->dj->Prop}(hu:A.units+8<Ql)(hS:vD p xs s.heap)(V:wV s.heap xs)(hb:xs.length<76)(hk:eZ s.heap k (.ref x))(hd:k.dep<=8)(q:∀c h',Pz p s.heap h'->vD p (mn xs k x) h'->Q c {s with heap:=h'}):dz (PB P w) A (setAddHashed p (.ref x) k.hash) Q E s:=by
 obtain⟨nd,es,ep,t,I,B,ao,g,D,U⟩:=id hS;have hf:=B.fits;unfold setAddHashed setAddHashedIn;refine PY (wB1 (RP I O hf ?_));dsimp only;rw[show byScan (Pr x) es=J from rfl];simp only[bF1,QA];unfold setSearch;refine wB1 (Nn M hu I B (V.el g) hk hd ?q1 ?q2 100000 (nA t.mask k.hash) [] Y O (yW t k.hash) ?ln (λy hy=>by cases hy))
 case q1=>
  intro h _;have av:=(V.found g D).mp h;have C:mn xs k x=xs:=by unfold mn;rw[ak av]
  rw[C]at q;exact wP1 (q _ s.heap (Heap.SameBut.refl p s.heap) hS)
 case q2=>
  intro j T H ew hp hj S;dsimp only;have hn:k∉xs.map (·.1):=λz=>by obtain⟨e,o,h⟩:=(V.found g D).mpr z;exact S e o h
  have C:mn xs k x=xs++[(k,x,.none)]:=by unfold mn;rw[aj hn]
  rw[C]at q;refine wB1 (RP I O hf ?_);dsimp only;have hjm:j<=t.mask:=AH k.hash j (by rw[ew];simp);rw[tm B]at ao;have ao:¬ es.size*5>=t.mask*3:=by simpa using ao
  have v:es.size+1<=t.mask:=by rcases B.mks with z|z|z<;>rw[z]at ao ⊢ <;> lia
  have F:sTT (RM es (t.put j).2 (k.hash,.ref x)) (t.put j).1:=B.put hjm hj ⟨T,H,ew,hp⟩ v;have R:(RM es (t.put j).2 (k.hash,Pr x)).size=(xs++[(k,x,Pp)]).length:=by rw[il,U,lA1];rfl
  have n:(RM es (t.put j).2 (k.hash,Pr x)).size<=dy:=by rw[R,lA1,Qh];simp;lia
  have sb:=Rf s.heap p (Obj.putSet (RM es (t.put j).2 (k.hash,.ref x)) (t.put j).1);have aq:=sA (fs:=RM es (t.put j).2 (k.hash,.ref x)) (u:=(t.put j).1) I;have K:((xs++[(k,x,Pp)]).map (·.1)).Nodup:=by
   rw[cc,bx];exact⟨nd,by simp,λa ha b hb e=>by simp at hb;subst hb;subst e;exact hn ha⟩
  have e1:∀e∈(RM es (t.put j).2 (k.hash,Pr x)).toList,∃z∈xs++[(k,x,Pp)],e=(z.1.hash,.ref z.2.1):=λe o=>by
   rw[nW]at o;rcases o with rfl|o
   ·exact⟨_,mA1 _ mS1,O⟩
   ·obtain⟨z,h1,h2⟩:=g e o;exact⟨z,aH _ h1,h2⟩
  have a1:∀z∈xs++[(k,x,Pp)],(z.1.hash,Pr z.2.1)∈(RM es (t.put j).2 (k.hash,Pr x)).toList:=λz W=>by
   rw[nW];rcases aG.mp W with au|au
   ·exact .inr (D z au)
   ·rw[cv.mp au];exact .inl O
  have tail:dz (PB P w) A (do
    storeSet p (RM es (t.put j).2 (k.hash,.ref x)) (t.put j).1
    if (!false&&(t.put j).1.tooFull)=true then do
      setRelay p (RQ (es.size+1))
      pure M
     else pure M) Q E s:=by
   refine wB1 (RR I O ?_ n);by_cases f:(t.put j).1.tooFull=M
   ·rw [f];simp only [cI,bJ,QC];refine wB1 ?_;unfold setRelay;refine wB1 (RP (s:={s with heap:=s.heap.update p _}) aq rfl F.fits ?_);dsimp only;have N:=f;rw [tm F,il] at N;have N:(es.size+1)*5>=t.mask*3:=Q4 N;have e4:∃ m,ze m/\SetTable.sizeAbove (RQ (es.size+1))=m+1/\es.size+1<=m/\(es.size+1)*5<m*3:=by
     rcases B.mks with z|z|z<;>rw[z]at ao N
     ·have:es.size=4:=by lia
      rw[this];exact⟨31,.inr (.inl O),O,by decide,by decide⟩
     ·have:es.size=18:=by lia
      rw[this];exact⟨127,.inr (.inr O),O,by decide,by decide⟩
     ·lia
    obtain⟨m,hm,em,wq,hm2⟩:=e4;rw[aj (by rw[em,Qh];rcases hm with z|z|z<;>rw[z]<;>decide)];obtain⟨t2,d,er,i,L,r,_,X⟩:=FZ (m:=m) (fi:=(t.put j).1.finger) (mo:=(t.put j).1.movedTo m) (l:=(t.put j).1.led) (p:=(t.put j).1.plain) hm (es:=RM es (t.put j).2 (k.hash,.ref x)) (by rw[il];exact wq);refine wB1 ?_;rw[show(t.put j).1.relaid ((RM es (t.put j).2 (k.hash,Pr x)).map (·.1)) (RQ (es.size+1))=Z (t2,d)from by unfold SetTable.relaid;rw[em,Nat.add_sub_cancel];exact er];have z2:(d.filterMap ((RM es (t.put j).2 (k.hash,Pr x))[·]?)).size=(xs++[(k,x,Pp)]).length:=i.trans R;show dz _ _ (if((d.filterMap ((RM es (t.put j).2 (k.hash,Pr x))[·]?)).size != (RM es (t.put j).2 (k.hash,Pr x)).size)=M then _ else _) _ _ _;rw[i];simp only[bne_self_eq_false,bF1,QA];refine wP1 ?_;dsimp only;refine RR aq O ?_ (by rw[i];exact n);refine wP1 (q _ _ (sb.trans (Rf _ p _)) ⟨K,_,_,_,sA aq,L,?_,λe o=>e1 e ((r e).mp o),λz W=>(r _).mpr (a1 z W),z2⟩);rw[tm L,X,i,il];exact ai (by lia)
   ·rw[cG]at f;rw[f];simp only[Bool.and_false,bF1,QA];exact wP1 (q _ _ sb ⟨K,_,_,_,aq,F,f,e1,a1,R⟩)
  by_cases G:(t.put j).1.plain=M
  ·rw[G];simp only[QC];refine wB1 (J0 8 hd hk ?_);exact tail
  ·rw[cG]at G;rw[G];simp only[bF1,QA];refine wB1 (wP1 ?_);exact tail
 case ln=>
  have:=w9 t.mask k.hash;have:=AO B.mks;lia
end
def vB(p:dk)(n:Nat)(h:dB):Prop:=∃es ep t,h.get? p=Z (stO es ep t)/\t.fits es.size=M/\es.size=n/\n<=76
theorem fm.mem{h:dB}:∀{ks:List TK} {vs:List di},fm h ks vs -> ∀(i:Nat) (v:di),vs[i]?=Z v -> ∃k,ks[i]?=Z k/\eZ h k v
 |_,_,.nil,i,v,e=>by simp at e
 |_,_,.cons r t,0,v,e=>by simp at e;subst e;exact⟨_,O,r⟩
 |_,_,.cons r t,i+1,v,e=>fm.mem t i v (by simpa using e)
def vR(k:TK):Bool:=match k with
 | .tup _=>decide (k.dep<=8)
 |_=>J
theorem AS{h:dB}{k:TK}{v:di}(hk:vR k=M)(h1:eZ h k v):k.dep<=8 /\ ∃a,v = .ref a:=by
 cases h1 with
 |non=>cases hk
 |int=>cases hk
 | @tup a=>exact⟨by simpa[vR]using hk,a,O⟩
section
variable{P:dn}{w:dr}{A:dq}{E:di->dj->Prop}
theorem za{p l it:dk}{its:Array di}{ns:List TK}{R:Qm->dj->Prop}(hh:A.handled=none)(hu:A.units+20<Ql)(hT:∀ k∈ns,vR k=true)(hb:ns.length<=76)(n1:p≠l)(K:p≠it)(n3:it≠l):
  ∀(k i:Nat) (s:dj) (xs:List (TK×dk×di)),its.size-i=k->i<=its.size->s.heap.IsListIter it l i->s.heap.IsList l its->fm s.heap ns its.toList->vD p xs s.heap->wV s.heap xs->xs.map (·.1)=(ns.take i).foldl kG [] ->
  (∀h' tk,(∀c o,c≠p->c≠it->s.heap.get? c=Z o->h'.get? c=Z o)->vB p (ddK ns).length h'->R (.ok (.ret .none)) {s with heap:=h',toks:=tk})->dA (PB P w) A (.builtin "set.update.loop" ⟨[.ref p,.ref it],[]⟩) R s:=by
 intro k
 induction k with
 |zero=>
  intro i s xs hk hi st Q I N W m q;have e:i=its.size:=by lia
  subst e;refine wD1 RU (?_:_);rw[Rz RV _];show dz _ A.in1 (P5 (.ref it) >>= _) _ _ s;refine wB1 (Qa (by simpa using hh) st Q (by simp) λh' eb=>wP1 ?_);refine q h' s.toks (λc o _ hc e=>eb c o hc e) ?_;have D:its.size=ns.length:=by rw[<- aK];exact I.split.symm
  obtain⟨_,es,ep,t,G,tt,_,_,_,y⟩:=N;rw[D,bU]at m;have au:xs.length=(ddK ns).length:=by have:=congrArg List.length m;rw[lM1]at this;exact this
  refine⟨es,ep,t,eb p _ K G,tt.fits,y.trans au,?_⟩;have:=mT ns [];unfold ddK;simp at this;lia
 |succ k ih=>
  intro i s xs hk hi st Q I N W m q;have ao:i<its.size:=by lia
  have hx:=aG1 ao;obtain⟨B,ek,n⟩:=I.mem i _ (by rw[aT1];exact hx);have X:B∈ns:=gM1 ek;obtain⟨hd,T,ex⟩:=AS (hT B X) n;refine wD1 RU (?_:_);rw[Rz RV _];show dz _ A.in1 (P5 (.ref it) >>= _) _ _ s;refine wB1 (P9 st Q hx λh' st' L=>?_);rw[ex]at n ⊢;have d:∀{k:TK} {v:di},eZ s.heap k v->eZ h' k v:=λav=>by
   refine av.rec (motive_1:=λk v _=>eZ h' k v) (motive_2:=λk v _=>fm h' k v) .non .int (λ{a} _ _ _ _ e1 c1 d1 _ ih=>.tup ((L.2 a λz=>?_).trans e1) c1 d1 ih) .nil (λ_ _ a b=>.cons a b);subst z;obtain⟨o,e2,c2,_⟩:=st;rw[e1]at e2;cases e2;rw[c1]at c2;exact absurd c2 (by decide)
  show dz _ A.in1 (PV [Pr T] (setAdd p (.ref T)) >>= _) _ _ _;refine wB1 (PY ?_);unfold setAdd;have F:A.in1.units=A.units+1:=rfl;refine PY (wB1 (s7 B (by rw[F];lia) (d n) ?_));obtain⟨es,ep,t,C⟩:∃es ep t,h'.get? p=some (stO es ep t):=by
   obtain⟨_,es,ep,t,G,_⟩:=N;exact⟨es,ep,t,by rw[L.2 p K];exact G⟩
  have hS':vD p xs h':=by
   obtain⟨nd,es,ep,t,G,rr⟩:=N;exact⟨nd,es,ep,t,by rw[L.2 p K];exact G,rr⟩
  have u:wV h' xs:=λz y=>⟨d (W z y).1,(W z y).2⟩;have U:=mT (ns.take i) [];have hxl:xs.length=((ns.take i).foldl kG []).length:=by have:=congrArg List.length m;rw[lM1]at this;exact this
  refine NX (s:={s with heap:=h',toks:=s.toks+B.draws}) (by rw[F];lia) hS' u (by
   have D:its.size=ns.length:=by rw[<- aK];exact I.split.symm
   rw[hxl];rw[aR,bf]at U;lia) (d n) hd λc h2 j hS2=>?_
  have ef:kG ((ns.take i).foldl kG []) B=(ns.take (i+1)).foldl kG []:=by
   rw[cg,ek,ci];rfl
  have H:(mn xs B T).map (·.1)=(ns.take (i+1)).foldl kG []:=by
   rw[<- ef,<- m];unfold mn kG;by_cases S:B∈xs.map (·.1)
   ·rw[ak S,ak S]
   ·rw[aj S,aj S,cc];rfl
  have kk:∀c o,c≠p->c≠it->s.heap.get? c=Z o->h2.get? c=Z o:=λc o h1 V e=>by rw[j.2 c h1];show h'.get? c=_;rw[L.2 c V];exact e
  have keepIt:∀o,h'.get? it=Z o->h2.get? it=Z o:=λo e=>by rw[j.2 it (Py K)];exact e
  have wq:∀{h E:dB} {a:List TK} {b:List di},(∀{k v},eZ h k v->eZ E k v)->fm h a b->fm E a b:=λ{h E a b} f av=>by
   induction a generalizing b with
   |nil=>cases av;exact .nil
   |cons k a ih=>cases av with|cons r t=>exact .cons (f r) (ih t)
  refine wP1 ⟨Ry RV _,ih (i+1) {s with heap:=h2,toks:=s.toks+B.draws} (mn xs B T) (by lia) ao (st'.at keepIt) ?_ ?_ hS2 ?_ H λV tk k3 x3=>?_⟩
  ·obtain⟨o,e,r⟩:=Q;exact⟨o,kk l o (Py n1) (Py n3) e,r⟩
  ·exact wq (λx=>(d x).keepsS C λa o g e=>by rw[j.2 a g];exact e) I
  ·intro z y;unfold mn at y;split at y
   ·exact⟨(u z y).1.keepsS C λa o g e=>by rw[j.2 a g];exact e,(u z y).2⟩
   ·rcases aG.mp y with aq|aq
    ·exact⟨(u z aq).1.keepsS C λa o g e=>by rw[j.2 a g];exact e,(u z aq).2⟩
    ·rw[cv.mp aq];exact⟨(d n).keepsS C λa o g e=>by rw[j.2 a g];exact e,hd⟩
  ·exact q V tk (λc o h1 h4 e=>k3 c o h1 h4 (kk c o h1 h4 e)) x3
theorem Ae{s:dj}{l:dk}{its:Array di}{ns:List TK}{Q:di->dj->Prop}(H:A.handled=Y)(K:A.units+24<Ql)(j:s.heap.IsList l its)(C:fm s.heap ns its.toList)(u:∀ k∈ns,vR k=M)(hb:ns.length<=76)(q:∀h' tk,(∀c o,s.heap.get? c=Z o->h'.get? c=Z o)->vB s.heap.objs.size (ddK ns).length h'->Q (.ref s.heap.objs.size) {s with heap:=h',toks:=tk}):dz (PB P w) A (call (.type "set") [.ref l]) Q E s:=by
 have g:l<s.heap.objs.size:=by obtain⟨o,e,_⟩:=j;exact hL1 e
 refine pF j λao y n R I=>?_;have B:(s.heap.push (stO #[] 0 (.fresh 0 0 (!byT w)))).objs.size=s.heap.objs.size+1:=by rw[hZ1]
 have p:(s.heap.push (stO #[] 0 (.fresh 0 0 (!byT w)))).get? s.heap.objs.size=Z (stO #[] 0 (.fresh 0 0 (!byT w))):=hS1 _ O;have i:∀{h d:dB} {a:List TK} {b:List di},(∀{k v},eZ h k v->eZ d k v)->fm h a b->fm d a b:=λ{h d a b} f m=>by
  induction a generalizing b with
  |nil=>cases m;exact .nil
  |cons k a ih=>cases m with|cons r t=>exact .cons (f r) (ih t)
 refine za (its:=its) (ns:=ns) (y.trans H) (by lia) u hb (nG1 g) (nN1 (bB _)) (nG1 (cj g)) _ 0 _ [] rfl (bi _) ?_ ?_ ?_ ?_ (λz D=>by cases D) O λh' tk k x=>I _ (q h' tk (λc o e=>k c o (nN1 (hL1 e)) (nN1 (cj (hL1 e))) (hP1 _ (hP1 _ e))) x)
 ·refine⟨{cls:=.type "list_iterator",data:=.fields #[.ref l,.int 0 0]},?_,O,O⟩;have this:((s.heap.push (stO #[] 0 (.fresh 0 0 (!byT w)))).push {cls:=.type "list_iterator",data:=.fields #[.ref l,.int 0 0]}).get? (s.heap.push (stO #[] 0 (.fresh 0 0 (!byT w)))).objs.size=Z {cls:=.type "list_iterator",data:=.fields #[.ref l,.int 0 0]}:=hS1 _ O;rw[B]at this;exact this
 ·obtain⟨o,e,r⟩:=j;exact⟨o,hP1 _ (hP1 _ e),r⟩
 ·exact i (λx=>x.grows λa o e=>hP1 _ (hP1 _ e)) C
 ·exact⟨bp,#[],0,_,hP1 _ p,sTT.fresh _,O,(λe F=>by simp at F),(λk G=>by cases G),O⟩
end
def q3:List D->Option (List TK)
 |[]=>Z []
 |d::ds=>(keyT d).bind λk=>(q3 ds).map (k :: ·)
theorem uN:∀{ds:List D} {ks:List TK},q3 ds=Z ks->jz ks=ds/\(∀k∈ks,vR k=M)/\ks.length=ds.length
 |[],ks,h=>by cases h;exact⟨O,(λk f=>by cases f),O⟩
 |d::ds,ks,h=>by
  rw[q3]at h;obtain⟨k,b,h⟩:=Sa h;obtain⟨g,e,h⟩:=Sb h;subst h;obtain⟨h1,h2,xs,i⟩:=lY b;obtain⟨c,m,j⟩:=uN e;refine⟨by rw[jz,h1,c],λl a=>?_,by simp[j]⟩;rcases aF.mp a with z|z
  ·subst z;subst i;simpa[vR]using h2
  ·exact m l z
def jT:G1:=λd S=>match dZ S d with
 |some (M,xs)=>(q3 xs).bind λks=>if ks.length<=76 then Z (.int (ddK ks).length,S)else Y
 |_=>Y
def Ll(X:Cx)(vs:List V)(H:Hp)(Q:VK):Prop:=∃a xs ks mu,vs=[.ref a]/\mX X.K H a xs/\dX X.K H mu (jz ks) xs/\(∀k∈ks,vR k=M)/\ks.length<=76 /\ ∀p,H p=Y->Q (.ref p) (upd H p (.ext (vB p (ddK ks).length)))
def Ln(X:Cx)(vs:List V)(H:Hp)(Q:VK):Prop:=∃a n,vs=[.ref a]/\H a=Z (.ext (vB a n))/\Q (.int n) H
theorem Kj(hc:X.calm=M)(w:X.A.units+64<Ql):eQ X (.type "set") (Ll X):=by
 intro ag s σ H xs n Q I r h;obtain⟨a,vs,ks,mu,rfl,m,l,f,j,q⟩:=h;obtain⟨u,rfl,r2⟩:=iR r;cases r2;obtain⟨g,d,p,v⟩:=I.list m;have i:=vT I ks l d;refine Ae (I.ok.hd hc) (by lia) p.isList (by simpa using i) f j λh' tk keep c=>?_;have b:=I.hok.fresh (nR1 s.heap.objs.size);refine⟨.ref s.heap.objs.size,_,I.laid (t':=tk) (o:=.ext (vB s.heap.objs.size (ddK ks).length)) keep (nR1 _) ⟨c,?_,λh1 h2 ⟨es,ep,t,e,r⟩ k=>⟨es,ep,t,k _ e,r⟩⟩,O,q _ b⟩;obtain⟨es,ep,t,e,_⟩:=c;exact⟨_,e⟩
theorem Kl:eQ X (.builtin "len") (Ln X):=by
 intro ag s σ H xs f Q I r h;obtain⟨a,n,rfl,c,q⟩:=h;obtain⟨u,rfl,r2⟩:=iR r;cases r2;obtain⟨⟨es,ep,t,e,b,d,g⟩,_⟩:=(show eP X.prog X.w H s.heap a (.ext (vB a n))from I.hok a _ c);refine PySem.call_len_set e (by first|exact rfl|exact⟨rfl,rfl,rfl⟩|exact⟨rfl,rfl⟩) rfl b (by lia) ?_;refine⟨.int es.size,H,I.tok _,⟨_,O⟩,?_⟩;rw[d];exact q
theorem AB (hc:X.calm=true)(k:X.A.units+64<Ql){o:Expr}{m:FE}{p p2 pos b:Pos}(hg:Gl X "len")(hm:X.mg "len"=none)(hg2:Gl X "set")(hm2:X.mg "set"=none)(ho:XE X o m)
  (he:autoParam (dw [.Call (.Name "set" p2) [o] [] b] X.env=[(J,eval (.Call (.Name "set" p2) [o] [] b) X.env)]) cu0) (c:autoParam (dw [o] X.env=[(J,eval o X.env)]) cu0):XE X (.Call (.Name "len" p) [.Call (.Name "set" p2) [o] [] b] [] pos) (mN (b1 jT) (dG m dH)):=
 ⟨eM (lM Kl hg hm (by decide+kernel) (iE (kj (Kj hc k) hg2 hm2 (by decide+kernel) (iE ho.h lh c) (he:=c)) lh he) (he:=he)) <| by
  rintro σ H Q ⟨r,mu,S,d,D,he,i,hm,f⟩;obtain⟨⟨ds,E⟩,e,hm⟩:=Sa hm;obtain⟨⟨A,F⟩,x,e⟩:=Sa e;cases e;dsimp only[b1,jT]at hm;split at hm
  ·rename_i xs y;obtain⟨ns,j,hm⟩:=Sa hm;split at hm
   ·rename_i B;cases hm;refine⟨r,mu,S,A,_,he,i,x,λv H1 mu1 s l h=>?_⟩;obtain⟨a,vs,rfl,q,t⟩:=dW l h y;obtain⟨z,w,_⟩:=uN j;refine⟨a,vs,ns,mu1,O,q,by rw[z];exact t,w,B,λp g=>?_⟩;refine⟨p,(ddK ns).length,O,d9,?_⟩;have n:Ext mu1 mu1 H1 (upd H1 p (.ext (vB p (ddK ns).length))):=Ext.fresh g;have C:=h.fresh (u:=.ext (vB p (ddK ns).length)) g;exact f _ _ mu1 (s.trans n) (.int _) C
   ·cases hm
  ·cases hm⟩
section
variable{pos:Pos}
theorem gn(i:Nat){x:Str}(hN:X.N.Nodup)(hi:autoParam (X.N[i]?=Z x) cu0)(hx:autoParam (vE X.env.scope x) au0)(hf:autoParam (X.fn x=M\/X.env.scope.names.lookup x=Z .local) au0):XG X (.Name x pos) (gN i):=qO i hN hi hx hf
theorem ce{op:Qf}{x y:Expr}{f:FN}{a b:FE}(ho:gE X (Qe op) (r2 X.K f))(hx:XE X x a)(hy:XE X y b)(hm:Qg op y=J:=by exact B4 _):XE X (.Compare x [op] [y] pos) (m2 f a b):=Eg ho hx hy hm
theorem ct{op:Qf}{x y:Expr}{f:FN}{a b:FE}(ho:gE X (Qe op) (r2 X.K f))(hx:XE X x a)(hy:XE X y b)(hm:autoParam (Qg op y=J) ce._auto_1):XT X (.Compare x [op] [y] pos) (mB (m2 f a b)):=qX ho hx hy hm
theorem kc{a:dF}{i:Nat}{l:List Nat}(x:Str)(r:∀i∈l,∃x,X.N[i]?=Z x/\a.names.lookup x=Z .free/\(X.env.kindOf x=Z .cell\/X.env.kindOf x=Z .free)/\(x,Q5)∉a.names)(h1:autoParam (X.N[i]?=Z x) cu0)(h2:autoParam (a.names.lookup x=Z .free) cu0)(c:autoParam (X.env.kindOf x=Z .cell\/X.env.kindOf x=Z .free) au0)(b:autoParam ((x,Q5)∉a.names) eu0):∀j∈i::l,∃x,X.N[j]?=Z x/\a.names.lookup x=Z .free/\(X.env.kindOf x=Z .cell\/X.env.kindOf x=Z .free)/\(x,Q5)∉a.names:=List.forall_mem_cons.mpr ⟨⟨x,h1,h2,c,b⟩,r⟩
end
structure d7 (K:Fg1)(x:Str)(st:dE)(f:dk):Prop where
 ns:wN1 K dv x=some (some (.ref f))
 fn:∃fd,As K x x st f fd
theorem L7{K:Fg1}{x:Str}{st:dE}{f:dk}{i:di}{j g:Option dk}{d:Array (Option di)}{kV e h b ct:di}(a:wN1 K dv x=Z (Z (.ref f)))(l:K.lookup f=Z ⟨i,j,.func (wF1 x x (iJ st) (fA st) (d5 st) .none kV e h g b ct),d⟩)(c:wC1 K b x=M)(k:wK1 K (.ref f)=M):d7 K x st f:=⟨a,_,CY l c k⟩
theorem xo{P:dn}{w:dr}{K:Fg1}{mg:Str->Option di}{base h:dB}{x:Str}{st:dE}{f:dk}{N ps:List Str}{k n:Nat}{b:FS}(X:K.In h)(G:h.Ns dv mg)(F:d7 K x st f)(S:gR N ps (d5 st))(hb:∀(kV g l:di) (j:Option dk) (a ct:di) (e:List di),e.length=ps.length->bindArgs (wF1 x x (iJ st) (fA st) (d5 st) .none kV g l j a ct) ⟨e,[]⟩=pure (ps.zip e))(d:∀(f:dk) (a:di) (A:dq) (c:List Env) (s:dj) (H:Hp) (E:XK),fQ k (A.deeper (Qr x (d5 st) s.heap.objs.size f a)) ->
   wQ (nM vF P w K mg base N x (d5 st) f a A c s H E).nox (fA st) b)(hn:autoParam (ps.length=n) cu0):eR P w K mg base (k+1) x n (gM N.length b):=by
 obtain⟨fd,i⟩:=F.fn;exact Ec i (i.binds hb) (wM1 X G F.ns) S hn (d f)
section
variable{ag:List (dk×Obj)}{σ:L2.St}{H:Hp}{s:dj}{mu:List dk}
end
section
variable{P:dn}{w:dr}{A:dq}{E:di->dj->Prop}{s:dj}{a x:dk}{xs:List (TK×dk×di)}{k:TK}
end
section
variable{o e:Expr}{es:List Expr}{to:TE}{t:TA}{name:Str}{apos cpos:Pos}{id:String}{r:V->List V->Hp->VK->Prop}
end
section
variable{x y z u:Expr}{pos:Pos}{f g k:FN}{a b c d:FE}{op op' op'':Qf}{ta tb tc td:TE}
end
structure Blt (L:List Str)(mg:Str->Option di):Prop where
 h:∀x∈L,mg x=none
theorem bz{L:List Str}{mg:Str->Option di}{x:Str}(B:Blt L mg)(h:autoParam (x∈L) bu0):mg x=Y:=B.h x h
theorem sk{N P:List Str}{sc:dF}(h1:autoParam (sc.kind = .function) cu0)(h2:autoParam (sc.isCoroutine=J) cu0)(d:autoParam (sc.isGenerator=J) cu0)(a:autoParam (N.Nodup) eu0)(e:autoParam (N.take P.length=P) cu0)(c:autoParam (∀x∈P,sc.names.lookup x=Z .local\/sc.names.lookup x=Z .cell) eu0)(b:autoParam (∀y∈sc.names,y.2 ≠ .free) eu0):gR N P sc:=⟨h1,h2,d,a,e,c,b⟩
def Mz(K:Fg1):List Str->Prop
 |[]=>True
 |x::l=>wN1 K dv x=Z Y/\Mz K l
theorem Mz.blt{K:Fg1}{mg:Str->Option di}{h:dB}(X:K.In h)(G:h.Ns dv mg):∀{L:List Str},Mz K L->Blt L mg
 |[],_=>⟨λ_ m=>nomatch m⟩
 |_::_,z=>⟨λ_ m=>match m with
  | .head _=>PySem.W.mg_none_of X G z.1
  | .tail _ m=>(Mz.blt X G z.2).h _ m⟩
def MR:List Str->Bool
 |[]=>M
 |x::l=> !l.contains x&&MR l
theorem gF:∀{l:List Str},MR l=M->l.Nodup
 |[],_=>bp
 |x::l,h=>by
  obtain⟨a,b⟩:=(bA1 _ _).mp h;exact aO.mpr ⟨λm=>(by rw[cJ.mpr m]at a;cases a),gF b⟩
section
variable{pos:Pos}{k:Nat}{x:Str}{i:Nat}{e y:Expr}{es:List Expr}{m b:FE}{a:FA}{p:Pos}
theorem xv (hN:autoParam (X.N[i]?=Z x) cu0)(hv:autoParam (Vis X.env.scope x) au0)(hd:autoParam ((x == ("__debug__":Str))=J) bu0)(hcd:autoParam ((x == ("__classdict__":Str))=J) bu0):XE X (.Name x pos) (mV i):=Oy i hN hv hd hcd
theorem gq(hN:autoParam (MR X.N=M) cu0)(hi:autoParam (X.N[i]?=Z x) cu0)(hx:autoParam (vE X.env.scope x) au0)(hf:autoParam (X.fn x=M\/X.env.scope.names.lookup x=Z .local) au0):XG X (.Name x pos) (gN i):=qO i (gF hN) hi hx hf
theorem sq(he:XE X e m)(hN:autoParam (MR X.N=M) cu0)(hi:autoParam (X.N[i]?=Z x) cu0)(hx:autoParam (vE X.env.scope x) au0)(hs:autoParam (PN e (Z (.Name x p)) pos.line X.env=pure J) cu0)(hf:autoParam (X.fn x=M\/X.env.scope.names.lookup x=Z .local) au0):XS X (.Assign [.Name x p] e pos) (dS m (gN i)):=qY i (gF hN) hi hx he hs hf
theorem jq(hx:XE X e m)(hy:XE X y b)(hr:autoParam (fQ k X.A) fu0)(hs:autoParam (oa y) yN._auto_1):XE X (.Subscript e y pos) (m2 (b2 dL) m b):=qJ (qP hr.units) hx hy hs
theorem oq{av:Prop}(o:X.A.units+64<Ql->av)(hr:autoParam (fQ k X.A) fu0):av:=o hr.units
theorem wn {k' n:Nat}{f:FN}(h:eR X.prog X.w X.K X.mg X.base k x n f)(ha:XA X (e::es) a)(hr:autoParam (fQ k' X.A) fu0)(hk:k<=k':=by first|decide|omega)(hg:autoParam (Gl X x) cu0)(hdb:autoParam ((x == ("__debug__":Str))=J) bu0)(he:autoParam (dw (e::es) X.env=(J,eval e X.env)::dw es X.env) cu0)(hpl:autoParam ((PC pos (dw es X.env)).any (·.1)=J) cu0):XE X (.Call (.Name x p) (e::es) [] pos) (mN (dI n f) a):=qH h hr hk hg ha hdb he hpl
theorem cn {id:String}{f:FN}(hc:eQ X (.builtin id) (rN X.K f))(ha:XA X (e::es) a)(hm:X.mg x=Y:=by exact bz (by assumption))(hg:autoParam (Gl X x) cu0)(hv:autoParam (Pv x=Z (.builtin id)) eu0)(hn:autoParam (x≠"__name__") bu0)(hdb:autoParam ((x == ("__debug__":Str))=J) bu0)(he:autoParam (dw (e::es) X.env=(J,eval e X.env)::dw es X.env) cu0)(hpl:autoParam ((PC pos (dw es X.env)).any (·.1)=J) cu0):XE X (.Call (.Name x p) (e::es) [] pos) (mN f a):=qD hc hg hm hv ha hn hdb he hpl
theorem cz {T:String}{f:FN}(hc:eQ X (.type T) (rN X.K f))(ha:XA X (e::es) a)(hm:autoParam (X.mg x=Y) cn._auto_1)(hg:autoParam (Gl X x) cu0)(hv:autoParam (Pv x=Z (.type T)) eu0)(hn:autoParam (x≠"__name__") bu0)(hdb:autoParam ((x == ("__debug__":Str))=J) bu0)(he:autoParam (dw (e::es) X.env=(J,eval e X.env)::dw es X.env) cu0)(hpl:autoParam ((PC pos (dw es X.env)).any (·.1)=J) cu0):XE X (.Call (.Name x p) (e::es) [] pos) (mN f a):=qE hc hg hm hv ha hn hdb he hpl
theorem a1(h:XE X e m)(hs:autoParam (dw [e] X.env=(J,eval e X.env)::dw [] X.env) cu0):XA X [e] (dG m dH):=qA h qN hs
theorem a2(h:XE X e m)(g:XE X y b)(hs:autoParam (dw [e,y] X.env=(J,eval e X.env)::dw [y] X.env) cu0)(hs2:autoParam (dw [y] X.env=(J,eval y X.env)::dw [] X.env) cu0):XA X [e,y] (dG m (dG b dH)):=qA h (a1 g hs2) hs
theorem a3{z:Expr}{c:FE}(h:XE X e m)(g:XE X y b)(l:XE X z c)(hs:autoParam (dw [e,y,z] X.env=(J,eval e X.env)::dw [y,z] X.env) cu0)(hs2:autoParam (dw [y,z] X.env=(J,eval y X.env)::dw [z] X.env) cu0)(a:autoParam (dw [z] X.env=(J,eval z X.env)::dw [] X.env) cu0):XA X [e,y,z] (dG m (dG b (dG c dH))):=qA h (a2 g l hs2 a) hs
theorem ir (ha:XA X [e] a)(hm:autoParam (X.mg "range"=Y) cn._auto_1)(hg:autoParam (Gl X "range") cu0)(hs:autoParam (dw [e] X.env=[(J,eval e X.env)]) cu0):XI X y (.Call (.Name "range" p) [e] [] pos) (nK a):=vL hg hm ha hs
theorem ie {elts:List Expr}{b:Nat}{tpos:Pos}(ha:XA X [e] a)(hm:autoParam (X.mg "enumerate"=Y) cn._auto_1)(hg:autoParam (Gl X "enumerate") cu0)(hs:autoParam (dw [e] X.env=[(J,eval e X.env)]) cu0):XI X (.Tuple elts b tpos) (.Call (.Name "enumerate" p) [e] [] pos) (qa a):=AA hg hm ha hs
theorem ii {T:Ty}{p2:Pos}(h:XE X e m)(hm:autoParam (X.mg "isinstance"=Y) cn._auto_1)(hm2:autoParam (X.mg x=Y) cn._auto_1)(hg:autoParam (Gl X "isinstance") cu0)(hg2:autoParam (Gl X x) cu0)(hv2:autoParam (Pv x=Z (.type T.nm)) eu0)(hn:autoParam (x≠"__name__") bu0)(hd:autoParam ((x == ("__debug__":Str))=J) bu0)(hs1:autoParam (dw [e,.Name x p2] X.env=(J,eval e X.env)::dw [.Name x p2] X.env) cu0)(hs2:autoParam (dw [.Name x p2] X.env=(J,eval (.Name x p2) X.env)::dw [] X.env) cu0)(hpl:autoParam ((PC pos (dw [.Name x p2] X.env)).any (·.1)=J) cu0):XE X (.Call (.Name "isinstance" p) [e,.Name x p2] [] pos) (sQ T m):=vM T hg hm hg2 hm2 hv2 h hn hd hs1 hs2 hpl
structure Lm (X:Cx)(name:Str)(id:String)(f:FN):Prop where
 s:Slot "list" name id
 t:typeOf (.builtin id)=pure (.type "method_descriptor")
 m:DY X id (λx xs H Q=>rN X.K f (x::xs) H Q)
theorem ap:Lm X "append" "list.append" (b2 iK):=⟨PySem.F.slot_list_append,PySem.F.type_list_append,KY⟩
theorem lq{f:FN}{name:Str}{apos:Pos}{id:String}(s:Lm X name id f)(ho:XE X y m)(ha:XA X (e::es) a)(hbase:autoParam (QP y name X.env (eval y X.env)=eval y X.env) cu0)(hfew:autoParam (((PC pos (dw (e::es) X.env)).all (λx=> !x.1)&&(QQ pos (QR [] X.env)).all (λx=>x.1.isSome)&&decide ((e::es).length+([]:List Qp).length+(if([]:List Qp).isEmpty then 0 else 1)<30))=M) cu0)(hline:autoParam ((apos.endLine == pos.line)=M) cu0)(hs:autoParam (dw (e::es) X.env=(J,eval e X.env)::dw es X.env) cu0)(hplain:autoParam ((PC pos (dw es X.env)).any (·.1)=J) cu0):XS X (.Expr (.Call (.Attribute y name apos) (e::es) [] pos) p) (fG (oW f m a)):=Az (qe s.s s.t s.m ho ha hbase hfew hline hs hplain)
theorem fo{tg iter:Expr}{a:List dE}{m:FI}{g:FG}{b:FS}(hi:XI X tg iter m)(hg:XG X tg g)(hb:wQ X a b)(hp:P3 (PB X.prog X.w) X.A X.env X.xe:=by exact R1)(hc:autoParam (X.calm=M) cu0)(hs:autoParam (∀x,Qc iter X.env x=pure x) du0):XS X (.For tg iter a [] pos) (fF m g b):=qW hp hc hi hg hb hs
theorem tg2{d:Expr}{g h:FG}{a:Nat}(h1:XG X e g)(h2:XG X d h)(hc:autoParam (X.calm=M) cu0)(hs:autoParam ((PQ [e,d] X.env).map (·.2)=PP e X.env::(PQ [d] X.env).map (·.2)) cu0)(hs2:autoParam ((PQ [d] X.env).map (·.2)=PP d X.env::(PQ [] X.env).map (·.2)) cu0)(hn:autoParam ((PQ [e,d] X.env).length=2) cu0)(hst:autoParam ((PQ [e,d] X.env).findIdx? (·.1)=Y) cu0):XG X (.Tuple [e,d] a pos) (gT 2 (gCs g (gCs h gNl))):=ka hc (eu h1 (eu h2 iQ hs2) hs) hn hst
def MU(x:Str):List (Str×Qq)->Bool
 |[]=>M
 |(y,.cell)::l=> !(y == x)&&MU x l
 |_::l=>MU x l
omit k i in
theorem B9:∀{l:List (Str×Qq)},MU x l=M->(x,Q5)∉l
 |[],_,m=>nomatch m
 |(y,c)::l,h,m=>by
  rcases aF.mp m with e|a
  ·cases e;have h:=((bA1 _ _).mp h).1;rw[Ru]at h;cases h
  ·cases c with
   |cell=>exact B9 ((bA1 _ _).mp h).2 a
   |_=>exact B9 (l:=l) h a
theorem kz{a:dF}{l:List Nat}(r:∀i∈l,∃x,X.N[i]?=Z x/\a.names.lookup x=Z .free/\(X.env.kindOf x=Z .cell\/X.env.kindOf x=Z .free)/\(x,Q5)∉a.names)(h1:autoParam (X.N[i]?=Z x) cu0)(h2:autoParam (a.names.lookup x=Z .free) cu0)(c:autoParam (X.env.kindOf x=Z .cell\/X.env.kindOf x=Z .free) au0)(b:autoParam (MU x a.names=M) cu0):∀j∈i::l,∃x,X.N[j]?=Z x/\a.names.lookup x=Z .free/\(X.env.kindOf x=Z .cell\/X.env.kindOf x=Z .free)/\(x,Q5)∉a.names:=kc x r h1 h2 c (B9 b)
def Op(X:Cx)(sc:dF):List (Str×dk):=(jU X.env.cells sc.names []).getD []
theorem fk{elt tg iter:Expr}{ifs:List Expr}{scope:dF}(T:List Str){keep:List Nat}{m:FI}{g:FG}{t:FT}{e:FE}(hi:XI X tg iter m)(hb:∀ {s H fp},N0 (cxC X scope (Op X scope) T keep s H fp) X.K tg ifs elt g t e)(free:∀i∈keep,∃x,X.N[i]?=Z x/\scope.names.lookup x=Z .free/\(X.env.kindOf x=Z .cell\/X.env.kindOf x=Z .free)/\(x,Q5)∉scope.names:=by repeat first|exact cK _|refine kz ?_)(hc:autoParam (X.calm=M) cu0)(b:autoParam (scope.kind = .function) cu0)(a:autoParam (∀x∈scope.names,x.2 = .local->scope.names.lookup x.1=Z .local) eu0)(c:autoParam (jU X.env.cells scope.names []=Z (Op X scope)) cu0)(hs:autoParam (∀x,Qc iter X.env x=pure x) du0):XE X (.ListComp elt [⟨tg,iter,ifs,0⟩] scope pos) (ez T.length keep m g t (eg e)):=qZ hc ⟨b,a,free⟩ c hi (λ_ _ _=>hb) hs
end
theorem xq{P:dn}{w:dr}{K:Fg1}{mg:Str->Option di}{base h:dB}{x:Str}{st:dE}{f:dk}{k n:Nat}{b:FS}(N:List Str)(X:K.In h)(G:h.Ns dv mg)(F:d7 K x st f)(d:∀{f:dk} {a:di} {A:dq} {c:List Env} {s:dj} {H:Hp} {E:XK},fQ k (A.deeper (Qr x (d5 st) s.heap.objs.size f a)) ->
   wQ (nM vF P w K mg base N x (d5 st) f a A c s H E).nox (fA st) b)(S:gR N (N.take n) (d5 st):=by exact sk)(hb:∀(kV i l:di) (j:Option dk) (a ct:di) (e:List di),e.length=(N.take n).length->bindArgs (wF1 x x (iJ st) (fA st) (d5 st) .none kV i l j a ct) ⟨e,[]⟩=pure ((N.take n).zip e):=by
   intro _ _ _ _ _ _ e g;first|exact Ol g λ_=>rfl|exact Oj g λ_ _=>rfl|exact Oi g λ_ _ _=>rfl|exact OY g λ_ _ _ _=>rfl)(hn:autoParam ((N.take n).length=n) cu0):eR P w K mg base (k+1) x n (gM N.length b):=xo X G F S hb (λ_ _ _ _ _ _ _ m=>d m) hn
open AutoSeq1 (wpAny_loadPart')
mutual
def pl:D->Bool
 | .non=>M
 | .bl _=>M
 | .int _=>M
 | .str _=>M
 | .tup xs=>Og xs
 |_=>J
def Og:List D->Bool
 |[]=>M
 |x::xs=>pl x&&Og xs
end
section
variable{ag:List (dk×Obj)}{σ:L2.St}{H:Hp}{s:dj}{mu:List dk}{S:Sto}
end
section
variable{prog:dn}{w:dr}{A:dq}{E:di->dj->Prop}{s:dj}
end
section
variable{ag:List (dk×Obj)}{σ:L2.St}{H:Hp}{s:dj}{mu:List dk}{S:Sto}
end
section
variable{prog:dn}{w:dr}{A:dq}{E:di->dj->Prop}{s:dj}
end
abbrev rk(ws:List di)(p:RK):Nat:=OW ws p.1
section
variable{prog:dn}{w:dr}{A:dq}{E:di->dj->Prop}{s:dj}{κ:RJ}{ws:List di}{a₀:Array RK}
end
structure Sm (st st':SortSt):Prop where
 k:kindOf st'=kindOf st
 a:arrOf st'=arrOf st
 p:pendingOf st'=pendingOf st
 f:failedOf st'=failedOf st
theorem Sm.rfl{st:SortSt}:Sm st st:=⟨_root_.rfl,_root_.rfl,_root_.rfl,_root_.rfl⟩
theorem Sm.g{st st':SortSt}(h:Sm st st')(g:Nat):Sm st (SortSt.mk' (kindOf st') (arrOf st') (pendingOf st') g (failedOf st')):=⟨h.k,h.a,h.p,h.f⟩
def D7(ws:List di)(xs:List RK):Prop:=xs.Pairwise λp q=>rk ws p<rk ws q
def Aq(ws:List di)(xs ys:List RK):Prop:=∀x∈xs,∀y∈ys,rk ws x<rk ws y
section
variable{ws:List di}{a b out xs ys zs:List RK}{i j k:Nat}
theorem D7.app(h1:D7 ws xs)(h2:D7 ws ys)(h:Aq ws xs ys):D7 ws (xs++ys):=List.pairwise_append.mpr ⟨h1,h2,h⟩
theorem Aq.app(h1:Aq ws xs zs)(h2:Aq ws ys zs):Aq ws (xs++ys) zs:=λx b y a=>(aG.mp b).elim (λh=>h1 x h y a) λh=>h2 x h y a
def Pc(ws:List di)(a b r:List RK):Prop:=r.Perm (a++b)/\D7 ws r
end
section
variable{prog:dn}{w:dr}{A:dq}{E:di->dj->Prop}{s:dj}{κ:RJ}{ws:List di}{a₀:Array RK}
end
section
variable{ws:List di}{a b out xs ys zs:List RK}{i j k t:Nat}
theorem Aq.to(h1:Aq ws xs ys)(h2:Aq ws xs zs):Aq ws xs (ys++zs):=λx a y b=>(aG.mp b).elim (λh=>h1 x a y h) λh=>h2 x a y h
structure K0 (ws:List di)(a b out:List RK)(i j:Nat):Prop where
 la:i<=a.length
 lb:j<=b.length
 len:out.length+(i+j)=a.length+b.length
 pm:(a.take i++b.take j++out.reverse).Perm (a++b)
 so:D7 ws out.reverse
 ba:Aq ws (a.take i) out
 bb:Aq ws (b.take j) out
theorem K0.fs(h:K0 ws a b out i j)(e:D7 ws a)(f:D7 ws b)(hb:Aq ws (b.take j) (a.take i)):Pc ws a b (b.take j++a.take i++out.reverse):=by
 refine⟨(List.perm_append_comm.append_right _).trans h.pm,?_⟩;exact(D7.app (f.sublist (aU _ _)) (e.sublist (aU _ _)) hb).app h.so (Aq.app (λx c y d=>h.bb x c y (List.mem_reverse.mp d)) λx c y d=>h.ba x c y (List.mem_reverse.mp d))
end
section
variable{prog:dn}{w:dr}{A:dq}{E:di->dj->Prop}{s:dj}{κ:RJ}{ws:List di}{a₀:Array RK}
end
def BJ:Nat->List (List RK)->List (Nat×Nat×Nat)->Prop
 |_,[],[]=>True
 |s,r::rs,(t,n,_)::p=>t=s/\n=r.length/\BJ (s+r.length) rs p
 |_,_,_=>False
structure SR (ws:List di)(κ:RJ)(a₀:Array RK)(rs:List (List RK))(rest:List RK)(st:SortSt):Prop where
 k:kindOf st=κ
 f:failedOf st=none
 pm:(arrOf st).Perm a₀
 ar:(arrOf st).toList=rs.flatten++rest
 so:∀r∈rs,D7 ws r/\r≠[]
 pe:BJ 0 rs (pendingOf st).toList
section
variable{prog:dn}{w:dr}{A:dq}{E:di->dj->Prop}{s:dj}{κ:RJ}{ws:List di}{a₀:Array RK}
end
section
variable{prog:dn}{w:dr}{A:dq}{E:di->dj->Prop}{s:dj}{κ:RJ}{ws:List di}{a₀:Array RK}{lo:Nat}{st0:SortSt}
end
section
variable{prog:dn}{w:dr}{A:dq}{E:di->dj->Prop}{s:dj}{κ:RJ}{ws:List di}{a₀:Array RK}{rs:List (List RK)}{rest:List RK}{st st':SortSt}
theorem SR.size(h:SR ws κ a₀ rs rest st):rs.flatten.length+rest.length=a₀.size:=by
 have:=congrArg List.length h.ar;rw[aK,h.pm.size_eq,lA1]at this;exact this.symm
end
section
variable{prog:dn}{w:dr}{A:dq}{E:di->dj->Prop}{s:dj}
end
section
variable{P:dn}{w:dr}{A:dq}{E:di->dj->Prop}{s:dj}
variable{K:Type} [DecidableEq K] {knd:HeapKind P w K}
end
section
variable{ag:List (dk×Obj)}{σ:L2.St}{H:Hp}{s:dj}{mu:List dk}
end
section
variable{K:Fg1}{H:Hp}{mu nu:List dk}{a:dk}{h:Nat}
end
section
variable{ag:List (dk×Obj)}{σ:L2.St}{H:Hp}{s:dj}{mu:List dk}{S:Sto}
end
open AutoSeq1 (wpAny_loadPart')
section
variable{P:dn}{w:dr}{A:dq}{E:di->dj->Prop}{s:dj}
end
section
variable{ag:List (dk×Obj)}{σ:L2.St}{H:Hp}{s:dj}{mu:List dk}
end
open PySem.SeqAt
open PySem.AutoSeq1 (wpAny_loadPart')
open PySem.MeetsSeq PySem.MeetsSeq2 PySem.MeetsSeq3
section
variable{ag:List (dk×Obj)}{σ:L2.St}{H:Hp}{s:dj}{mu:List dk}{S:Sto}
end
section
variable{prog:dn}{w:dr}{A:dq}{R:Qm->dj->Prop}{I S:dk}{fp wr:List dk}{n:Nat}{P:Nat->di->Prop}{St:Nat->dB->Prop}{bt:Nat->Nat->Bool}{Kp:dj->Prop}
end
section
open PySem.MeetsSeq PySem.MeetsSeq2 PySem.MeetsSeq3 PySem.SeqRoads2
theorem Gg{l:dk}{its:Array di}{x:di}{e:Nat->Bool}{j:Nat}{o:Obj}{n:Nat}(hd:o.data = .seq its n)(D:j<its.size)(q:e j=true)(r:∀ m,m<j->e m=false):
  Meets (Builtin.«tuple.index» ⟨[.ref l,x],[]⟩)
   (λA R s=>s.heap.get? l=Z o/\(∀m (h:m<its.size),QO A.in1 s its[m] x (e m))/\R (.ok (.ret (.int j s.toks))) {s with toks:=s.toks+1}):=by
 intro prog w A R ⟨C,g,d,tk,v⟩ ⟨B,z,h⟩
 wp_walk using RF B
 rw[hd];refine wP1 ?_;refine wP1 ?_;dsimp only;refine wB1 (wP1 ?_);refine wB1 (wP1 ?_);refine wB1 ?_;rw[Nat.min_self,Std.Legacy.Range.forIn_eq_forIn_range'];have t:([0:its.size]:Std.Legacy.Range).size=its.size:=by simp[Std.Legacy.Range.size]
 show dz _ _ (forIn (bn 0 ([0:its.size]:Std.Legacy.Range).size 1) _ _) _ _ _;rw[t];refine Rx _ (λrest b s'=>b=(Y,())/\s'=⟨C,g,d,tk,v⟩ /\ ∃i,i<=j/\rest=bn i (its.size-i) 1) _ ?turn ?fin _ _ ⟨O,O,0,bi _,O⟩
 case turn=>
  rintro i rest b s' ⟨rfl,rfl,u,hi,c⟩;obtain⟨k,p⟩:∃k,its.size-u=k+1:=⟨its.size-u-1,by lia⟩;rw[p,cy]at c;injection c with c y;subst c;have a:i<its.size:=by lia
  rw[aG1 a];dsimp only;refine wB1 (z i a prog w _ _ ?_);by_cases f:i=j
  ·subst f;rw[q]
   wp_walk
   exact h
  ·rw[r i (by lia)]
   wp_walk
   exact⟨O,O,i+1,by lia,by rw[y,show its.size-(i+1)=k by lia]⟩
 case fin=>
  rintro b s' ⟨_,_,i,hi,e⟩;obtain⟨k,p⟩:∃k,its.size-i=k+1:=⟨its.size-i-1,by lia⟩;rw[p,cy]at e;cases e
end
def jS:G2:=λo x S=>match o with
 | .tup ys=>(qf (i8 S d8) x ys).bind λbs=>(bs.findIdx? id).map λj=>(.int (j:Nat),S)
 |_=>Y
def p8(f:FN)(o:FE)(a:FA):FE:=λr S=>(o r S).bind λp=>match p.1 with
 | .tup ys=>(a r p.2).bind λq=>f (.tup ys::q.1) q.2
 |_=>Y
def Nk(K:Fg1)(r:V->List V->Hp->VK->Prop)(to:TE)(t:TA):TE:=fun σ H Q=>to σ H λx H1=>(∃a vs,x = .ref a/\kC K H1 a vs)/\t σ H1 λxs H2=>r x xs H2 Q
theorem IG {o e:Expr}{es:List Expr}{to:TE}{t:TA}{name:Str}{apos cpos:Pos}{id:String}{r:V->List V->Hp->VK->Prop}(slot:Slot "tuple" name id)(hty:typeOf (.builtin id)=pure (.type "method_descriptor"))(hm:DY X id r)(ho:PE X o to)(ha:PA X (e::es) t)
  (hbase:autoParam (QP o name X.env (eval o X.env)=eval o X.env) cu0)
  (hfew:autoParam (((PC cpos (dw (e::es) X.env)).all (λx=> !x.1)&&(QQ cpos (QR [] X.env)).all (λx=>x.1.isSome)
   && decide ((e::es).length+([]:List Qp).length+(if([]:List Qp).isEmpty then 0 else 1)<30))=M) cu0)
  (hline:autoParam ((apos.endLine == cpos.line)=M) cu0) (hs:autoParam (dw (e::es) X.env=(J,eval e X.env)::dw es X.env) cu0) (hplain:autoParam ((PC cpos (dw es X.env)).any (·.1)=J) cu0):
  PE X (.Call (.Attribute o name apos) (e::es) [] cpos) (Nk X.K r to t):=by
 intro ag s σ H Q I h;refine wpAny_Call_method_late hbase hfew hline O (fh (ho ag s σ H _ I h) λv q ⟨x,H1,c,j,⟨a,vs,ex,y⟩,m⟩=>?_);subst ex;obtain⟨u,_,p,_⟩:=c.tupN y;cases j;refine⟨"tuple",id,PySem.F.plainAttrs_tuple,slot,hty,p.tup.typeIs,λb eb=>?_,?_⟩
 ·cases eb;obtain⟨o,i,_,n,_,l⟩:=p;exact⟨o,i,l⟩
 have d:=ha cpos ag q σ H1 _ c m;rw[hs]at d ⊢;refine QS (by show(J||(PC cpos (dw es X.env)).any (·.1))=J;rw[hplain]<;>rfl) (QT ?_);exact fh d λf w ⟨ws,H2,g,r2,k⟩=>hm ag w σ H2 (.ref a) ws _ f Q g O r2 k
theorem Ci {o e:Expr}{es:List Expr}{m:FE}{a:FA}{f:FN}{name:Str}{apos cpos:Pos}{id:String}(slot:Slot "tuple" name id)(hty:typeOf (.builtin id)=pure (.type "method_descriptor"))(hm:DY X id (fun x xs H Q=>rN X.K f (x::xs) H Q))(ho:ME X o m)(ha:MA X (e::es) a)
  (hbase:autoParam (QP o name X.env (eval o X.env)=eval o X.env) cu0)
  (hfew:autoParam (((PC cpos (dw (e::es) X.env)).all (λx=> !x.1)&&(QQ cpos (QR [] X.env)).all (λx=>x.1.isSome)&&decide ((e::es).length+([]:List Qp).length+(if([]:List Qp).isEmpty then 0 else 1)<30))=M) cu0)
  (hline:autoParam ((apos.endLine == cpos.line)=M) cu0) (hs:autoParam (dw (e::es) X.env=(J,eval e X.env)::dw es X.env) cu0) (hplain:autoParam ((PC cpos (dw es X.env)).any (·.1)=J) cu0):
  ME X (.Call (.Attribute o name apos) (e::es) [] cpos) (p8 f m a):=
 eM (IG slot hty hm ho ha hbase hfew hline hs hplain) <| by
  rintro σ H Q ⟨r,mu,S,d,z,l,hs,hm,hc⟩;obtain⟨⟨i,n⟩,q,hm⟩:=Sa hm;refine⟨r,mu,S,i,n,l,hs,q,λv H1 mu1 j g w=>?_⟩;cases i with
  |tup ys=>
   dsimp only at hm;obtain⟨⟨ds,p⟩,y,hm⟩:=Sa hm;refine⟨?_,r,mu1,n,ds,p,l.ext j,w,y,λvs H2 c k r2 A=>?_⟩
   ·cases g with
    |tup h t=>exact⟨_,_,O,h⟩
   ·exact⟨c,p,.tup ys::ds,d,z,.cons (g.ext k) r2,A,hm,λs u b B=>hc s u b ((j.trans k).trans B)⟩
  |_=>cases hm
theorem kb {o e:Expr}{es:List Expr}{m:FE}{a:FA}{f:FN}{name:Str}{apos cpos:Pos}{id:String}(slot:Slot "tuple" name id)(hty:typeOf (.builtin id)=pure (.type "method_descriptor"))(hm:DY X id (λx xs H Q=>rN X.K f (x::xs) H Q))(ho:XE X o m)(ha:XA X (e::es) a)(hbase:autoParam (QP o name X.env (eval o X.env)=eval o X.env) cu0)(hfew:autoParam (((PC cpos (dw (e::es) X.env)).all (λx=> !x.1)&&(QQ cpos (QR [] X.env)).all (λx=>x.1.isSome)&&decide ((e::es).length+([]:List Qp).length+(if([]:List Qp).isEmpty then 0 else 1)<30))=M) cu0)(hline:autoParam ((apos.endLine == cpos.line)=M) cu0)(hs:autoParam (dw (e::es) X.env=(J,eval e X.env)::dw es X.env) cu0)(hplain:autoParam ((PC cpos (dw es X.env)).any (·.1)=J) cu0):XE X (.Call (.Attribute o name apos) (e::es) [] cpos) (p8 f m a):=⟨Ci (slot:=slot) (hty:=hty) (hm:=hm) (ho:=ho.h) (ha:=ha.h) (hbase:=hbase) (hfew:=hfew) (hline:=hline) (hs:=hs) (hplain:=hplain)⟩
theorem r0(wq:X.A.units+64<Ql):DY X "tuple.index" (λx xs H Q=>rN X.K (b2 jS) (x::xs) H Q):=by
 intro ag s σ H x xs v U Q I D G h;obtain⟨x',y,mu,S,d,e,r',au,ao,L,r2,z,b,hc⟩:=zf h;cases ao;unfold jS at b;split at b
 ·rename_i ys;obtain⟨bs,eb,b⟩:=Sa b;obtain⟨j,B,b⟩:=Sb b;cases b;cases L with
  | @tup _ vs a q t=>
   cases D;obtain⟨u,rfl,P⟩:=G.one;obtain⟨c,f,⟨o,w,co,n,aq,_⟩,_⟩:=I.tupN q;obtain⟨V,p⟩:=tu _ _ eb;have l2:=t.length;have W:=f.length;rw[bZ]at B;obtain⟨K,g,k⟩:=B;have r:∀m (b:m<c.toArray.size),QO X.A.in1 s c.toArray[m] u (bs[m]?.getD J):=λm b=>by
    have m1:m<c.length:=by simpa using b
    obtain⟨N,av,T⟩:=t.getV (i:=m) (v:=vs[m]'(by lia)) (gG1 (by lia));obtain⟨w',C,E⟩:=f.get (i:=m) (x:=vs[m]'(by lia)) (gG1 (by lia));have m2:m<bs.length:=by lia
    have R:c.toArray[m]=w':=by
     have:=gG1 m1;rw[this]at C;simpa using C
    rw[R,gG1 m2];exact(lm I z d8 (A:=X.A.in1) (by show X.A.units+1+60<Ql;lia) T r2 E P (p m N bs[m] av (gG1 m2))).1
   refine call_meets F.slot_tuple_index ⟨o,w,co⟩ F.entry_tuple_index (F.args_tuple_index_2 _ _)
    (Gg (l:=a) (x:=u) (o:=o) (n:=n) (its:=c.toArray) (e:=λm=>bs[m]?.getD J) (j:=j) aq (by simp;lia) ?_ ?_) ⟨w,r,?_⟩
   ·simp only[gG1 K,b0];simpa using g
   ·intro m b;have m2:m<bs.length:=by lia
    have:=k m b;simp only[gG1 m2,b0];simpa using this
   ·exact⟨.int j,H,I.tok _,⟨_,O⟩,hc.now (.int _) z⟩
 ·cases b
def W{α:Type}(o:Option α)(Q:α->Prop):Prop:=∃x,o=Z x/\Q x
section
variable{α β:Type}{Q:α->Prop}
theorem dV{x:α}:W (Z x) Q↔Q x:=⟨λ⟨_,e,h⟩=>(by cases e;exact h),λh=>⟨x,O,h⟩⟩
theorem ls:W (Y:Option α) Q↔False:=⟨λ⟨_,e,_⟩=>(by cases e),PK⟩
theorem dN{o:Option β}{f:β->Option α}:W (o.bind f) Q↔W o λx=>W (f x) Q:=by
 cases o with
 |none=>exact⟨λ⟨_,e,_⟩=>(by cases e),λ⟨_,e,_⟩=>(by cases e)⟩
 |some x=>exact⟨λh=>⟨x,O,h⟩,λ⟨_,e,h⟩=>by cases e;exact h⟩
theorem j3{o:Option β}{f:β->α}:W (o.map f) Q↔W o λx=>Q (f x):=by
 cases o with
 |none=>exact⟨λ⟨_,e,_⟩=>(by cases e),λ⟨_,e,_⟩=>(by cases e)⟩
 |some x=>exact⟨λ⟨_,e,h⟩=>(by cases e;exact⟨x,O,h⟩),λ⟨_,e,h⟩=>(by cases e;exact⟨_,O,h⟩)⟩
theorem vx{c:Prop}[Decidable c]{a b:Option α}:W (if c then a else b) Q↔if c then W a Q else W b Q:=by split<;>exact Iff.rfl
theorem W.mono{o:Option α}{Q':α->Prop}(h:W o Q)(k:∀x,Q x->Q' x):W o Q':=let ⟨x,e,q⟩:=h;⟨x,e,k x q⟩
theorem W.of{o:Option α}{x:α}(e:o=Z x)(h:Q x):W o Q:=⟨x,e,h⟩
end
theorem d3{a b:FS}{r:Ev}{S:Sto}{Q:Fl×Ev×Sto->Prop}(R:Ev->Sto->Prop)(h1:W (a r S) λp=>p.1 = .nx/\R p.2.1 p.2.2)(h2:∀r S,R r S->W (b r S) Q):W (dQ a b r S) Q:=by
 obtain⟨⟨f,h,g⟩,e,d,c⟩:=h1;dsimp only at d c;subst d;unfold dQ;rw[e];exact h2 h g c
theorem iO{n:Nat}{b:FS}{ds:List D}{S:Sto}{Q:D×Sto->Prop}(h:W (b (hB n ds) S) fun p=>match p.1 with
  | .rt d=>Q (d,p.2.2)
  | .nx=>Q (.non,p.2.2)
  |_=>False):W (gM n b ds S) Q:=by
 obtain⟨⟨f,c,a⟩,e,q⟩:=h;unfold gM;rw[e];cases f with
 |rt d=>exact⟨_,O,q⟩
 |nx=>exact⟨_,O,q⟩
 |bk=>exact q.elim
 |ct=>exact q.elim
theorem vo{n:Nat}{f:FN}{ds:List D}{S:Sto}{Q:D×Sto->Prop}(hn:ds.length=n)(a:D.unds 0 ds=J)(h:W (f ds S) λp=>Q (gc S.length p)):W (dI n f ds S) Q:=by
 obtain⟨⟨d,b⟩,e,q⟩:=h;exact⟨_,rE e hn a,q⟩
theorem fD{n:Nat}{f:FN}{ds:List D}{S:Sto}{Q:D×Sto->Prop}(hn:ds.length=n)(a:D.unds 0 ds=M)(h:W (f ds []) λp=>p.1.und 0=M/\Q (p.1,S)):W (dI n f ds S) Q:=by
 obtain⟨⟨d,g⟩,e,c,b⟩:=h;exact⟨_,Ab e hn a c,b⟩
mutual
theorem ik{n:Nat}:∀{d:D},d.und 0=M->d.und n=M
 | .non,_=>rfl
 | .bl _,_=>rfl
 | .int _,_=>rfl
 | .str _,_=>rfl
 | .tup xs,h=>by rw[D.und]at h ⊢;exact iS h
 | .rol xs,h=>by rw[D.und]at h ⊢;exact iS h
 | .fn _,_=>rfl
 | .ref k,h=>by simp[D.und]at h
theorem iS{n:Nat}:∀{ds:List D},D.unds 0 ds=M->D.unds n ds=M
 |[],_=>rfl
 |d::ds,h=>by
  rw[D.unds,bA1]at h ⊢;exact⟨ik h.1,iS h.2⟩
end
theorem me{n:Nat}{f:FN}{ds:List D}{o:Ob}{T:Sto}{Q:D×Sto->Prop}(hn:ds.length=n)(c:D.unds 0 ds=J)(b:T.all (Ob.und (T.length+1))=M)(h:W (f ds (o::T)) λp=>∃d o' G,p=(d,o'::(T++G))/\d.und 0=M/\o'.und (T.length+1)=M/\Q (d,o'::T)):W (dI n f ds (o::T)) Q:=by
 refine vo hn c (h.mono ?_);rintro p ⟨d,o',G,rfl,g,a,q⟩;have e:(o'::(T++G)).take (T.length+1)=o'::T:=by simp
 unfold gc;dsimp only[lC1];rw[ak (by rw[e,ik g,bN,a,b];rfl),e];exact q
theorem eK{c:List (Nat×List D)}{g:FG}{b:FS}{Q:Fl×Ev×Sto->Prop}(I:Nat->Ev->Sto->Prop):∀ (items:List D) (k:Nat) (r:Ev) (S:Sto),I k r S ->
  (∀i r S,I i r S->oR S c=M) ->
  (∀i d,items[i]?=Z d -> ∀r S,I (k+i) r S->W (g d r S) λp=>W (b p.1 p.2) λq=>q.1 = .nx/\I (k+i+1) q.2.1 q.2.2) ->
  (∀r S,I (k+items.length) r S->Q (.nx,r,S))->W (jt c g b items r S) Q
 |[],k,r,S,hi,hok,_,hq=>by rw[jt];dsimp only;rw[ak (hok _ _ _ hi),dV];exact hq r S (by simpa using hi)
 |d::ds,k,r,S,hi,hok,hs,hq=>by
  rw[jt];dsimp only;rw[ak (hok _ _ _ hi),dN];obtain⟨p,h,h1⟩:=hs 0 d O r S (by simpa using hi);refine⟨p,h,?_⟩;dsimp only;rw[dN];obtain⟨⟨f,j,o⟩,n,h2,e⟩:=h1;refine⟨_,n,?_⟩;dsimp only at h2 e ⊢;subst h2;refine eK I ds (k+1) j o (by simpa using e) hok (λi m l r S a=>?_) λr S a=>hq r S (by rw[lC1,show k+(ds.length+1)=k+1+ds.length by lia];exact a);have:=hs (i+1) m (by simpa using l) r S (by rw[show k+(i+1)=k+1+i by lia];exact a);rw[show k+(i+1)+1=k+1+i+1 by lia]at this;exact this
theorem iF{c:List (Nat×List D)}{g:FG}{t:FT}{e:FE}{Q:List D×Ev×Sto->Prop}(I:Nat->List D->Ev->Sto->Prop):∀ (items:List D) (k:Nat) (acc:List D) (r:Ev) (S:Sto),I k acc r S ->
  (∀i acc r S,I i acc r S->oR S c=M) ->
  (∀i d,items[i]?=Z d -> ∀acc r S,I (k+i) acc r S->W (g d r S) λp=>W (t p.1 p.2) λb=>if b.1=M then W (e p.1 b.2) λx=>I (k+i+1) (acc++[x.1]) p.1 x.2 else I (k+i+1) acc p.1 b.2) ->
  (∀xs r S,I (k+items.length) (acc++xs) r S->Q (xs,r,S))->W (fc c g t (eg e) items r S) Q
 |[],k,acc,r,S,hi,hok,_,hq=>by rw[fc];dsimp only;rw[ak (hok _ _ _ _ hi),dV];exact hq [] r S (by simpa using hi)
 |d::ds,k,acc,r,S,hi,hok,hs,hq=>by
  rw[fc];dsimp only;rw[ak (hok _ _ _ _ hi),dN];obtain⟨p,j,h1⟩:=hs 0 d O acc r S (by simpa using hi);refine⟨p,j,?_⟩;dsimp only;rw[dN];obtain⟨⟨b,o⟩,m,h2⟩:=h1;refine⟨_,m,?_⟩;have step:∀i f,ds[i]?=Z f -> ∀acc r S,I (k+1+i) acc r S->W (g f r S) λp=>W (t p.1 p.2) λb=>if b.1=M then W (e p.1 b.2) λx=>I (k+1+i+1) (acc++[x.1]) p.1 x.2 else I (k+1+i+1) acc p.1 b.2:=λi f l acc r S a=>by
   have:=hs (i+1) f (by simpa using l) acc r S (by rw[show k+(i+1)=k+1+i by lia];exact a);rw[show k+(i+1)+1=k+1+i+1 by lia]at this;exact this
  dsimp only at h2 ⊢;cases b with
  |true=>
   rw[ak O]at h2 ⊢;rw[dN,eg,j3];obtain⟨⟨x,q⟩,n,h⟩:=h2;refine⟨_,n,?_⟩;dsimp only at h ⊢;rw[j3];refine iF I ds (k+1) (acc++[x]) p.1 q (by simpa using h) hok step λxs r S a=>?_;refine hq _ r S ?_;rw[lC1,show k+(ds.length+1)=k+1+ds.length by lia];simpa using a
  |false=>
   rw[aj (by decide)]at h2 ⊢;refine iF I ds (k+1) acc p.1 o (by simpa using h2) hok step λxs r S a=>?_;refine hq _ r S ?_;rw[lC1,show k+(ds.length+1)=k+1+ds.length by lia];exact a
theorem HK{S:Sto}{b:Bool}:vS S (.bl b)=Z b:=rfl
theorem MK{S:Sto}:vS S .non=Z J:=rfl
theorem ML{S:Sto}{i:Int}:vS S (.int i)=Z (i != 0):=rfl
theorem Gr{x y:Int}{S:Sto}:gEq (.int x) (.int y) S=Z (.bl (x == y),S):=rfl
theorem Gj{x y:Int}{S:Sto}:ww (.int x) (.int y) S=Z (.bl (!(x == y)),S):=rfl
theorem Gn{x y:Int}{S:Sto}:gLt (.int x) (.int y) S=Z (.bl (decide (x<y)),S):=rfl
theorem Gq{x y:Str}{S:Sto}:gEq (.str x) (.str y) S=Z (.bl (x == y),S):=rfl
theorem MX{x y:Str}{S:Sto}:ww (.str x) (.str y) S=Z (.bl (!(x == y)),S):=rfl
theorem ite_and'{c p:Prop}[Decidable c]:(if c then p else False)↔c/\p:=by split<;>simp[*]
def yz(j:Int):Bool:=decide (-(2^62)<=j)&&decide (j<2^62)
theorem eL{n:Nat}(h:n<2^60):yz n=M:=by
 unfold yz;rw[bA1,am,am];lia
theorem Dv{j:Int}(h: -(2^60)<=j)(h':j<2^60):yz j=M:=by
 unfold yz;rw[bA1,am,am];lia
def KL(p:List D×Sto)(Q:An×Sto->Prop):Prop:=match p.1 with
 |[.int j]=>yz j=M/\Q (⟨fT 0 j.toNat,[]⟩,p.2)
 |_=>False
def MN(p:List D×Sto)(Q:An×Sto->Prop):Prop:=match p.1 with
 |[.int i,.int j]=>yz i=M/\yz j=M/\Q (⟨fT i (j-i).toNat,[]⟩,p.2)
 |_=>False
theorem DS{m:FA}{r:Ev}{S:Sto}{Q:An×Sto->Prop}:W (nK m r S) Q↔W (m r S) λp=>KL p Q:=by
 unfold nK;rw[dN];constructor
 ·refine λh=>h.mono λp q=>?_;unfold KL;split at q
  ·rename_i j e
   try rw[e]
   rw[vx]at q;split at q
   ·rename_i hc;exact⟨by unfold yz;rw[bA1,am,am];exact hc,dV.mp q⟩
   ·exact(ls.mp q).elim
  ·exact(ls.mp q).elim
 ·refine λh=>h.mono λp q=>?_;unfold KL at q;split at q
  ·rename_i j e;obtain⟨a,b⟩:=q;unfold yz at a;rw[bA1,am,am]at a
   try rw[e]
   try dsimp only
   rw[ak a];exact dV.mpr b
  ·exact q.elim
theorem Mu{m:FA}{r:Ev}{S:Sto}{Q:An×Sto->Prop}:W (KM m r S) Q↔W (m r S) λp=>MN p Q:=by
 unfold KM;rw[dN];constructor
 ·refine λh=>h.mono λp q=>?_;unfold MN;split at q
  ·rename_i i j e
   try rw[e]
   rw[vx]at q;split at q
   ·rename_i hc;refine⟨?_,?_,dV.mp q⟩
    ·unfold yz;rw[bA1,am,am];exact⟨hc.1,hc.2.1⟩
    ·unfold yz;rw[bA1,am,am];exact hc.2.2
   ·exact(ls.mp q).elim
  ·exact(ls.mp q).elim
 ·refine λh=>h.mono λp q=>?_;unfold MN at q;split at q
  ·rename_i i j e;obtain⟨a,b,c⟩:=q;unfold yz at a b;rw[bA1,am,am]at a b
   try rw[e]
   try dsimp only
   rw[ak ⟨a.1,a.2,b⟩];exact dV.mpr c
  ·exact q.elim
def fits(n:Nat):Bool:=decide (n<=dy)
theorem dR{n:Nat}(h:n<=100000):fits n=M:=by unfold fits;rw[am];exact aD h (by decide)
theorem uZ{n:Nat}:fits n=M↔n<=dy:=by unfold fits;rw[am]
theorem O8:fits 0=M:=dR (by decide)
theorem O7:fits 1=M:=dR (by decide)
theorem On:fits 2=M:=dR (by decide)
theorem O6:fits 3=M:=dR (by decide)
theorem O5:fits 4=M:=dR (by decide)
theorem O4:fits 5=M:=dR (by decide)
theorem Ph:fits 6=M:=dR (by decide)
theorem Pg:fits 7=M:=dR (by decide)
theorem Pf:fits 8=M:=dR (by decide)
theorem iN{α:Type}{n:Nat}{o:Option α}{Q:α->Prop}:W (if n<=dy then o else Y) Q↔fits n=M/\W o Q:=by
 rw[uZ,vx];split
 ·rename_i h;exact⟨λq=>⟨h,q⟩,λq=>q.2⟩
 ·rename_i h;exact⟨λq=>(ls.mp q).elim,λq=>absurd q.1 h⟩
theorem DR{a:FA}{r:Ev}{S:Sto}{Q:D×Sto->Prop}:W (eG a r S) Q↔W (a r S) λp=>fits p.1.length=M/\Q (.tup p.1,p.2):=by
 unfold eG;rw[dN];exact⟨λh=>h.mono λp q=>(iN.mp q).imp_right dV.mp,λh=>h.mono λp q=>iN.mpr (q.imp_right dV.mpr)⟩
theorem Kt{a:FA}{r:Ev}{S:Sto}{Q:D×Sto->Prop}:W (g6 a r S) Q↔W (a r S) λp=>fits p.1.length=M/\Q (.ref p.2.length,p.2++[.lst p.1]):=by
 unfold g6;rw[dN];exact⟨λh=>h.mono λp q=>(iN.mp q).imp_right dV.mp,λh=>h.mono λp q=>iN.mpr (q.imp_right dV.mpr)⟩
theorem mr{k:Nat}{keep:List Nat}{m:FI}{g:FG}{t:FT}{b:FV}{r:Ev}{S:Sto}{Q:D×Sto->Prop}:W (ez k keep m g t b r S) Q↔W (m r S) λp=>W (fc p.1.chk g t b p.1.items (uS k keep r) p.2) λq=>fits q.1.length=M/\Q (.ref q.2.2.length,q.2.2++[.lst q.1]):=by
 unfold ez;rw[dN];refine⟨λh=>h.mono λp q=>?_,λh=>h.mono λp q=>?_⟩
 ·rw[dN]at q;exact q.mono λz w=>(iN.mp w).imp_right dV.mp
 ·rw[dN];exact q.mono λz w=>iN.mpr (w.imp_right dV.mpr)
theorem KA{xs ys:List D}{S:Sto}{Q:D×Sto->Prop}:W (fX (.tup xs) (.tup ys) S) Q↔fits (xs.length+ys.length)=M/\Q (.tup (xs++ys),S):=
 ⟨λq=>(iN.mp q).imp_right dV.mp,λq=>iN.mpr (q.imp_right dV.mpr)⟩
theorem DV{x y:Int}{S:Sto}{Q:D×Sto->Prop}:W (fX (.int x) (.int y) S) Q↔Q (.int (x+y),S):=dV
theorem DU{a b:Nat}{xs ys:List D}{S:Sto}{Q:D×Sto->Prop}(h1:S[a]?=Z (.lst xs))(h2:S[b]?=Z (.lst ys)):W (fX (.ref a) (.ref b) S) Q↔fits (xs.length+ys.length)=M/\Q (.ref S.length,S++[.lst (xs++ys)]):=by
 rw[fX];simp only[h1,h2];exact⟨λq=>(iN.mp q).imp_right dV.mp,λq=>iN.mpr (q.imp_right dV.mpr)⟩
theorem k8{n:Nat}{v:D}{xs:List D}{S:Sto}{Q:D×Sto->Prop}(h:S[n]?=Z (.lst xs)):W (iK (.ref n) v S) Q↔fits (xs.length+1)=M/\Q (.non,S.set n (.lst (xs++[v]))):=by
 rw[iK];simp only[h];rw[vx,uZ];split
 ·rename_i a;exact⟨λq=>⟨a,dV.mp q⟩,λq=>dV.mpr q.2⟩
 ·rename_i a;exact⟨λq=>(ls.mp q).elim,λq=>absurd q.1 a⟩
theorem j4{n:Nat}{i:Nat}{xs:List D}{x:D}{S:Sto}{Q:D×Sto->Prop}(h:S[n]?=Z (.lst xs))(hx:xs[i]?=Z x)(q:Q (x,S)):W (dL (.ref n) (.int i) S) Q:=by
 refine W.of (x:=(x,S)) ?_ q;have a:=(R9 hx).1;simp only[dL,mS,D5,h,dZ,wM,zE,oS1,ak (show(0:Int)<=i by lia)];rw[ak (by lia)];simp[hx]
theorem hU{i:Nat}{xs:List D}{x:D}{S:Sto}{Q:D×Sto->Prop}(hx:xs[i]?=Z x)(q:Q (x,S)):W (dL (.tup xs) (.int i) S) Q:=by
 refine W.of (x:=(x,S)) ?_ q;have a:=(R9 hx).1;simp only[dL,mS,D5,dZ,wM,zE,oS1,ak (show(0:Int)<=i by lia)];rw[ak (by lia)];simp[hx]
theorem OV:aP 0 (Y:Option D)=[]:=rfl
theorem OU:aP 1 (Y:Option D)=[Y]:=rfl
theorem OL:aP 2 (Y:Option D)=[Y,Y]:=rfl
theorem OJ:aP 3 (Y:Option D)=[Y,Y,Y]:=rfl
theorem OI:aP 4 (Y:Option D)=[Y,Y,Y,Y]:=rfl
theorem OH:aP 5 (Y:Option D)=[Y,Y,Y,Y,Y]:=rfl
theorem OG:aP 6 (Y:Option D)=[Y,Y,Y,Y,Y,Y]:=rfl
theorem OF:aP 7 (Y:Option D)=[Y,Y,Y,Y,Y,Y,Y]:=rfl
theorem OE:aP 8 (Y:Option D)=[Y,Y,Y,Y,Y,Y,Y,Y]:=rfl
theorem Pe:aP 9 (Y:Option D)=[Y,Y,Y,Y,Y,Y,Y,Y,Y]:=rfl
theorem Lg:aP 10 (Y:Option D)=[Y,Y,Y,Y,Y,Y,Y,Y,Y,Y]:=rfl
theorem OT:aP 11 (Y:Option D)=[Y,Y,Y,Y,Y,Y,Y,Y,Y,Y,Y]:=rfl
theorem Np:aP 12 (Y:Option D)=[Y,Y,Y,Y,Y,Y,Y,Y,Y,Y,Y,Y]:=rfl
theorem OS:aP 13 (Y:Option D)=[Y,Y,Y,Y,Y,Y,Y,Y,Y,Y,Y,Y,Y]:=rfl
theorem OR:aP 14 (Y:Option D)=[Y,Y,Y,Y,Y,Y,Y,Y,Y,Y,Y,Y,Y,Y]:=rfl
theorem OQ:aP 15 (Y:Option D)=[Y,Y,Y,Y,Y,Y,Y,Y,Y,Y,Y,Y,Y,Y,Y]:=rfl
theorem OP:aP 16 (Y:Option D)=[Y,Y,Y,Y,Y,Y,Y,Y,Y,Y,Y,Y,Y,Y,Y,Y]:=rfl
theorem OO:aP 17 (Y:Option D)=[Y,Y,Y,Y,Y,Y,Y,Y,Y,Y,Y,Y,Y,Y,Y,Y,Y]:=rfl
theorem ON:aP 18 (Y:Option D)=[Y,Y,Y,Y,Y,Y,Y,Y,Y,Y,Y,Y,Y,Y,Y,Y,Y,Y]:=rfl
theorem OM:aP 19 (Y:Option D)=[Y,Y,Y,Y,Y,Y,Y,Y,Y,Y,Y,Y,Y,Y,Y,Y,Y,Y,Y]:=rfl
theorem OK:aP 20 (Y:Option D)=[Y,Y,Y,Y,Y,Y,Y,Y,Y,Y,Y,Y,Y,Y,Y,Y,Y,Y,Y,Y]:=rfl
theorem eN{α:Type}{T G:List α}{k:Nat}:(T++G)[T.length+k]?=G[k]?:=by rw[gR1 (by lia)];congr 1;lia
theorem dP{α:Type}{T G:List α}:(T++G)[T.length]?=G[0]?:=by rw[gR1 (by lia)];congr 1;lia
theorem yf{S:Sto}{i j:Nat}{xs:List D}(h:S[i]?=Z (.lst xs))(h':S[j]?=Z (.lst [])):ww (.ref i) (.ref j) S=Z (.bl (!xs.isEmpty),S):=by
 unfold ww d8;rw[show(60:Nat)=59+1 from rfl,i8];simp only[dZ,h,h'];cases xs with
 |nil=>simp[wF]
 |cons x xs=>simp
theorem nU:∀(n:Nat) (lo:Int),fT lo n=(af n).map λi:Nat=>D.int (lo+i)
 |0,lo=>rfl
 |n+1,lo=>by
  rw[fT,nU n (lo+1),List.range_succ_eq_map,mP1,bu]
  congr 1
  ·simp
  ·apply cM;intro i _;simp only[Function.comp_apply,Nat.succ_eq_add_one]
   congr 1
   push_cast
   lia
theorem kT(n:Nat):fT 0 n=(af n).map λi:Nat=>D.int i:=by
 rw[nU];apply cM;intro i _;simp
theorem ji{α:Type}{c:List (Nat×List D)}{g:FG}{t:FT}{e:FE}{S:Sto}{f:α->D}{Q:List D×Ev×Sto->Prop}(F:α->D)(P:Ev->Prop)(d:oR S c=true):∀ (xs:List α) (r:Ev),P r ->
  (∀a∈xs,∀r,P r->W (g (f a) r S) λp=>W (t p.1 p.2) λb=>b.1=M/\W (e p.1 b.2) λx=>x.1=F a/\x.2=S/\P p.1) ->
  (∀i,P i->Q (xs.map F,i,S))->W (fc c g t (eg e) (xs.map f) r S) Q
 |[],r,hr,_,h=>by rw[aZ,fc];dsimp only;rw[ak d,dV];exact h r hr
 |a::xs,r,hr,hs,h=>by
  rw[mP1,fc];dsimp only;rw[ak d,dN];obtain⟨p,k,⟨b,n,m,⟨x,o,q,s,u⟩⟩⟩:=hs a mS1 r hr;refine⟨p,k,?_⟩;dsimp only;rw[dN];refine⟨b,n,?_⟩;dsimp only;rw[ak m,dN,eg,j3];refine⟨x,o,?_⟩;dsimp only;rw[s,j3];refine ji F P d xs p.1 u (λa l=>hs a (mC1 _ l)) λi j=>?_;have:=h i j;rw[mP1,<- q]at this;exact this
theorem iI{α:Type}{c:List (Nat×List D)}{g:FG}{t:FT}{e:FE}{S:Sto}{f:α->D}{Q:List D×Ev×Sto->Prop}(k:α->Bool)(F:α->D)(P:Ev->Prop)(d:oR S c=true):∀ (xs:List α) (r:Ev),P r ->
  (∀a∈xs,∀r,P r->W (g (f a) r S) λp=>W (t p.1 p.2) λb=>b.1=k a/\b.2=S/\P p.1/\(k a=M->W (e p.1 S) λx=>x.1=F a/\x.2=S)) ->
  (∀j,P j->Q ((xs.filter k).map F,j,S))->W (fc c g t (eg e) (xs.map f) r S) Q
 |[],r,hr,_,h=>by rw[aZ,fc];dsimp only;rw[ak d,dV];exact h r hr
 |a::xs,r,hr,hs,h=>by
  rw[mP1,fc];dsimp only;rw[ak d,dN];obtain⟨p,u,⟨b,v,o,q,s,n⟩⟩:=hs a mS1 r hr;refine⟨p,u,?_⟩;dsimp only;rw[dN];refine⟨b,v,?_⟩;dsimp only;cases hk:k a with
  |true=>
   rw[o,hk,ak O,dN,eg,j3,q];obtain⟨x,w,n,l⟩:=n hk;refine⟨x,w,?_⟩;dsimp only;rw[l,j3];refine iI k F P d xs p.1 s (λa m=>hs a (mC1 _ m)) λj i=>?_;have:=h j i;rw[List.filter_cons,hk,ak O,mP1,<- n]at this;exact this
  |false=>
   rw[o,hk,aj (by decide),q];refine iI k F P d xs p.1 s (λa m=>hs a (mC1 _ m)) λj i=>?_;have:=h j i;rw[List.filter_cons,hk,aj (by decide)]at this;exact this
theorem pP{α:Type}{f:α->Bool}:∀xs:List α,Mi.DD (xs.map λx=>D.bl (f x))=Z (xs.all f)
 |[]=>rfl
 |x::xs=>by rw[mP1,Mi.DD,pP xs];rfl
mutual
theorem HC{n m:Nat}(h:n<=m):∀{d:D},d.und n=M->d.und m=M
 | .non,_=>rfl
 | .bl _,_=>rfl
 | .int _,_=>rfl
 | .str _,_=>rfl
 | .tup xs,q=>by rw[D.und]at q ⊢;exact jd h q
 | .rol xs,q=>by rw[D.und]at q ⊢;exact jd h q
 | .fn _,_=>rfl
 | .ref k,q=>by simp[D.und]at q ⊢;lia
theorem jd{n m:Nat}(h:n<=m):∀{ds:List D},D.unds n ds=M->D.unds m ds=M
 |[],_=>rfl
 |d::ds,q=>by
  rw[D.unds,bA1]at q ⊢;exact⟨HC h q.1,jd h q.2⟩
end
theorem gW{n m:Nat}(h:n<=m):∀{o:Ob},o.und n=M->o.und m=M
 | .lst xs,q=>by rw[Ob.und]at q ⊢;exact jd h q
 | .dct xs,q=>by rw[Ob.und]at q ⊢;exact jd h q
 | .dcT xs,q=>by rw[Ob.und]at q ⊢;exact jd h q
 | .dcF xs,q=>by rw[Ob.und]at q ⊢;exact jd h q
 | .iset _,_=>rfl
 | .tst _,_=>rfl
theorem Mr{k:Nat}{T G:Sto}(h:T.all (Ob.und (T.length+k))=M)(hg:G.all (Ob.und 0)=M):(T++G).all (Ob.und ((T++G).length+k))=M:=by
 rw[cN,bA1];rw[bA]at h hg;refine⟨bA.mpr λo a=>gW (by rw[lA1];lia) (h o a),bA.mpr λo a=>gW (bi _) (hg o a)⟩
theorem wS{n:Nat}{xs:List Int}{S:Sto}{Q:D×Sto->Prop}(h:S[n]?=Z (.iset xs))(q:Q (.int xs.length,S)):W (rj (.ref n) S) Q:=by
 refine W.of ?_ q;unfold rj;simp only[h]
theorem eD{α:Type}{n:Nat}{f:α->D}:∀{xs:List α},(∀x∈xs,(f x).und n=M)->D.unds n (xs.map f)=M
 |[],_=>rfl
 |x::xs,h=>by rw[mP1,D.unds,h x mS1,eD λy a=>h y (mC1 _ a)];rfl
theorem Oq{x:Nat}:x+1+1=x+2:=rfl
theorem Po{x:Nat}:x+2+1=x+3:=rfl
theorem Pn{x:Nat}:x+3+1=x+4:=rfl
theorem Pm{x:Nat}:x+4+1=x+5:=rfl
theorem Pk{x:Nat}:x+5+1=x+6:=rfl
theorem Pj{x:Nat}:x+6+1=x+7:=rfl
theorem Pa{x:Nat}:x+1+2=x+3:=rfl
theorem hZ{xs:List D}{S:Sto}:eB (.tup xs) S=Z (.int xs.length,S):=rfl
theorem MV{xs:List D}{S:Sto}:eB (.rol xs) S=Z (.int xs.length,S):=rfl
theorem LR{S:Sto}:eB (.str "") S=Z (.int 0,S):=rfl
theorem iD{xs:List D}{S:Sto}:dZ S (.tup xs)=Z (J,xs):=rfl
theorem MM{xs:List D}{S:Sto}:dZ S (.rol xs)=Z (M,xs):=rfl
theorem yx{xs:List D}{S:Sto}:jV S (.tup xs)=[]:=rfl
theorem MZ{xs:List D}{S:Sto}:jV S (.rol xs)=[]:=rfl
theorem fR{n:Nat}{xs:List D}{S:Sto}(h:S[n]?=Z (.lst xs)):dZ S (.ref n)=Z (M,xs):=by simp only[dZ,h]
theorem n0{n:Nat}{xs:List D}{S:Sto}(h:S[n]?=Z (.lst xs)):jV S (.ref n)=[(n,xs)]:=by simp only[jV,h]
def sW(S:Sto)(d:D)(Q:List D×List (Nat×List D)->Prop):Prop:=W (dZ S d) λq=>Q (q.2,jV S d)
theorem hD{xs:List D}{S:Sto}{Q:List D×List (Nat×List D)->Prop}:sW S (.tup xs) Q↔Q (xs,[]):=dV
theorem ed{n:Nat}{xs:List D}{S:Sto}{Q:List D×List (Nat×List D)->Prop}(h:S[n]?=Z (.lst xs))(q:Q (xs,[(n,xs)])):sW S (.ref n) Q:=by
 unfold sW;rw[fR h,n0 h,dV];exact q
theorem Kw{m:FE}{r:Ev}{S:Sto}{Q:An×Sto->Prop}:W (g9 m r S) Q↔W (m r S) λp=>sW p.2 p.1 λq=>Q (⟨q.1,q.2⟩,p.2):=by
 unfold g9;rw[dN];refine⟨λh=>h.mono λp q=>?_,λh=>h.mono λp q=>?_⟩
 ·rw[dN]at q;exact q.mono λz w=>dV.mp w
 ·rw[dN];exact W.mono (show W (dZ p.2 p.1) _ from q) λz w=>dV.mpr w
theorem Kx{d:D}{S:Sto}{Q:D×Sto->Prop}:W (Mi.gTup d S) Q↔sW S d λq=>Q (.tup q.1,S):=by
 unfold Mi.gTup;rw[j3];exact Iff.rfl
theorem Mt{n:Nat}{S:Sto}{Q:D×Sto->Prop}:W (eB (.ref n) S) Q↔sW S (.ref n) λq=>Q (.int q.1.length,S):=by
 unfold eB sW;rw[j3]
noncomputable def pD(e:Nat×Nat):D:=.tup [.int e.1,.int e.2]
theorem wD{S:Sto}{n:Nat}{a b:Nat×Nat}:i8 S (n+2) (pD a) (pD b)=Z (a == b):=by
 obtain⟨a1,a2⟩:=a;obtain⟨b1,b2⟩:=b;rw[i8];have c:∀x y:Nat,i8 S (n+1) (.int x) (.int y)=Z ((x:Int) == (y:Int)):=λx y=>rfl;have d:∀x y:Nat,((x:Int) == (y:Int))=(x == y):=λx y=>by
  rw[bO,RW,RW];lia
 simp[pD,dZ,wF,c,d];rfl
theorem yq{S:Sto}{n:Nat}{e:Nat×Nat}:∀row:List (Nat×Nat),qf (i8 S (n+2)) (pD e) (row.map pD)=Z (row.map λa=>a == e)
 |[]=>rfl
 |a::row=>by rw[mP1,qf,wD,yq row];rfl
theorem Kv{S:Sto}{n j:Nat}{row:List (Nat×Nat)}{e:Nat×Nat}{Q:D×Sto->Prop}(h:S[n]?=Z (.lst (row.map pD)))(b:row.length<1000)(a:row.findIdx? (· == e)=Z j)(q:Q (.int j,S)):W (CU (.ref n) (pD e) S) Q:=by
 refine W.of ?_ q;unfold CU d8;simp only[h,show(60:Nat)=58+2 from rfl,yq,oS1,lM1];rw[ak (by lia),List.findIdx?_map];simp[Function.comp_def,a]
theorem ja{f:FN}{o:FE}{a:FA}{r:Ev}{S:Sto}{Q:D×Sto->Prop}(h:W (o r S) λp=>∃n xs,p.1 = .ref n/\p.2[n]?=Z (.lst xs)/\W (a r p.2) λq=>W (f (.ref n::q.1) q.2) Q):W (oW f o a r S) Q:=by
 unfold oW;rw[dN];refine h.mono ?_;rintro⟨d,b⟩ ⟨n,xs,rfl,e,q⟩;dsimp only at e q ⊢;rw[e];dsimp only;rw[dN];exact q
def Lh(row:List (Nat×Nat)):Ob:=.lst (row.map pD)
structure WS (t m:Nat)(T:Sto)(E:List (List (Nat×Nat)))(P:List (Nat×Nat))(U:Sto):Prop where
 tl:T.length=t
 low:U.take t=T
 el:E.length=m
 row:∀i row,E[i]?=some row->U[t+i]?=some (Lh row)
 ends:U[t+m]?=some (.lst (jJ (t+1) m))
 prs:U[t+m+1]?=some (.lst (P.map pD))
theorem WS.app{t m:Nat}{T:Sto}{E:List (List (Nat×Nat))}{P:List (Nat×Nat)}{U G:Sto}(w:WS t m T E P U):WS t m T E P (U++G):=by
 have a:t+m+1<U.length:=(R9 w.prs).1;refine⟨w.tl,?_,w.el,λi row h=>?_,?_,?_⟩
 ·rw[List.take_append_of_le_length (by omega)];exact w.low
 ·have:=w.row i row h;rw[gL1 (R9 this).1];exact this
 ·rw[gL1 (by omega)];exact w.ends
 ·rw[gL1 (by omega)];exact w.prs
theorem sy:∀{k n i:Nat},i<k->(jJ n k)[i]?=Z (.ref (n+i))
 |k+1,n,0,_=>rfl
 |k+1,n,i+1,h=>by rw[jJ,gC1,sy (Nat.lt_of_succ_lt_succ h),show n+1+i=n+(i+1) by lia]
theorem lK:∀k n:Nat,(jJ n k).length=k
 |0,_=>rfl
 |k+1,n=>by rw[jJ,lC1,lK]
def tot(E:List (List (Nat×Nat))):Nat:=(E.map List.length).sum
noncomputable def nmD(rs:List Nat):List D:=rs.map λi:Nat=>D.int i
theorem ej(rs:List Nat):(nmD rs).length=rs.length:=by simp[nmD]
theorem fy(rs:List Nat):D.unds 0 (nmD rs)=M:=eD λ_ _=>rfl
abbrev Wk:=Nat×Nat×Nat
def gz(w:Wk):D:=.tup [.int w.1,.int w.2.1,.int w.2.2]
def fv(ws:List Wk):List D:=ws.map gz
theorem w5(ws:List Wk):(fv ws).length=ws.length:=by simp[fv]
theorem w4(ws:List Wk):D.unds 0 (fv ws)=M:=eD λ_ _=>rfl
def eE(ws:List Wk)(cs:List Nat):D:=.tup [.tup (fv ws),.tup (nmD cs)]
theorem ic{ws:List Wk}{cs:List Nat}:(eE ws cs).und 0=M:=by simp[eE,D.und,D.unds,w4,fy]
noncomputable def gg(a b c d:Bool):List D:=(if a then[.str "came"]else[])++(if b then[.str "chalk"]else[])++(if c then[.str "doors"]else[])++(if d then[.str "others"]else[])
theorem C1 {xs:List D}(h:xs.Sublist [.str "came",.str "chalk",.str "doors",.str "others"]):∃a b c d,xs=gg a b c d:=by
 have one:∀{x:D} {l ys:List D},ys.Sublist (x::l) -> ∃(a:Bool) (zs:List D),zs.Sublist l/\ys=(if a then[x]else[])++zs:=by
  intro x l ys h;cases h with
  |cons _ h=>exact⟨J,ys,h,O⟩
  |cons_cons _ h=>exact⟨M,_,h,O⟩
 obtain⟨a,k,h1,rfl⟩:=one h;obtain⟨b,j,h2,rfl⟩:=one h1;obtain⟨c,i,f,rfl⟩:=one h2;obtain⟨d,g,e,rfl⟩:=one f;have:g=[]:=List.eq_nil_of_sublist_nil e;subst this;exact⟨a,b,c,d,by simp[gg]⟩
theorem C2(a b c d:Bool):(gg a b c d).length<=4:=by cases a<;>cases b<;>cases c<;>cases d<;>decide
theorem u5(a b c d:Bool):D.unds 0 (gg a b c d)=M:=by cases a<;>cases b<;>cases c<;>cases d<;>rfl
theorem Gf{a b c d:Bool}{S:Sto}:jl (.str "came") (.tup (gg a b c d)) S=Z (.bl a,S):=by cases a<;>cases b<;>cases c<;>cases d<;>rfl
theorem CG{a b c d:Bool}{S:Sto}:jl (.str "chalk") (.tup (gg a b c d)) S=Z (.bl b,S):=by cases a<;>cases b<;>cases c<;>cases d<;>rfl
theorem CF{a b c d:Bool}{S:Sto}:jl (.str "doors") (.tup (gg a b c d)) S=Z (.bl c,S):=by cases a<;>cases b<;>cases c<;>cases d<;>rfl
theorem zL{a b c d:Bool}{S:Sto}:jl (.str "others") (.tup (gg a b c d)) S=Z (.bl d,S):=by cases a<;>cases b<;>cases c<;>cases d<;>rfl
theorem s0{S:Sto}{n:Nat}{x:Nat}:∀a:List Nat,D3 (i8 S (n+1)) (.int x) (nmD a)=Z (a.contains x)
 |[]=>rfl
 |c::a=>by
  have d:i8 S (n+1) (.int c) (.int x)=Z ((c:Int) == (x:Int)):=rfl;have b:((c:Int) == (x:Int))=(x == c):=by
   rw[bO,RW,RW];lia
  have ih:=s0 (S:=S) (n:=n) (x:=x) a;rw[nmD,mP1,D3,d,b];rw[nmD]at ih;rw[ih,b5];rfl
theorem CD{S:Sto}{x:Nat}{cs:List Nat}:jl (.int x) (.tup (nmD cs)) S=Z (.bl (cs.contains x),S):=by
 simp only[jl,wy,KN,dZ,oS1,d8,show(60:Nat)=59+1 from rfl,s0,oP1]
noncomputable def vW(a b c d:Bool)(came chalk doors others:Int):D:=.tup [if a then .int came else .non,if b then .int chalk else .non,if c then .int doors else .non,if d then .int others else .non]
theorem y3{a b c d:Bool}{w x y z:Int}:(vW a b c d w x y z).und 0=M:=by cases a<;>cases b<;>cases c<;>cases d<;>rfl
theorem Cw{κ:Type}[DecidableEq κ]{k:κ}:dU ([]:List (κ×D)) k=Y:=rfl
theorem fV{κ:Type}[DecidableEq κ]{k a:κ}{d:D}{r:List (κ×D)}:dU ((a,d)::r) k=if a=k then Z d else dU r k:=by
 unfold dU;rw[bc];by_cases h:a=k
 ·simp[h]
 ·simp[h]
theorem o9{κ:Type}[DecidableEq κ]{k:κ}{b:List (κ×D)}:∀{a:List (κ×D)},dU (a++b) k=(dU a k).or (dU b k)
 |[]=>rfl
 |(x,d)::a=>by
  rw[bj,fV,fV,o9 (a:=a)];split<;>rfl
theorem kq{κ:Type}[DecidableEq κ]{k:κ}:∀{a:List (κ×D)},(a.any λp=>decide (p.1=k))=J->dU a k=Y
 |[],_=>rfl
 |(x,d)::a,h=>by
  simp only[bd,Bool.or_eq_false_iff,decide_eq_false_iff_not]at h;rw[fV,aj h.1];exact kq h.2
theorem mJ{κ:Type}[DecidableEq κ]{k k':κ}{v:D}:∀{a:List (κ×D)},(a.any λp=>decide (p.1=k))=M->dU (a.map λp=>if p.1=k then(p.1,v)else p) k'=if k'=k then Z v else dU a k'
 |[],h=>by simp at h
 |(x,d)::a,h=>by
  rw[mP1];by_cases f:x=k
  ·subst f;rw[ak (show(x,d).1=x from rfl)];rw[fV,fV];by_cases e:k'=x
   ·subst e;simp
   ·rw[aj (Py e),aj (Py e),aj e];by_cases g:(a.any λp=>decide (p.1=x))=M
    ·rw[mJ g,aj e]
    ·have:(a.map fun p=>if p.1=x then (p.1,v) else p)=a:=by
      have c:(a.any λp=>decide (p.1=x))=J:=cO.mpr g;rw[List.any_eq_false]at c
      conv=>rhs;rw[<- List.map_id a]
      apply cM;intro p i;have:=c p i;simp at this;simp[this]
     rw[this]
  ·simp only[bd,ai f,Bool.false_or]at h;rw[aj (show¬ (x,d).1=k from f)];rw[fV,fV,mJ h];by_cases b:x=k'
   ·subst b;simp[f]
   ·simp[b]
theorem fu{κ:Type}[DecidableEq κ]{k k':κ}{v:D}{a:List (κ×D)}:dU (gU a k v) k'=if k'=k then Z v else dU a k':=by
 unfold gU;split
 ·rename_i h;exact mJ h
 ·rename_i h;have h':(a.any λp=>decide (p.1=k))=J:=cO.mpr h;rw[o9,fV,Cw];by_cases b:k'=k
  ·subst b;rw[kq h',ak O];rfl
  ·rw[aj (Py b),aj b];cases dU a k'<;>rfl
theorem sB{κ:Type}[DecidableEq κ]{k:κ}{v:D}{a:List (κ×D)}:(gU a k v).length<=a.length+1:=by
 unfold gU;split
 ·rw[lM1];lia
 ·rw[lA1];simp
theorem Ig{κ:Type}[DecidableEq κ]{k:κ}{v:D}{a:List (κ×D)}:gU a k v≠[]:=by
 unfold gU;split
 ·rename_i h;intro z;cases a with
  |nil=>simp at h
  |cons x xs=>simp at z
 ·simp
def dO(F:List (TK×D)):Ob:=if F=[]then .dct []else .dcT F
theorem wR{U:Sto}{n:Nat}{F:List (TK×D)}{key v:D}{k:TK}{Q:D×Sto->Prop}(h:U[n]?=Z (dO F))(hk:keyT key=Z k)(b:F.length<1000)(q:Q (.non,U.set n (dO (gU F k v)))):W (ju (.ref n) key v U) Q:=by
 refine W.of ?_ q;unfold dO at h ⊢;rw[aj Ig];by_cases a:F=[]
 ·subst a;rw[ak O]at h;simp only[ju,h,hk];rfl
 ·rw[aj a]at h;simp only[ju,h,hk,oS1];rw[ak (nL1 b (by decide))]
theorem DT{U:Sto}{n:Nat}{F:List (TK×D)}{key v:D}{k:TK}{Q:D×Sto->Prop}(h:U[n]?=Z (dO F))(hk:keyT key=Z k)(hv:dU F k=Z v)(q:Q (v,U)):W (dL (.ref n) key U) Q:=by
 refine W.of ?_ q;unfold dO at h;by_cases a:F=[]
 ·subst a;cases hv
 ·rw[aj a]at h;simp only[dL,h,hk,oS1,hv,oP1]
noncomputable def KI(e:Nat×Nat):TK:=.tup [.int e.1,.int e.2]
theorem DQ{U:Sto}{n i:Nat}{xs:List D}{x:D}{Q:D×Sto->Prop}(h:U[n]?=Z (.lst xs))(hx:xs[i]?=Z x)(hb:i<1000)(q:Q (x,U.set n (.lst (xs.eraseIdx i)))):W (zO (.ref n) (.int i) U) Q:=by
 have a:=(R9 hx).1;refine W.of ?_ q;simp only[zO,h];rw[ak ⟨by lia,by lia⟩];simp only[zE,ak (show(0:Int)<=i by lia)];rw[ak (by lia)];simp[hx]
theorem CT{d:D}{S G:Sto}(hd:d.und 0=M)(a:S.all (Ob.und S.length)=M):gc S.length (d,S++G)=(d,S):=by
 unfold gc;dsimp only;rw[List.take_left,ak (by rw[ik hd,a];rfl)]
theorem CS{d:D}{S V:Sto}(hd:d.und 0=M)(a:S.all (Ob.und S.length)=M)(hp:S <+: V):gc S.length (d,V)=(d,S):=by
 obtain⟨G,rfl⟩:=hp;exact CT hd a
theorem DN{m:FA}{r:Ev}{S:Sto}{xs ys:List D}{n:Nat}{Q:An×Sto->Prop}(hm:m r S=Z ([.tup xs,.ref n],S))(hn:S[n]?=Z (.lst ys))(q:Q (⟨wY xs ys,[(n,ys)]⟩,S)):W (Hj m r S) Q:=by
 refine W.of (x:=(⟨wY xs ys,[(n,ys)]⟩,S)) ?_ q;simp only[Hj,hm,oS1,iD,fR hn,yx,n0 hn,cP]
theorem vJ{α:Type}{f g:α->D}:∀l:List α,wY (l.map f) (l.map g)=l.map λx=>D.tup [f x,g x]
 |[]=>rfl
 |a::l=>by rw[mP1,mP1,wY,vJ l];rfl
theorem rT{m:FA}{r:Ev}{S:Sto}{xs:List D}{Q:An×Sto->Prop}(hm:m r S=Z ([.tup xs],S))(q:Q (⟨u8 0 xs,[]⟩,S)):W (qa m r S) Q:=by
 refine W.of (x:=(⟨u8 0 xs,[]⟩,S)) ?_ q;simp only[qa,hm,oS1,iD,yx]
theorem wG{α:Type}{f:α->D}:∀(l:List α) (k:Nat),u8 k (l.map f)=(l.zipIdx k).map λp=>D.tup [.int (p.2:Nat),f p.1]
 |[],_=>rfl
 |a::l,k=>by rw[mP1,u8,wG l (k+1),List.zipIdx_cons];rfl
theorem ql{α:Type}{l:List α}{p:α×Nat}(h:p∈l.zipIdx):l[p.2]?=Z p.1:=by
 have:=cQ.mp h;exact this
theorem vK{α β:Type}(f:α->β)(l:List α):(l.zipIdx.map λp=>f p.1)=l.map f:=by
 have:(λp:α×Nat=>f p.1)=f∘Prod.fst:=rfl;rw[this,<- bu,List.zipIdx_map_fst]
mutual
theorem Bh{n:Nat}:∀{d:D},d.und 0=M->d.sh n=d
 | .non,_=>rfl
 | .bl _,_=>rfl
 | .int _,_=>rfl
 | .str _,_=>rfl
 | .tup xs,h=>by rw[D.und]at h;rw[D.sh,lE h]
 | .rol xs,h=>by rw[D.und]at h;rw[D.sh,lE h]
 | .fn _,_=>rfl
 | .ref k,h=>by simp[D.und]at h
theorem lE{n:Nat}:∀{ds:List D},D.unds 0 ds=M->D.shs n ds=ds
 |[],_=>rfl
 |d::ds,h=>by
  rw[D.unds,bA1]at h;rw[D.shs,Bh h.1,lE h.2]
end
theorem Ml{n:Nat}{f:FN}{ds:List D}{S:Sto}{Q:D×Sto->Prop}(hn:ds.length=n)(d:D.unds 0 ds=M)(h:W (f ds []) λp=>∃xs,p=(.ref 0,[.lst xs])/\D.unds 0 xs=M/\Q (.ref S.length,S++[.lst xs])):W (dI n f ds S) Q:=by
 obtain⟨p,e,xs,rfl,c,q⟩:=h;refine⟨_,pG e hn d O,?_⟩;have b:(D.ref 0).sh S.length = .ref S.length:=rfl;have a:[Ob.lst xs].map (Ob.sh S.length)=[Ob.lst xs]:=by rw[mP1,aZ,Ob.sh,lE c]
 rw[b,a];exact q
theorem Jo{ns:List Int}{k:Int}:k∈ddI ns↔k∈ns:=by
 have b:∀(ns a:List Int),k∈ns.foldl RH a↔k∈a\/k∈ns:=by
  intro ns
  induction ns with
  |nil=>intro a;simp
  |cons n ns ih=>
   intro a;rw[b4,ih];have:k∈RH a n↔k∈a\/k=n:=by
    unfold RH;split
    ·rename_i h;obtain⟨x,c,e⟩:=bP.mp h;have e:=RW.mp e;subst e;constructor
     ·exact .inl
     ·rintro(z|z)
      ·exact z
      ·rw[z];exact c
    ·simp
   rw[this,aF,or_assoc]
 unfold ddI;rw[b];simp
theorem Ex{xs:List Nat}{m:Nat}{f:Nat->Bool}(h:∀r,r∈xs↔r<m/\f r=M):iC (ddI (xs.map λ(r:Nat)=>(r:Int)))=((af m).filter f).map λ(r:Nat)=>(r:Int):=by
 refine nQ ?_ (jC _) ?_
 ·refine(fJ _).trans ?_;refine(List.perm_ext_iff_of_nodup (l8 _ [] bp) ?_).mpr λk=>?_
  ·refine cR.mpr ((List.nodup_range.filter f).imp λb z=>b (by lia))
  ·show k∈ddI _↔_;rw[Jo,cf,cf];constructor
   ·rintro⟨r,a,rfl⟩;exact⟨r,aB.mpr ⟨aC.mpr ((h r).mp a).1,((h r).mp a).2⟩,O⟩
   ·rintro⟨r,a,rfl⟩;obtain⟨h1,h2⟩:=aB.mp a;exact⟨r,(h r).mpr ⟨aC.mp h1,h2⟩,O⟩
 ·refine cR.mpr ((List.pairwise_lt_range.sublist List.filter_sublist).imp λc=>by lia)
theorem yc(xs:List Nat):jj (nmD xs)=Z (xs.map λ(r:Nat)=>(r:Int)):=by
 induction xs with
 |nil=>rfl
 |cons x xs ih=>
  show(jj (nmD xs)).map _=_;rw[ih];rfl
theorem rS{S:Sto}{n:Nat}{xs:List Nat}{m:Nat}{f:Nat->Bool}{Q:D×Sto->Prop}(hn:S[n]?=Z (.lst (nmD xs)))(h:∀r,r∈xs↔r<m/\f r=M)(a:xs.length<64)(q:Q (.ref S.length,S++[.lst (nmD ((af m).filter f))])):W (i7 (.ref n) S) Q:=by
 refine W.of (x:=(.ref S.length,S++[.lst (nmD ((af m).filter f))])) ?_ q;simp only[i7,fR hn,yc,oS1];rw[ak (by rw[lM1];exact a),Ex h,bu];rfl
end Mi
end
local macro_rules | `(tactic| walk_at"w") => `(tactic| simp only[Mi.dV, Mi.ls, Mi.ite_and', Mi.dN, Mi.j3, Mi.vx, Mi.dQ, Mi.dS, Mi.ft, Mi.eh, Mi.fG, Mi.kW, Mi.mN, Mi.dG, Mi.dH, Mi.m2, Mi.mV, Mi.mC, Mi.DR, Mi.Kt, Mi.mB, Mi.p9, Mi.Cq, Mi.nG, Mi.kX, Mi.uF, Mi.uG, Mi.eY, Mi.vG, Mi.HK, Mi.gN, Mi.gT, Mi.gCs, Mi.gNl, Mi.gS, Mi.b1, Mi.b2, Mi.b3, Mi.gM, Mi.hB, Mi.mr, Mi.DS, Mi.Mu, Mi.KL, Mi.MN, Mi.fF, Mi.uS, Mi.KA, Mi.DV, Mi.jm, Mi.pk, Mi.Gr, Mi.Gj, Mi.Gn, Mi.Gq, Mi.O8, Mi.O7, Mi.On, Mi.O6, Mi.O5, Mi.O4, true_and, Mi.eN, Mi.dP, bE, lA1, cS, gC1, List.getElem?_nil, cT, cD, lC1, bf, mP1, aZ, Mi.OV, Mi.OU, Mi.OL, Mi.OJ, Mi.OI, Mi.OH, Mi.OG, Mi.OF, Mi.OE, Mi.Lg, Mi.Np, cP, bj, aN, cU, Nat.reduceSub, cV, Option.join_none, oP1, Option.map_none, oS1, Option.bind_none, QC, QA, bF1, bY, cI, ite_true, ite_false, reduceIte, decide_true, decide_false, Mi.Oq, Mi.Pa, Mi.hZ, Mi.iD, Mi.Kw, Mi.Kx, Mi.Mt])
noncomputable section
namespace Law
local macro_rules | `(tactic| wp_walk using $e,*) => `(tactic| ((try walk_at"w");repeat(simp only[$[$e:term],*];try walk_at"w")))
open PySem PySem.Spec PyProof.Rows L2 Mi
def top (i:Nat):dE:=PySem.Challenge.pw_ringmeet_k39_whole_alike_ones_never_meet.main.body.getD i (.Pass ⟨0,0,0,0⟩)
abbrev BL:List Str:=["all","bool","enumerate","int","isinstance","len","list","max","min","range","set","sorted","str","tuple","zip"]
def jo:D:=(D.tup [(D.tup [(D.str "came"),(D.int 5)]),(D.tup [(D.str "chalk"),(D.int 2)]),(D.tup [(D.str "doors"),(D.int 5)]),(D.tup [(D.str "others"),(D.int 2)])])
section
variable{P:dn}{w:dr}{K:Fg1}{mg:Str->Option di}{base h:dB}(X:K.In h) (G:h.Ns dv mg) (B:Blt BL mg)
include X G B
abbrev oA:dE:=top 1
def pK:FS:=(eh (kX (sQ .int (mV 0)) (uF (sQ .bool (mV 0)))))
def gm:FN:=gM 1 pK
theorem uu {f:dk}(F:d7 K "is_whole" oA f):
  eR P w K mg base 1 "is_whole" 1 gm:=xq ["thing"] X G F λa=>
 (qG (qU (jc (ii xv) (kd (w1 (ii xv))))))
abbrev kN:dE:=top 3
def iM:FS:=(eh (kX (sQ .tuple (mV 0)) (m2 (b2 gEq) (mN (b1 eB) (dG (mV 0) dH)) (mV 1))))
def eI:FN:=gM 2 iM
theorem oN {f:dk}(F:d7 K "is_tuple_of" kN f):
  eR P w K mg base 1 "is_tuple_of" 2 eI:=xq ["thing","many"] X G F λa=>
 (qG (qU (jc (ii xv) (kd (ce (oq iZ) (cn eH (a1 xv)) xv)))))
abbrev xp:dE:=top 7
def mH:FS:=(dQ (dS (mN (b1 gTup) (dG (ez 2 [2] (g9 (mV 5)) (gT 2 (gCs (gN 0) (gCs (gN 1) gNl))) eY (eg (eG (dG (m2 (b2 dL) (mV 2) (mV 0)) (dG (mV 1) dH))))) dH)) (gN 6))
  (fG (oW (b2 iK) (mV 3) (dG (eG (dG (m2 (b2 dL) (mV 2) (mV 4)) (dG (m2 (b2 dL) (mV 1) (mV 4)) (dG (mV 6) dH)))) dH))))
def tK:FS:=(dQ (dS (g6 dH) (gN 3))
  (dQ (fF (qa (dG (mV 0) dH)) (gT 2 (gCs (gN 4) (gCs (gN 5) gNl))) mH)
  (eh (mV 3))))
def gB:FN:=gM 7 tK
theorem BW {f:dk}(F:d7 K "looks" xp f):
  eR P w K mg base 1 "looks" 3 gB:=xq ["web","signs","colours","found","room","doors","led_to"] X G F λa=>
 (qF (sq (ff qN)) (qF (fo (ie (a1 xv)) (tg2 gq gq) (qF (sq (cz eO (a1 (fk ["there","back"] (qd xv) ⟨(tg2 gq gq),ei,(dY (a2 (jq xv xv) xv))⟩)))) (qG (lq ap xv (a1 (dY (a3 (jq xv xv) (jq xv xv) xv))))))) (qG (qU xv))))
abbrev oz:dE:=top 10
def lN:FS:=(ft (mB (m2 (b2 kx) (mV 2) (mV 1))) (dS (mN (b1 rl) (dG (mV 1) dH)) (gS (b3 ju) (mV 1) (mV 2))) kW)
def pJ:FS:=(dQ (dS oX (gN 1))
  (dQ (fF (g9 (mV 0)) (gN 2) lN)
  (eh (mN (b1 gTup) (dG (ez 1 [1] (g9 (mV 0)) (gN 0) eY (eg (m2 (b2 dL) (mV 1) (mV 0)))) dH)))))
def gl:FN:=gM 3 pJ
theorem ut {f:dk}(F:d7 K "numbered" oz f):
  eR P w K mg base 1 "numbered" 1 gl:=xq ["things","numbers","thing"] X G F λa=>
 (qF (sq oi) (qF (fo (qd xv) gq (qG (qV (ct (oq B1) xv xv (by with_unfolding_all rfl)) (qG (qR (cn Km (a1 xv)) (ly xv xv (oy a.units)))) qQ))) (qG (qU (cz eO (a1 (fk ["thing"] (qd xv) ⟨gq,ei,(jq xv xv)⟩)))))))
abbrev lG:dE:=top 11
def jp:FS:=(eh (m2 (b2 gEq) (mN (b1 rj) (dG (mN (b1 iH) (dG (mV 0) dH)) dH)) (mN (b1 eB) (dG (mV 0) dH))))
def eT:FN:=gM 1 jp
theorem pX {f:dk}(F:d7 K "all_unlike" lG f):
  eR P w K mg base 1 "all_unlike" 1 eT:=xq ["colours"] X G F λa=>
 (qG (qU (ce (oq iZ) (cn Dp (a1 (cz (Do a) (a1 xv)))) (cn eH (a1 xv)))))
abbrev kO:dE:=top 13
def k4:FS:=(eh (mN (b1 gTup) (dG (ez 1 [1] (nK (dG (mN (b1 eB) (dG (mV 0) dH)) dH)) (gN 0) eY (eg (uG (mB (m2 (b2 jl) (mV 0) (mV 1))) (mC (D.int 1)) (mC (D.int 0))))) dH)))
def eJ:FN:=gM 2 k4
theorem oO {f:dk}(F:d7 K "chalk_signs" kO f):
  eR P w K mg base 1 "chalk_signs" 2 eJ:=xq ["web","chalk"] X G F λa=>
 (qG (qU (cz eO (a1 (fk ["room"] (ir (a1 (cn eH (a1 xv)))) ⟨gq,ei,(lf (ct (oq qL) xv xv (by with_unfolding_all rfl)) qK qK)⟩)))))
abbrev ua:dE:=top 22
def li:FS:=(dQ (dS (uG (mB (m2 (b2 jl) (mV 2) (mV 0))) (zx (dG (mV 3) dH)) (g6 (dG (mC D.non) dH))) (gN 4))
  (dS (ez 2 [4] (g9 (mV 1)) (gN 0) eY (u4 (g9 (mV 2)) (gN 1) eY (eg (m2 (b2 fX) (mV 0) (eG (dG (mV 1) dH)))))) (gN 1)))
def vr:FS:=(dQ (dS (g6 (dG (eG dH) dH)) (gN 1))
  (dQ (fF (g9 (mC jo)) (gT 2 (gCs (gN 2) (gCs (gN 3) gNl))) li)
  (eh (mN (b1 gTup) (dG (mV 1) dH)))))
def jN:FN:=gM 5 vr
theorem zl {f:dk}(F:d7 K "sights" ua f)(a:CGl K mg "PARTS" jo):
  eR P w K mg base 1 "sights" 1 jN:=xq ["eyes","found","eye","many","parts"] X G F λb=>
 (qF (sq (ff (a1 (dY qN)))) (qF (fo (qd (oh a O)) (tg2 gq gq) (qF (sq (lf (ct (oq qL) xv xv (by with_unfolding_all rfl)) (og O O (bz B) O (bz B) (a1 xv)) (ff (a1 iB)))) (qG (yN 1 O (T:=["sight","part"]) (keep:=[4]) ⟨O,by decide+kernel,(kc "parts" (cK _))⟩ O (qd xv) (λ_ _ _=>⟨gq,ei,(qd xv),gq,ei,(qI fY xv (dY (a1 xv)))⟩) (gF O) O (by first|exact R3 rfl|exact R4 rfl))))) (qG (qU (cz eO (a1 xv))))))
abbrev oC:dE:=top 24
def lP:FT:=(mB (m2 (b2 gLt) (mV 2) (mV 3)))
def lO:FS:=(dQ (dS (m2 (b2 nL) (m2 (b2 fX) (mV 2) (mV 3)) (mC (D.int 2))) (gN 4))
  (ft (mB (m2 (b2 gLt) (m2 (b2 dL) (m2 (b2 dL) (m2 (b2 dL) (mV 0) (mV 4)) (mC (D.int 0))) (mC (D.int 0))) (mV 1))) (dS (m2 (b2 fX) (mV 4) (mC (D.int 1))) (gN 2)) (dS (mV 4) (gN 3))))
def pM:FS:=(dQ (dS (mC (D.int 0)) (gN 2))
  (dQ (dS (mN (b1 eB) (dG (mV 0) dH)) (gN 3))
  (dQ (qp lP lO 100000)
  (eh (mV 2)))))
def iz:FN:=gM 5 pM
theorem uw {f:dk}(F:d7 K "first_of" oC f):
  eR P w K mg base 1 "first_of" 2 iz:=xq ["rows","mood","low","high","middle"] X G F λa=>
 (qF (sq qK) (qF (sq (cn eH (a1 xv))) (qF (iP 100000 R1 (ct (oq kS) xv xv) (qF (sq (qI ux (qI fY xv xv) qK)) (qG (qV (ct (oq kS) (jq (jq (jq xv xv) qK) qK) xv) (qG (sq (qI fY xv qK))) (qG (sq xv)))))) (qG (qU xv)))))
abbrev xr:dE:=top 26
def yD:FS:=(dQ (dS (mV 0) (gT 2 (gCs (gN 1) (gCs (gN 2) gNl))))
  (eh (eG (dG (mN (b1 gTup) (dG (ez 1 [] (g9 (mV 1)) (gN 0) eY (eg (eG (dG (mV 0) (dG (mC (D.int 0)) (dG (mC (D.int 0)) dH)))))) dH)) (dG (mV 2) dH)))))
def lV:FN:=gM 3 yD
theorem BX {f:dk}(F:d7 K "begun" xr f):
  eR P w K mg base 1 "begun" 1 lV:=xq ["standing","rooms","chalk"] X G F λa=>
 (qF (qR xv (tg2 gq gq)) (qG (qU (dY (a2 (cz eO (a1 (fk ["room"] (qd xv) ⟨gq,ei,(dY (a3 xv qK qK))⟩))) xv)))))
abbrev ox:dE:=top 27
def pI:FS:=(dQ (dS (mV 2) (gT 2 (gCs (gN 4) (gCs (gN 5) gNl))))
  (dQ (dS (m2 (b2 dL) (mV 4) (mV 3)) (gT 3 (gCs (gN 6) (gCs (gN 7) (gCs (gN 8) gNl)))))
  (dQ (dS (ez 1 [6] (g9 (mV 4)) (gN 0) (mB (m2 (b2 gEq) (m2 (b2 dL) (mV 0) (mC (D.int 0))) (mV 1))) (eg (mV 0))) (gN 9))
  (dQ (dS (xR [((mC (D.str "came")),(mV 7)),((mC (D.str "chalk")),(uG (mB (m2 (b2 jl) (mV 6) (mV 5))) (mC (D.int 1)) (mC (D.int 0)))),((mC (D.str "doors")),(mN (b1 eB) (dG (m2 (b2 dL) (mV 0) (mV 6)) dH))),((mC (D.str "others")),(uG (mB (m2 (b2 (jm λi j=>decide (j<i))) (mN (b1 eB) (dG (mV 9) dH)) (mC (D.int 1)))) (mC (D.int 1)) (mC (D.int 0))))]) (gN 10))
  (eh (mN (b1 gTup) (dG (ez 2 [1,10] (g9 (mC jo)) (gT 2 (gCs (gN 0) (gCs (gN 1) gNl))) eY (eg (uG (mB (m2 (b2 jl) (mV 0) (mV 2))) (m2 (b2 dL) (mV 3) (mV 0)) (mC D.non)))) dH)))))))
def iy:FN:=gM 11 pI
theorem ur {f:dk}(F:d7 K "sight_of" ox f)(a:CGl K mg "PARTS" jo):
  eR P w K mg base 1 "sight_of" 4 iy:=xq ["web","eyes","whole","k","walkers","chalk","room","came","mood","here","parts"] X G F λb=>
 (qF (qR xv (tg2 gq gq)) (qF (qR (jq xv xv) (ka O (eu gq (eu gq (eu gq iQ))))) (qF (ib 9 O (T:=["other"]) (keep:=[6]) ⟨O,by decide+kernel,(kc "room" (cK _))⟩ O (qd xv) (λ_ _ _=>⟨gq,(gy (ct (oq iZ) (jq xv qK) xv)),xv⟩) (gF O) O (by first|exact R3 rfl|exact R4 rfl)) (qF (sq (AC (lx fe xv (lx fe (lf (ct (oq qL) xv xv (by with_unfolding_all rfl)) qK qK) (lx fe (cn eH (a1 (jq xv xv))) (lx fe (lf (ct Fk (cn eH (a1 xv)) qK) qK qK) Ee)))))) (qG (qU (cz eO (a1 (fk ["eye","many"] (qd (oh a rfl)) ⟨(tg2 gq gq),ei,(lf (ct (oq qL) xv xv (by with_unfolding_all rfl)) (jq xv xv) iB)⟩)))))))))
abbrev qu:dE:=top 31
def rP:FS:=(dQ (dS (mV 0) (gT 2 (gCs (gN 2) (gCs (gN 3) gNl))))
  (dQ (dS (ez 2 [] (Hj (dG (mV 2) (dG (mV 1) dH))) (gT 2 (gCs (gN 0) (gCs (gN 1) gNl))) (mB (m2 (b2 gEq) (m2 (b2 dL) (mV 1) (mC (D.int 1))) (mC (D.str "mark")))) (eg (m2 (b2 dL) (mV 0) (mC (D.int 0))))) (gN 4))
  (dQ (dS (ez 2 [] (Hj (dG (mV 2) (dG (mV 1) dH))) (gT 2 (gCs (gN 0) (gCs (gN 1) gNl))) (mB (m2 (b2 gEq) (m2 (b2 dL) (mV 1) (mC (D.int 1))) (mC (D.str "wipe")))) (eg (m2 (b2 dL) (mV 0) (mC (D.int 0))))) (gN 5))
  (dQ (dS (ez 1 [5] (g9 (mV 3)) (gN 0) (mB (m2 (b2 fW) (mV 0) (mV 1))) (eg (mV 0))) (gN 6))
  (eh (mN (b1 gTup) (dG (mN (b1 i7) (dG (m2 (b2 fX) (mV 6) (mV 4)) dH)) dH)))))))
def i5:FN:=gM 7 rP
theorem we {f:dk}(F:d7 K "handled" qu f):
  eR P w K mg base 1 "handled" 2 i5:=xq ["whole","deeds","walkers","chalk","marked","wiped","left"] X G F λa=>
 (qF (qR xv (tg2 gq gq)) (qF (ib 4 O (T:=["walker","deed"]) (keep:=[]) ⟨O,by decide+kernel,(cK _)⟩ O (rW O (bz B) (a2 xv xv)) (λ_ _ _=>⟨(tg2 gq gq),(gy (ct (oq iZ) (jq xv qK) fe)),(jq xv qK)⟩) (gF O) O (by first|exact R3 rfl|exact R4 rfl)) (qF (sq (fk ["walker","deed"] (rW rfl (bz B) (a2 xv xv)) ⟨(tg2 gq gq),(gy (ct (oq iZ) (jq xv qK) fe)),(jq xv qK)⟩)) (qF (ib 6 rfl (T:=["room"]) (keep:=[5]) ⟨rfl,by decide+kernel,(kc "wiped" (cK _))⟩ rfl (qd xv) (λ_ _ _=>⟨gq,(gy (ct (oq oS) xv xv (by with_unfolding_all rfl))),xv⟩) (gF O) O (by first|exact R3 rfl|exact R4 rfl)) (qG (qU (cz eO (a1 (qm rfl rfl (bz B) rfl (bz B) (qI fY xv xv))))))))))
abbrev qs:dE:=top 32
def rM:FS:=(dQ (dS (mV 1) (gT 3 (gCs (gN 3) (gCs (gN 4) (gCs (gN 5) gNl)))))
  (dQ (dS (mV 2) (gT 3 (gCs (gN 6) (gCs (gN 7) (gCs (gN 8) gNl)))))
  (dQ (ft (Cq (mB (m2 (b2 wx) (mV 8) (mC D.non))) (mB (m2 (b2 (jm λi j=>decide (j<=i))) (mV 8) (mN (b1 eB) (dG (m2 (b2 dL) (mV 0) (mV 3)) dH))))) (eh (eG (dG (mV 3) (dG (mV 4) (dG (mV 6) dH))))) kW)
  (dQ (dS (m2 (b2 dL) (m2 (b2 dL) (mV 0) (mV 3)) (mV 8)) (gT 2 (gCs (gN 9) (gCs (gN 10) gNl))))
  (eh (eG (dG (mV 9) (dG (m2 (b2 fX) (mC (D.int 1)) (mV 10)) (dG (mV 6) dH)))))))))
def i3:FN:=gM 11 rM
theorem wc {f:dk}(F:d7 K "stepped" qs f):
  eR P w K mg base 1 "stepped" 3 i3:=xq ["web","walker","deed","room","came","past","mood","hand","step","there","back"] X G F λa=>
 (qF (qR xv (ka O (eu gq (eu gq (eu gq iQ))))) (qF (qR xv (ka O (eu gq (eu gq (eu gq iQ))))) (qF (qV (kI (lc (ct Ha xv iB) (lw (ct LF xv (cn eH (a1 (jq xv xv))))))) (qG (qU (dY (a3 xv xv xv)))) qQ) (qF (qR (jq (jq xv xv) xv) (tg2 gq gq)) (qG (qU (dY (a3 xv (qI fY qK xv) xv))))))))
abbrev uc:dE:=top 33
def vt:FS:=(dQ (dS (m2 (b2 dL) (m2 (b2 dL) (m2 (b2 dL) (mV 0) (mC (D.int 0))) (mC (D.int 0))) (mC (D.int 0))) (gN 1))
  (eh (mN (b1 qc) (dG (ez 3 [1] (g9 (m2 (b2 dL) (mV 0) (mC (D.int 0)))) (gT 3 (gCs (gN 0) (gCs (gN 1) (gCs (gN 2) gNl)))) eY (eg (m2 (b2 gEq) (mV 0) (mV 3)))) dH))))
def jO:FN:=gM 2 vt
theorem zm {f:dk}(F:d7 K "is_met" uc f):
  eR P w K mg base 1 "is_met" 1 jO:=xq ["whole","first"] X G F λa=>
 (qF (sq (jq (jq (jq xv qK) qK) qK)) (qG (qU (cn (Ds O) (a1 (fk ["room","came","mood"] (qd (jq xv qK)) ⟨(ka O (eu gq (eu gq (eu gq iQ)))),ei,(ce (oq iZ) xv xv)⟩))))))
abbrev m9:dE:=top 35
def j1:FS:=(dQ (dS (mC (D.int 0)) (gN 2))
  (dQ (ft (mB (m2 (b2 gLt) (mV 1) (mN (b1 eB) (dG (mV 0) dH)))) (dS (m2 (b2 dL) (mV 0) (mV 1)) (gN 2)) kW)
  (dQ (dS (m2 (b2 mR) (m2 (b2 wv) (mC (D.int 10)) (mC (D.int 60))) (m2 (b2 wv) (mC (D.int 10)) (mC (D.int 30)))) (gN 3))
  (eh (g6 (dG (m2 (b2 mR) (m2 (b2 l5) (mV 2) (mV 3)) (mN (b1 pk) (dG (m2 (b2 (jm λi j=>decide (j<=i))) (mV 2) (m2 (b2 wv) (mC (D.int 10)) (mC (D.int 18)))) dH))) (dG (m2 (b2 l5) (m2 (b2 fX) (m2 (b2 fX) (m2 (b2 l5) (mV 2) (mC (D.int 2305843009213693951))) (m2 (b2 mR) (mC (D.int 7919)) (mV 1))) (mC (D.int 5))) (mC (D.int 2305843009213693951))) (dG (mC (D.int 0)) dH))))))))
def fO:FN:=gM 4 j1
theorem sL {f:dk}(F:d7 K "_law_hand" m9 f):
  eR P w K mg base 1 "_law_hand" 2 fO:=xq ["_law_script","_law_k","_law_cell","_law_far"] X G F λa=>
 (qF (sq qK) (qF (qV (ct (oq kS) xv (cn eH (a1 xv))) (qG (sq (jq xv xv))) qQ) (qF (sq (qI ni (qI B0 qK qK) (qI B0 qK qK))) (qG (qU (ff (a3 (qI ni (qI nj xv xv) (cz vq (a1 (ce LF xv (qI B0 qK qK))))) (qI nj (qI fY (qI fY (qI nj xv qK) (qI ni qK xv)) qK) qK) qK)))))))
abbrev m6:dE:=top 36
def jZ:FS:=(dQ (ft (mB (m2 (b2 (jm fun i j=>decide (j<i))) (m2 (b2 dL) (mV 0) (mC (D.int 0))) (mC (D.int 0)))) (dQ (dS (m2 (b2 l5) (m2 (b2 dL) (mV 0) (mC (D.int 0))) (mV 1)) (gN 2))
  (dQ (dS (m2 (b2 nL) (m2 (b2 dL) (mV 0) (mC (D.int 0))) (mV 1)) (gS (b3 ju) (mV 0) (mC (D.int 0))))
  (eh (mV 2)))) kW)
  (dQ (dS (m2 (b2 fX) (m2 (b2 dL) (mV 0) (mC (D.int 2))) (mC (D.int 1))) (gS (b3 ju) (mV 0) (mC (D.int 2))))
  (dQ (dS (m2 (b2 l5) (m2 (b2 mR) (m2 (b2 fX) (m2 (b2 fX) (m2 (b2 dL) (mV 0) (mC (D.int 1))) (m2 (b2 mR) (m2 (b2 mR) (mC (D.int 9973)) (m2 (b2 dL) (mV 0) (mC (D.int 2)))) (m2 (b2 dL) (mV 0) (mC (D.int 2))))) (mC (D.int 17))) (mC (D.int 69621))) (mC (D.int 2305843009213693921))) (gN 3))
  (dQ (dS (m2 (b2 l5) (m2 (b2 mR) (mV 3) (m2 (b2 fX) (m2 (b2 l5) (mV 3) (mC (D.int 999983))) (m2 (b2 mR) (mC (D.int 7919)) (m2 (b2 dL) (mV 0) (mC (D.int 2)))))) (mC (D.int 2305843009213693907))) (gN 3))
  (eh (m2 (b2 l5) (m2 (b2 fX) (m2 (b2 nL) (mV 3) (mC (D.int 101))) (m2 (b2 nL) (mV 3) (mC (D.int 1000003)))) (mV 1)))))))
def dM:FN:=gM 4 jZ
theorem sJ {f:dk}(F:d7 K "_law_take" m6 f):
  eR P w K mg base 1 "_law_take" 2 dM:=xq ["_law_hand_here","_law_many","_law_digit","_law_mixed"] X G F λa=>
 (qF (qV (ct Fk (jq xv qK) qK) (qF (sq (qI nj (jq xv qK) xv)) (qF (qR (qI ux (jq xv qK) xv) (ly xv qK (oy a.units))) (qG (qU xv)))) qQ) (qF (qR (qI fY (jq xv qK) qK) (ly xv qK (oy a.units))) (qF (sq (qI nj (qI ni (qI fY (qI fY (jq xv qK) (qI ni (qI ni qK (jq xv qK)) (jq xv qK))) qK) qK) qK)) (qF (sq (qI nj (qI ni xv (qI fY (qI nj xv qK) (qI ni qK (jq xv qK)))) qK)) (qG (qU (qI nj (qI fY (qI ux xv qK) (qI ux xv qK)) xv)))))))
abbrev oB:dE:=top 2
def pL:FS:=(eh (kX (mN (dI 1 gm) (dG (mV 0) dH)) (LO (b2 (jm λi j=>decide (i<=j))) (b2 gLt) (mC (D.int 0)) (mV 0) (mV 1))))
def gI:FN:=gM 2 pL
theorem uv {f:dk}(F:d7 K "is_below" oB f)(a:eR P w K mg base 1 "is_whole" 1 gm):
  eR P w K mg base 2 "is_below" 2 gI:=xq ["thing","bound"] X G F λb=>
 (qG (qU (jc (wn a (a1 xv)) (kd (yM Ny (oq kS) qK xv xv)))))
abbrev mZ:dE:=top 4
def nt:FS:=(eh (kX (mN (dI 2 eI) (dG (mV 0) (dG (mV 2) dH))) (kX (sQ .str (m2 (b2 dL) (mV 0) (mC (D.int 0)))) (m2 (b2 gEq) (m2 (b2 dL) (mV 0) (mC (D.int 0))) (mV 1)))))
def gr:FN:=gM 3 nt
theorem sG {f:dk}(F:d7 K "is_headed" mZ f)(a:eR P w K mg base 1 "is_tuple_of" 2 eI):
  eR P w K mg base 2 "is_headed" 3 gr:=xq ["thing","word","many"] X G F λb=>
 (qG (qU (jc (wn a (a2 xv xv)) (jc (ii (jq xv qK)) (kd (ce (oq iZ) (jq xv qK) xv))))))
abbrev jF:dE:=top 6
def jX:FS:=(dQ (ft (Cq (nG (vG (mN (dI 2 eI) (dG (mV 2) (dG (mN (b1 eB) (dG (mV 0) dH)) dH))))) (nG (vG (mN (b1 qc) (dG (ez 1 [] (g9 (mV 2)) (gN 0) eY (eg (mN (dI 1 gm) (dG (mV 0) dH)))) dH))))) (eh (mC (D.bl false))) kW)
  (eh (m2 (b2 gEq) (mN (b1 jT) (dG (mN (dI 3 gB) (dG (mV 0) (dG (mV 1) (dG (mV 2) dH)))) dH)) (mN (b1 rj) (dG (mN (b1 iH) (dG (mV 2) dH)) dH)))))
def eX:FN:=gM 3 jX
theorem nC {f:dk}(F:d7 K "is_colouring" jF f)(d:eR P w K mg base 1 "is_tuple_of" 2 eI)(b:eR P w K mg base 1 "is_whole" 1 gm)(c:eR P w K mg base 1 "looks" 3 gB):
  eR P w K mg base 2 "is_colouring" 3 eX:=xq ["web","signs","thing"] X G F λa=>
 (qF (qV (kI (lc (j9 (gx (wn d (a2 xv (cn eH (a1 xv)))))) (lw (j9 (gx (cn (Ds O) (a1 (fk ["number"] (qd xv) ⟨gq,ei,(wn b (a1 xv))⟩)))))))) (qG (qU fI)) qQ) (qG (qU (ce (oq iZ) (AB O a.units O (bz B) O (bz B) (wn c (a3 xv xv xv))) (cn Dp (a1 (cz (Do a) (a1 xv))))))))
abbrev qt:dE:=top 9
def nf:FT:=(mB (m2 (b2 ww) (mV 4) (mV 3)))
def nb:FS:=(dQ (dS (mV 4) (gN 3))
  (dS (uH 2 "numbered" (dI 1 gl) (dG (mN (dI 3 gB) (dG (mV 0) (dG (mV 1) (dG (mV 3) dH)))) dH)) (gN 4)))
def rO:FS:=(dQ (dS (mN (b1 gTup) (dG (ez 1 [] (g9 (mV 0)) (gN 0) eY (eg (mC (D.int 0)))) dH)) (gN 3))
  (dQ (dS (uH 2 "numbered" (dI 1 gl) (dG (mN (dI 3 gB) (dG (mV 0) (dG (mV 1) (dG (mV 3) dH)))) dH)) (gN 4))
  (dQ (qp nf nb 100000)
  (eh (mV 3)))))
def i4:FN:=gM 5 rO
theorem wd {f:dk}(F:d7 K "refined" qt f)(a:eR P w K mg base 1 "looks" 3 gB)(b:eR P w K mg base 1 "numbered" 1 gl):
  eR P w K mg base 2 "refined" 3 i4:=xq ["web","signs","numbering","colours","finer"] X G F λc=>
 (qF (sq (cz eO (a1 (fk ["room"] (qd xv) ⟨gq,ei,qK⟩)))) (qF (sq (qo 2 b c (by first|decide|omega) rfl (by first|exact R3 rfl|exact R4 rfl) (a1 (wn a (a3 xv xv xv))))) (qF (iP 100000 R1 (ct (oq wg) xv xv) (qF (sq xv) (qG (sq (qo 2 b c (by first|decide|omega) rfl (by first|exact R3 rfl|exact R4 rfl) (a1 (wn a (a3 xv xv xv)))))))) (qG (qU xv)))))
abbrev m5:dE:=top 14
def nw:FS:=(dQ (dS (mV 1) (gT 2 (gCs (gN 2) (gCs (gN 3) gNl))))
  (dQ (dS (mN (dI 2 eJ) (dG (mV 0) (dG (mV 3) dH))) (gN 4))
  (eh (mN (b1 gTup) (dG (ez 2 [2] (qa (dG (mV 4) dH)) (gT 2 (gCs (gN 0) (gCs (gN 1) gNl))) eY (eg (uG (mB (m2 (b2 jl) (mV 0) (mV 2))) (m2 (b2 fX) (mV 1) (mC (D.int 2))) (mV 1)))) dH)))))
def fL:FN:=gM 5 nw
theorem sI {f:dk}(F:d7 K "all_signs" m5 f)(a:eR P w K mg base 1 "chalk_signs" 2 eJ):
  eR P w K mg base 2 "all_signs" 2 fL:=xq ["web","standing","rooms","chalk","signs"] X G F λb=>
 (qF (qR xv (tg2 gq gq)) (qF (sq (wn a (a2 xv xv))) (qG (qU (cz eO (a1 (fk ["room","sign"] (ie (a1 xv)) ⟨(tg2 gq gq),ei,(lf (ct (oq qL) xv xv (by with_unfolding_all rfl)) (qI fY xv qK) xv)⟩)))))))
abbrev qv:dE:=top 23
def nh:FT:=(p9 (mB (m2 (b2 gLt) (mV 4) (mN (b1 eB) (dG (mV 3) dH)))) (mB (m2 (b2 gEq) (m2 (b2 dL) (m2 (b2 dL) (m2 (b2 dL) (mV 3) (mV 4)) (mC (D.int 0))) (mC (D.int 0))) (mV 1))))
def ng:FS:=(dQ (ft (mB (m2 (b2 gEq) (m2 (b2 dL) (m2 (b2 dL) (m2 (b2 dL) (mV 3) (mV 4)) (mC (D.int 0))) (mC (D.int 1))) (mV 2))) (eh (m2 (b2 dL) (m2 (b2 dL) (mV 3) (mV 4)) (mC (D.int 1)))) kW)
  (FM 4 (b2 CW) (mC (D.int 1))))
def rQ:FS:=(dQ (dS (m2 (b2 dL) (mV 0) (mC (D.int 1))) (gN 3))
  (dQ (dS (mN (dI 2 iz) (dG (mV 3) (dG (mV 1) dH))) (gN 4))
  (dQ (qp nh ng 100000)
  (eh (eG (dG (mV 1) (dG (mC (D.str "leave")) (dG (mC D.non) dH))))))))
def gJ:FN:=gM 5 rQ
theorem wf {f:dk}(F:d7 K "deed_of" qv f)(a:eR P w K mg base 1 "first_of" 2 iz):
  eR P w K mg base 2 "deed_of" 3 gJ:=xq ["machine","mood","sight","rows","at"] X G F λb=>
 (qF (sq (jq xv qK)) (qF (sq (wn a (a2 xv xv))) (qF (iP 100000 R1 (kI (j8 (ct (oq kS) xv (cn eH (a1 xv))) (jy (ct (oq iZ) (jq (jq (jq xv xv) qK) qK) xv)))) (qF (qV (ct (oq iZ) (jq (jq (jq xv xv) qK) qK) xv) (qG (qU (jq (jq xv xv) qK))) qQ) (qG (Ed 4 (gF O) O (by first|exact R3 rfl|exact R4 rfl) qK Gc)))) (qG (qU (dY (a3 xv fe iB)))))))
abbrev xl:dE:=top 28
def yA:FS:=(eh (ez 2 [0,1,2] (qa (dG (m2 (b2 dL) (mV 2) (mC (D.int 0))) dH)) (gT 2 (gCs (gN 0) (gCs (gN 1) gNl))) eY (eg (eG (dG (m2 (b2 dL) (mV 1) (mC (D.int 2))) (dG (mN (dI 4 iy) (dG (mV 2) (dG (mV 3) (dG (mV 4) (dG (mV 0) dH))))) dH))))))
def lT:FN:=gM 3 yA
theorem BS {f:dk}(F:d7 K "wants" xl f)(a:eR P w K mg base 1 "sight_of" 4 iy):
  eR P w K mg base 2 "wants" 3 lT:=xq ["web","eyes","whole"] X G F λb=>
 (qG (qU (fk ["k","walker"] (ie (a1 (jq xv qK))) ⟨(tg2 gq gq),ei,(dY (a2 (jq xv qK) (wn a (qA xv (a3 xv xv xv)))))⟩)))
abbrev xn:dE:=top 30
def yC:FS:=(dQ (dS (mV 1) (gT 2 (gCs (gN 3) (gCs (gN 4) gNl))))
  (dQ (dS (ez 2 [0] (Hj (dG (mV 3) (dG (mV 2) dH))) (gT 2 (gCs (gN 0) (gCs (gN 1) gNl))) eY (eg (mN (dI 3 i3) (dG (mV 2) (dG (mV 0) (dG (mV 1) dH)))))) (gN 5))
  (eh (eG (dG (mN (b1 gTup) (dG (mV 5) dH)) (dG (mN (dI 2 i5) (dG (mV 1) (dG (mV 2) dH))) dH))))))
def lU:FN:=gM 6 yC
theorem BV {f:dk}(F:d7 K "moved" xn f)(a:eR P w K mg base 1 "handled" 2 i5)(b:eR P w K mg base 1 "stepped" 3 i3):
  eR P w K mg base 2 "moved" 3 lU:=xq ["web","whole","deeds","walkers","chalk","behind"] X G F λc=>
 (qF (qR xv (tg2 gq gq)) (qF (ib 5 O (T:=["walker","deed"]) (keep:=[0]) ⟨O,by decide+kernel,(kc "web" (cK _))⟩ O (rW O (bz B) (a2 xv xv)) (λ_ _ _=>⟨(tg2 gq gq),ei,(wn b (a3 xv xv xv))⟩) (gF O) O (by first|exact R3 rfl|exact R4 rfl)) (qG (qU (dY (a2 (cz eO (a1 xv)) (wn a (a2 xv xv))))))))
abbrev kP:dE:=top 37
def hK:FT:=(mB (m2 (b2 ww) (mV 4) (g6 dH)))
def hI:FS:=(fG (oW (b2 iK) (mV 5) (dG (oW (b2 zO) (mV 4) (dG (mN (dI 2 dM) (dG (mV 0) (dG (mN (b1 eB) (dG (mV 4) dH)) dH))) dH)) dH)))
def hH:FS:=(dQ (dS (eG (dG (mN (b1 Go) (dG (mV 3) dH)) (dG (g6 dH) dH))) (gT 2 (gCs (gN 4) (gCs (gN 5) gNl))))
  (dQ (qp hK hI 100000)
  (fG (oW (b2 iK) (mV 2) (dG (mV 5) dH)))))
def hE:FS:=(fG (oW (b2 iK) (oY (mV 6) (mV 9) (g6 dH)) (dG (eG (dG (mV 7) (dG (mV 8) dH))) dH)))
def jr:FS:=(fF (qa (dG (mV 5) dH)) (gT 2 (gCs (gN 8) (gCs (gN 9) gNl))) hE)
def k6:FS:=(dQ (dS (g6 dH) (gN 2))
  (dQ (fF (g9 (mV 1)) (gN 3) hH)
  (dQ (dS oX (gN 6))
  (dQ (fF (qa (dG (mV 2) dH)) (gT 2 (gCs (gN 7) (gCs (gN 5) gNl))) jr)
  (eh (mN (b1 gTup) (dG (ez 2 [6] (qa (dG (mV 2) dH)) (gT 2 (gCs (gN 0) (gCs (gN 1) gNl))) eY (eg (mN (b1 gTup) (dG (ez 2 [2,0] (qa (dG (mV 1) dH)) (gT 2 (gCs (gN 0) (gCs (gN 1) gNl))) eY (eg (m2 (b2 dL) (m2 (b2 dL) (mV 2) (mV 1)) (mN (b1 pk) (dG (m2 (b2 gEq) (m2 (b2 dL) (m2 (b2 dL) (mV 2) (mV 1)) (mC (D.int 0))) (eG (dG (mV 3) (dG (mV 0) dH)))) dH))))) dH)))) dH)))))))
def gb:FN:=gM 10 k6
theorem oP {f:dk}(F:d7 K "_law_doored" kP f)(a:eR P w K mg base 1 "_law_take" 2 dM):
  eR P w K mg base 2 "_law_doored" 2 gb:=xq ["_law_hand_here","_law_ends","_law_rows","_law_some","_law_left","_law_row","_law_places","_law_room","_law_door","_law_way"] X G F λb=>
 (qF (sq (ff qN)) (qF (fo (qd xv) gq (qF (jb 4 5 O (gF O) O O (by decide) O O (a2 (cz Kk (a1 xv)) (ff qN))) (qF (iP 100000 R1 (ct (oq wg) xv (ff qN)) (qG (lq ap xv (a1 (qe PySem.F.slot_list_pop PySem.F.type_list_pop G4 xv (a1 (wn a (a2 xv (cn eH (a1 xv)))))))))) (qG (lq ap xv (a1 xv)))))) (qF (sq oi) (qF (fo (ie (a1 xv)) (tg2 gq gq) (qG (fo (ie (a1 xv)) (tg2 gq gq) (qG (lq ap (Ef xv xv (ff qN)) (a1 (dY (a2 xv xv)))))))) (qG (qU (cz eO (a1 (fk ["_law_room","_law_row"] (ie (a1 xv)) ⟨(tg2 gq gq),ei,(cz eO (a1 (fk ["_law_door","_law_way"] (ie (a1 xv)) ⟨(tg2 gq gq),ei,(jq (jq xv xv) (cz vq (a1 (ce (oq iZ) (jq (jq xv xv) qK) (dY (a2 xv xv))))))⟩)))⟩)))))))))
abbrev lI:dE:=top 39
def mj:FS:=(dQ (dS (zx (dG (mV 1) dH)) (gN 2))
  (eh (ez 1 [2,0] (nK (dG (mV 1) dH)) (gN 0) eY (eg (oW (b2 zO) (mV 1) (dG (mN (dI 2 dM) (dG (mV 2) (dG (mN (b1 eB) (dG (mV 1) dH)) dH))) dH))))))
def fU:FN:=gM 3 mj
theorem pZ {f:dk}(F:d7 K "_law_order" lI f)(a:eR P w K mg base 1 "_law_take" 2 dM):
  eR P w K mg base 2 "_law_order" 2 fU:=xq ["_law_hand_here","_law_many","_law_left"] X G F λb=>
 (qF (sq (og O O (bz B) O (bz B) (a1 xv))) (qG (qU (fk ["_law_k"] (ir (a1 xv)) ⟨gq,ei,(qe PySem.F.slot_list_pop PySem.F.type_list_pop G4 xv (a1 (wn a (a2 xv (cn eH (a1 xv))))))⟩))))
abbrev m7:dE:=top 42
def ny:FS:=(dQ (dS (ez 1 [0] (nK (dG (mN (b1 eB) (dG (mV 1) dH)) dH)) (gN 0) (mB (m2 (b2 gEq) (mN (dI 2 dM) (dG (mV 1) (dG (mC (D.int 2)) dH))) (mC (D.int 0)))) (eg (mV 0))) (gN 3))
  (eh (mN (b1 gTup) (dG (ez 1 [2,3] (nK (dG (mN (b1 eB) (dG (mV 1) dH)) dH)) (gN 0) (mB (m2 (b2 jl) (m2 (b2 dL) (mV 1) (mV 0)) (mV 2))) (eg (mV 0))) dH))))
def gX:FN:=gM 4 ny
theorem sK {f:dk}(F:d7 K "_law_kept" m7 f)(a:eR P w K mg base 1 "_law_take" 2 dM):
  eR P w K mg base 2 "_law_kept" 3 gX:=xq ["_law_hand_here","_law_web","_law_copied","_law_kept_here"] X G F λb=>
 (qF (sq (fk ["_law_room"] (ir (a1 (cn eH (a1 xv)))) ⟨gq,(gy (ct (oq iZ) (wn a (a2 xv qK)) qK)),xv⟩)) (qG (qU (cz eO (a1 (fk ["_law_room"] (ir (a1 (cn eH (a1 xv)))) ⟨gq,(gy (ct (oq qL) (jq xv xv) xv (by with_unfolding_all rfl))),xv⟩))))))
abbrev jH:dE:=top 43
def gH:FS:=(dQ (dS (eG (dG (mN (dI 2 dM) (dG (mV 0) (dG (mV 3) dH))) (dG (m2 (b2 dL) (mV 2) (mN (dI 2 dM) (dG (mV 0) (dG (mN (b1 eB) (dG (mV 2) dH)) dH)))) (dG (m2 (b2 dL) (g6 (dG (mC D.non) (dG (mC (D.int 0)) (dG (mC (D.int 1)) (dG (mC (D.int 2)) (dG (mC (D.int 3)) dH)))))) (mN (dI 2 dM) (dG (mV 0) (dG (mC (D.int 5)) dH)))) dH)))) (gN 7))
  (ft (mB (m2 (b2 (jm λi j=>decide (j<i))) (mN (dI 2 dM) (dG (mV 0) (dG (mC (D.int 8)) dH))) (mC (D.int 0)))) (fG (oW (b2 iK) (mV 4) (dG (eG (dG (eG (dG (mV 5) (dG (mV 6) dH))) (dG (mV 7) dH))) dH))) kW))
def iY:FS:=(fF (g9 (mN (dI 1 jN) (dG (mV 1) dH))) (gN 6) gH)
def j0:FS:=(dQ (dS (eG (dG (m2 (b2 fX) (mC (D.int 1)) (mN (dI 2 dM) (dG (mV 0) (dG (mC (D.int 3)) dH)))) (dG (g6 dH) dH))) (gT 2 (gCs (gN 3) (gCs (gN 4) gNl))))
  (dQ (fF (nK (dG (mV 3) dH)) (gN 5) iY)
  (eh (eG (dG (mV 1) (dG (mN (b1 gTup) (dG (mV 4) dH)) dH))))))
def fN:FN:=gM 8 j0
theorem nE {f:dk}(F:d7 K "_law_machine" jH f)(a:eR P w K mg base 1 "_law_take" 2 dM)(b:eR P w K mg base 1 "sights" 1 jN):
  eR P w K mg base 2 "_law_machine" 3 fN:=xq ["_law_hand_here","_law_eyes_here","_law_hands","_law_moods","_law_rows","_law_mood","_law_sight","_law_deed"] X G F λc=>
 (qF (jb 3 4 O (gF O) O O (by decide) O O (a2 (qI fY qK (wn a (a2 xv qK))) (ff qN))) (qF (fo (ir (a1 xv)) gq (qG (fo (qd (wn b (a1 xv))) gq (qF (sq (dY (a3 (wn a (a2 xv xv)) (jq xv (wn a (a2 xv (cn eH (a1 xv))))) (jq (ff (qA iB (qA qK (a3 qK qK qK)))) (wn a (a2 xv qK)))))) (qG (qV (ct Fk (wn a (a2 xv qK)) qK) (qG (lq ap xv (a1 (dY (a2 (dY (a2 xv xv)) xv))))) qQ)))))) (qG (qU (dY (a2 xv (cz eO (a1 xv))))))))
abbrev na:dE:=top 44
def nz:FS:=(eh (mN (b1 gTup) (dG (ez 1 [0] (g9 (mV 1)) (gN 0) (mB (m2 (b2 gEq) (mN (dI 2 dM) (dG (mV 1) (dG (mC (D.int 2)) dH))) (mC (D.int 0)))) (eg (mV 0))) dH)))
def gZ:FN:=gM 2 nz
theorem sM {f:dk}(F:d7 K "_law_eyes" na f)(a:eR P w K mg base 1 "_law_take" 2 dM):
  eR P w K mg base 2 "_law_eyes" 2 gZ:=xq ["_law_hand_here","_law_some"] X G F λb=>
 (qG (qU (cz eO (a1 (fk ["_law_eye"] (qd xv) ⟨gq,(gy (ct (oq iZ) (wn a (a2 xv qK)) qK)),xv⟩)))))
abbrev jG:dE:=top 45
def iX:FS:=(fG (oW (b2 iK) (mV 5) (dG (mN (dI 2 dM) (dG (mV 0) (dG (mN (b1 eB) (dG (mV 1) dH)) dH))) dH)))
def jY:FS:=(dQ (dS (mN (dI 2 dM) (dG (mV 0) (dG (mN (b1 eB) (dG (mV 1) dH)) dH))) (gN 3))
  (dQ (dS (ez 1 [3,2] (nK (dG (mN (b1 eB) (dG (mV 1) dH)) dH)) (gN 0) (p9 (mB (m2 (b2 ww) (mV 0) (mV 1))) (mB (m2 (b2 gEq) (m2 (b2 dL) (mV 2) (mV 0)) (m2 (b2 dL) (mV 2) (mV 1))))) (eg (mV 0))) (gN 4))
  (dQ (dS (m2 (b2 fX) (g6 (dG (mV 3) dH)) (ez 1 [4,0] (nK (dG (mN (b1 pk) (dG (m2 (b2 ww) (mV 4) (g6 dH)) dH)) dH)) (gN 0) eY (eg (m2 (b2 dL) (mV 1) (mN (dI 2 dM) (dG (mV 2) (dG (mN (b1 eB) (dG (mV 1) dH)) dH))))))) (gN 5))
  (dQ (fF (nK (dG (mN (dI 2 dM) (dG (mV 0) (dG (mC (D.int 3)) dH))) dH)) (gN 6) iX)
  (eh (eG (dG (mN (b1 gTup) (dG (mN (b1 i7) (dG (mV 5) dH)) dH)) (dG (mN (b1 gTup) (dG (mN (b1 l0) (dG (kE (mV 5) i0 (js (mC (D.int 2)))) dH)) dH)) dH))))))))
def fM:FN:=gM 7 jY
theorem nD {f:dk}(F:d7 K "_law_walkers" jG f)(a:eR P w K mg base 1 "_law_take" 2 dM):
  eR P w K mg base 2 "_law_walkers" 3 fM:=xq ["_law_hand_here","_law_web","_law_copied","_law_one","_law_twins","_law_some","_law_turn"] X G F λb=>
 (qF (sq (wn a (a2 xv (cn eH (a1 xv))))) (qF (sq (fk ["_law_room"] (ir (a1 (cn eH (a1 xv)))) ⟨gq,(gy (kI (j8 (ct (oq wg) xv xv) (jy (ct (oq iZ) (jq xv xv) (jq xv xv)))))),xv⟩)) (qF (sq (qI fY (ff (a1 xv)) (fk ["_law_turn"] (ir (a1 (cz vq (a1 (ce (oq wg) xv (ff qN)))))) ⟨gq,ei,(jq xv (wn a (a2 xv (cn eH (a1 xv)))))⟩))) (qF (fo (ir (a1 (wn a (a2 xv qK)))) gq (qG (lq ap xv (a1 (wn a (a2 xv (cn eH (a1 xv)))))))) (qG (qU (dY (a2 (cz eO (a1 (qm O O (bz B) O (bz B) xv))) (cz eO (a1 (cn Dn (a1 (gh xv ij (ig qK))))))))))))))
abbrev m4:dE:=top 8
def nv:FS:=(eh (mN (dI 3 i4) (dG (mV 0) (dG (mV 1) (dG (mC (D.fn "numbered")) dH)))))
def fK:FN:=gM 2 nv
theorem sH {f:dk}(F:d7 K "colouring" m4 f)(a:eR P w K mg base 2 "refined" 3 i4)(b:CGl K mg "numbered" (D.fn "numbered")):
  eR P w K mg base 3 "colouring" 2 fK:=xq ["web","signs"] X G F λc=>
 (qG (qU (wn a (a3 xv xv (oh b O)))))
abbrev kM:dE:=top 19
def k0:FS:=(dQ (dS (mV 1) (gT 2 (gCs (gN 3) (gCs (gN 4) gNl))))
  (dQ (dS (mV 2) (gT 4 (gCs (gN 5) (gCs (gN 6) (gCs (gN 7) (gCs (gN 8) gNl))))))
  (dQ (ft (Cq (nG (vG (mN (dI 2 gI) (dG (mV 7) (dG (mN (b1 eB) (dG (mV 3) dH)) dH))))) (nG (vG (mN (dI 2 gI) (dG (mV 6) (dG (mV 7) dH)))))) (eh (mC (D.bl J))) kW)
  (eh (kX (mN (dI 3 eX) (dG (mV 0) (dG (mN (dI 2 eJ) (dG (mV 0) (dG (mV 4) dH))) (dG (mV 8) dH)))) (m2 (b2 gEq) (m2 (b2 dL) (mV 8) (m2 (b2 dL) (mV 3) (mV 6))) (m2 (b2 dL) (mV 8) (m2 (b2 dL) (mV 3) (mV 7)))))))))
def f0:FN:=gM 9 k0
theorem oM {f:dk}(F:d7 K "shows_alike" kM f)(c:eR P w K mg base 1 "chalk_signs" 2 eJ)(a:eR P w K mg base 2 "is_below" 2 gI)(b:eR P w K mg base 2 "is_colouring" 3 eX):
  eR P w K mg base 3 "shows_alike" 3 f0:=xq ["web","standing","paper","rooms","chalk","word","i","j","colours"] X G F λd=>
 (qF (qR xv (tg2 gq gq)) (qF (qR xv (ka O (eu gq (eu gq (eu gq (eu gq iQ)))))) (qF (qV (kI (lc (j9 (gx (wn a (a2 xv (cn eH (a1 xv)))))) (lw (j9 (gx (wn a (a2 xv xv))))))) (qG (qU fI)) qQ) (qG (qU (jc (wn b (a3 xv (wn c (a2 xv xv)) xv)) (kd (ce (oq iZ) (jq xv (jq xv xv)) (jq xv (jq xv xv))))))))))
abbrev Bp:dE:=top 29
def Dy:FS:=(dQ (dS (mN (dI 3 lT) (dG (mV 0) (dG (m2 (b2 dL) (mV 1) (mC (D.int 0))) (dG (mV 2) dH)))) (gN 3))
  (eh (mN (dI 3 lU) (dG (mV 0) (dG (mV 2) (dG (ez 2 [1] (g9 (mV 3)) (gT 2 (gCs (gN 0) (gCs (gN 1) gNl))) eY (eg (mN (dI 3 gJ) (dG (mV 2) (dG (mV 0) (dG (mV 1) dH)))))) dH))))))
def oV:FN:=gM 4 Dy
theorem Fh {f:dk}(F:d7 K "beat" Bp f)(a:eR P w K mg base 2 "deed_of" 3 gJ)(b:eR P w K mg base 2 "moved" 3 lU)(c:eR P w K mg base 2 "wants" 3 lT):
  eR P w K mg base 3 "beat" 3 oV:=xq ["web","machine","whole","wanted"] X G F λd=>
 (qF (sq (wn c (a3 xv (jq xv qK) xv))) (qG (qU (wn b (a3 xv xv (fk ["mood","sight"] (qd xv) ⟨(tg2 gq gq),ei,(wn a (a3 xv xv xv))⟩))))))
abbrev iW:dE:=top 38
def gj:FS:=(dQ (dS (ez 1 [4] (nK (dG (mV 5) dH)) (gN 0) (mB (m2 (b2 gLt) (mN (b1 eB) (dG (m2 (b2 dL) (mV 1) (mV 0)) dH)) (mC (D.int 4)))) (eg (mV 0))) (gN 6))
  (dQ (dS (m2 (b2 dL) (mV 6) (mN (dI 2 dM) (dG (mV 0) (dG (mN (b1 eB) (dG (mV 6) dH)) dH)))) (gN 7))
  (dQ (fG (oW (b2 iK) (m2 (b2 dL) (mV 4) (mV 5)) (dG (mV 3) dH)))
  (dQ (fG (oW (b2 iK) (m2 (b2 dL) (mV 4) (mV 7)) (dG (mV 3) dH)))
  (dS (m2 (b2 fX) (mV 3) (mC (D.int 1))) (gN 3))))))
def gi:FS:=(dQ (dS (eG (dG (mN (dI 2 dM) (dG (mV 0) (dG (mV 2) dH))) (dG (mN (dI 2 dM) (dG (mV 0) (dG (mV 2) dH))) dH))) (gT 2 (gCs (gN 9) (gCs (gN 7) gNl))))
  (ft (p9 (mB (m2 (b2 gLt) (m2 (b2 fX) (mN (b1 eB) (dG (m2 (b2 dL) (mV 4) (mV 9)) dH)) (mN (b1 pk) (dG (m2 (b2 gEq) (mV 9) (mV 7)) dH))) (mC (D.int 4)))) (mB (m2 (b2 gLt) (mN (b1 eB) (dG (m2 (b2 dL) (mV 4) (mV 7)) dH)) (mC (D.int 4))))) (dQ (fG (oW (b2 iK) (m2 (b2 dL) (mV 4) (mV 9)) (dG (mV 3) dH)))
  (dQ (fG (oW (b2 iK) (m2 (b2 dL) (mV 4) (mV 7)) (dG (mV 3) dH)))
  (dS (m2 (b2 fX) (mV 3) (mC (D.int 1))) (gN 3)))) kW))
def i9:FS:=(dQ (dS (eG (dG (m2 (b2 fX) (mC (D.int 1)) (mN (dI 2 dM) (dG (mV 0) (dG (mV 1) dH)))) (dG (mC (D.int 0)) dH))) (gT 2 (gCs (gN 2) (gCs (gN 3) gNl))))
  (dQ (dS (ez 1 [] (nK (dG (mV 2) dH)) (gN 0) eY (eg (g6 dH))) (gN 4))
  (dQ (fF (KM (dG (mC (D.int 1)) (dG (mV 2) dH))) (gN 5) gj)
  (dQ (fF (nK (dG (mN (dI 2 dM) (dG (mV 0) (dG (mC (D.int 6)) dH))) dH)) (gN 8) gi)
  (eh (mN (dI 2 gb) (dG (mV 0) (dG (mV 4) dH))))))))
def fr:FN:=gM 10 i9
theorem lQ {f:dk}(F:d7 K "_law_plain_web" iW f)(b:eR P w K mg base 2 "_law_doored" 2 gb)(a:eR P w K mg base 1 "_law_take" 2 dM):
  eR P w K mg base 3 "_law_plain_web" 2 fr:=xq ["_law_hand_here","_law_most","_law_rooms","_law_many","_law_ends","_law_room","_law_some","_law_other","_law_turn","_law_one"] X G F λc=>
 (qF (jb 2 3 O (gF O) O O (by decide) O O (a2 (qI fY qK (wn a (a2 xv xv))) qK)) (qF (sq (fk ["_law_room"] (ir (a1 xv)) ⟨gq,ei,(ff qN)⟩)) (qF (fo (oe O (bz B) (a2 qK xv)) gq (qF (ib 6 O (T:=["_law_other"]) (keep:=[4]) ⟨O,by decide+kernel,(kc "_law_ends" (cK _))⟩ O (ir (a1 xv)) (λ_ _ _=>⟨gq,(gy (ct (oq kS) (cn eH (a1 (jq xv xv))) qK)),xv⟩) (gF O) O (by first|exact R3 rfl|exact R4 rfl)) (qF (sq (jq xv (wn a (a2 xv (cn eH (a1 xv)))))) (qF (lq ap (jq xv xv) (a1 xv)) (qF (lq ap (jq xv xv) (a1 xv)) (qG (sq (qI fY xv qK)))))))) (qF (fo (ir (a1 (wn a (a2 xv qK)))) gq (qF (jb 9 7 rfl (gF rfl) rfl rfl (by decide) rfl rfl (a2 (wn a (a2 xv xv)) (wn a (a2 xv xv)))) (qG (qV (kI (j8 (ct (oq kS) (qI fY (cn eH (a1 (jq xv xv))) (cz vq (a1 (ce (oq iZ) xv xv)))) qK) (jy (ct (oq kS) (cn eH (a1 (jq xv xv))) qK)))) (qF (lq ap (jq xv xv) (a1 xv)) (qF (lq ap (jq xv xv) (a1 xv)) (qG (sq (qI fY xv qK))))) qQ)))) (qG (qU (wn b (a2 xv xv))))))))
abbrev lJ:dE:=top 40
def ix:FS:=(dQ (dS (eG (dG (mV 7) (dG (mV 10) (dG (mV 8) dH)))) (gS (b3 ju) (mV 3) (eG (dG (mV 4) (dG (mV 9) (dG (mV 6) dH))))))
  (dS (eG (dG (mV 4) (dG (mV 9) (dG (mV 6) dH)))) (gS (b3 ju) (mV 3) (eG (dG (mV 7) (dG (mV 10) (dG (mV 8) dH)))))))
def jM:FS:=(ft (mB (m2 (b2 gLt) (eG (dG (mV 4) (dG (mV 6) dH))) (eG (dG (mV 7) (dG (mV 8) dH))))) (fF (qa (dG (mN (dI 2 fU) (dG (mV 0) (dG (mV 2) dH))) dH)) (gT 2 (gCs (gN 9) (gCs (gN 10) gNl))) ix) kW)
def iw:FS:=(fF (qa (dG (mV 5) dH)) (gT 2 (gCs (gN 6) (gCs (gT 2 (gCs (gN 7) (gCs (gN 8) gNl))) gNl))) jM)
def jL:FS:=(ft (mB (m2 (b2 fW) (kE (m2 (b2 dL) (mV 3) (eG (dG (mV 4) (dG (mV 9) (dG (mV 6) dH))))) i0 (js (mC (D.int 2)))) (mV 11))) (fG (oW (b2 iK) (mV 11) (dG (kE (m2 (b2 dL) (mV 3) (eG (dG (mV 4) (dG (mV 9) (dG (mV 6) dH))))) i0 (js (mC (D.int 2)))) dH))) kW)
def iu:FT:=(mB (m2 (b2 gLt) (mV 12) (mN (b1 eB) (dG (mV 11) dH))))
def iq:FS:=(dQ (dS (m2 (b2 dL) (mV 11) (mV 12)) (gT 2 (gCs (gN 4) (gCs (gN 9) gNl))))
  (dQ (fF (nK (dG (mN (b1 eB) (dG (m2 (b2 dL) (mV 1) (mV 4)) dH)) dH)) (gN 6) jL)
  (dS (m2 (b2 fX) (mV 12) (mC (D.int 1))) (gN 12))))
def jK:FS:=(dQ (dS (ez 1 [3,4,9] (nK (dG (mN (b1 eB) (dG (m2 (b2 dL) (mV 1) (mV 4)) dH)) dH)) (gN 0) eY (eg (m2 (b2 dL) (mV 1) (eG (dG (mV 2) (dG (mV 3) (dG (mV 0) dH))))))) (gN 14))
  (fG (oW (b2 iK) (mV 13) (dG (mN (b1 gTup) (dG (ez 1 [11] (g9 (mV 14)) (gN 0) eY (eg (eG (dG (oW (b2 CU) (mV 1) (dG (kE (mV 0) i0 (js (mC (D.int 2)))) dH)) (dG (m2 (b2 dL) (mV 0) (mC (D.int 2))) dH))))) dH)) dH))))
def ml:FS:=(dQ (dS oX (gN 3))
  (dQ (fF (qa (dG (mV 1) dH)) (gT 2 (gCs (gN 4) (gCs (gN 5) gNl))) iw)
  (dQ (dS (eG (dG (g6 (dG (eG (dG (mC (D.int 0)) (dG (mC (D.int 0)) dH))) dH)) (dG (mC (D.int 0)) dH))) (gT 2 (gCs (gN 11) (gCs (gN 12) gNl))))
  (dQ (qp iu iq 100000)
  (dQ (dS (g6 dH) (gN 13))
  (dQ (fF (g9 (mV 11)) (gT 2 (gCs (gN 4) (gCs (gN 9) gNl))) jK)
  (eh (eG (dG (mN (b1 gTup) (dG (mV 13) dH)) (dG (mN (b1 gTup) (dG (ez 2 [] (g9 (mV 11)) (gT 2 (gCs (gN 0) (gCs (gN 1) gNl))) eY (eg (mV 0))) dH)) dH))))))))))
def gC:FN:=gM 15 ml
theorem p0 {f:dk}(F:d7 K "_law_cover" lJ f)(a:eR P w K mg base 2 "_law_order" 2 fU):
  eR P w K mg base 3 "_law_cover" 3 gC:=xq ["_law_hand_here","_law_web","_law_copies_here","_law_steps","_law_room","_law_row","_law_door","_law_other","_law_back","_law_copy","_law_to","_law_met","_law_at","_law_found","_law_some"] X G F λb=>
 (qF (sq oi) (qF (fo (ie (a1 xv)) (tg2 gq gq) (qG (fo (ie (a1 xv)) (tg2 gq (tg2 gq gq)) (qG (qV (ct (oq kS) (dY (a2 xv xv)) (dY (a2 xv xv))) (qG (fo (ie (a1 (wn a (a2 xv xv)))) (tg2 gq gq) (qF (qR (dY (a3 xv xv xv)) (ly xv (dY (a3 xv xv xv)) (oy b.units))) (qG (qR (dY (a3 xv xv xv)) (ly xv (dY (a3 xv xv xv)) (oy b.units))))))) qQ))))) (qF (qR (dY (a2 (ff (a1 (dY (a2 qK qK)))) qK)) (tg2 gq gq)) (qF (iP 100000 R1 (ct (oq kS) xv (cn eH (a1 xv))) (qF (qR (jq xv xv) (tg2 gq gq)) (qF (fo (ir (a1 (cn eH (a1 (jq xv xv))))) gq (qG (qV (ct (oq oS) (gh (jq xv (dY (a3 xv xv xv))) ij (ig qK)) xv (by with_unfolding_all rfl)) (qG (lq ap xv (a1 (gh (jq xv (dY (a3 xv xv xv))) ij (ig qK))))) qQ))) (qG (sq (qI fY xv qK)))))) (qF (sq (ff qN)) (qF (fo (qd xv) (tg2 gq gq) (qF (ib 14 O (T:=["_law_door"]) (keep:=[3,4,9]) ⟨O,by decide+kernel,(kc "_law_steps" (kc "_law_room" (kc "_law_copy" (cK _))))⟩ O (ir (a1 (cn eH (a1 (jq xv xv))))) (λ_ _ _=>⟨gq,ei,(jq xv (dY (a3 xv xv xv)))⟩) (gF O) O (by first|exact R3 rfl|exact R4 rfl)) (qG (lq ap xv (a1 (cz eO (a1 (fk ["_law_step"] (qd xv) ⟨gq,ei,(dY (a2 (qe PySem.F.slot_list_index PySem.F.type_list_index (KX b.units) xv (a1 (gh xv ij (ig qK)))) (jq xv qK)))⟩)))))))) (qG (qU (dY (a2 (cz eO (a1 xv)) (cz eO (a1 (fk ["_law_room","_law_copy"] (qd xv) ⟨(tg2 gq gq),ei,xv⟩)))))))))))))
abbrev xt:dE:=top 17
def qC:FS:=(ft (mB (m2 (b2 gEq) (m2 (b2 dL) (mV 4) (m2 (b2 dL) (mV 2) (mV 5))) (m2 (b2 dL) (mV 4) (m2 (b2 dL) (mV 2) (mV 6))))) (eh (eG (dG (mC (D.str "alike")) (dG (mV 5) (dG (mV 6) (dG (mV 4) dH)))))) kW)
def qB:FS:=(fF (KM (dG (m2 (b2 fX) (mV 5) (mC (D.int 1))) (dG (mN (b1 eB) (dG (mV 2) dH)) dH))) (gN 6) qC)
def yE:FS:=(dQ (dS (mV 1) (gT 2 (gCs (gN 2) (gCs (gN 3) gNl))))
  (dQ (dS (mN (dI 2 fK) (dG (mV 0) (dG (mN (dI 2 eJ) (dG (mV 0) (dG (mV 3) dH))) dH))) (gN 4))
  (dQ (fF (nK (dG (mN (b1 eB) (dG (mV 2) dH)) dH)) (gN 5) qB)
  (eh (mC D.non)))))
def lW:FN:=gM 7 yE
theorem BY {f:dk}(F:d7 K "alike" xt f)(b:eR P w K mg base 1 "chalk_signs" 2 eJ)(a:eR P w K mg base 3 "colouring" 2 fK):
  eR P w K mg base 4 "alike" 2 lW:=xq ["web","standing","rooms","chalk","colours","i","j"] X G F λc=>
 (qF (qR xv (tg2 gq gq)) (qF (sq (wn a (a2 xv (wn b (a2 xv xv))))) (qF (fo (ir (a1 (cn eH (a1 xv)))) gq (qG (fo (oe O (bz B) (a2 (qI fY xv qK) (cn eH (a1 xv)))) gq (qG (qV (ct (oq iZ) (jq xv (jq xv xv)) (jq xv (jq xv xv))) (qG (qU (dY (qA fe (a3 xv xv xv))))) qQ))))) (qG (qU iB)))))
abbrev kK:dE:=top 18
def iL:FS:=(dQ (ft (vG (mN (dI 3 gr) (dG (mV 3) (dG (mC (D.str "colours")) (dG (mC (D.int 2)) dH))))) (eh (kX (mN (dI 3 eX) (dG (mV 0) (dG (mN (dI 2 fL) (dG (mV 0) (dG (mV 1) dH))) (dG (m2 (b2 dL) (mV 3) (mC (D.int 1))) dH)))) (uF (mN (dI 1 eT) (dG (m2 (b2 dL) (mV 3) (mC (D.int 1))) dH))))) kW)
  (dQ (ft (p9 (vG (mV 2)) (vG (mN (dI 3 gr) (dG (mV 3) (dG (mC (D.str "alike")) (dG (mC (D.int 4)) dH)))))) (eh (mN (dI 3 f0) (dG (mV 0) (dG (mV 1) (dG (mV 3) dH))))) kW)
  (eh (mC (D.bl J)))))
def d2:FN:=gM 4 iL
theorem oK {f:dk}(F:d7 K "shows_never" kK f)(d:eR P w K mg base 2 "all_signs" 2 fL)(e:eR P w K mg base 1 "all_unlike" 1 eT)(b:eR P w K mg base 2 "is_colouring" 3 eX)(a:eR P w K mg base 2 "is_headed" 3 gr)(c:eR P w K mg base 3 "shows_alike" 3 f0):
  eR P w K mg base 4 "shows_never" 4 d2:=xq ["web","standing","quiet","thing"] X G F λg=>
 (qF (qV (gx (wn a (a3 xv fe qK))) (qG (qU (jc (wn b (a3 xv (wn d (a2 xv xv)) (jq xv qK))) (kd (w1 (wn e (a1 (jq xv qK)))))))) qQ) (qF (qV (kI (j8 (gx xv) (jy (gx (wn a (a3 xv fe qK)))))) (qG (qU (wn c (a3 xv xv xv)))) qQ) (qG (qU fI))))
abbrev kQ:dE:=top 41
def k7:FS:=(dQ (dS (m2 (b2 dL) (g6 (dG (mC (D.int 2)) (dG (mC (D.int 2)) (dG (mC (D.int 3)) (dG (mC (D.int 4)) dH))))) (mN (dI 2 dM) (dG (mV 0) (dG (mC (D.int 4)) dH)))) (gN 1))
  (eh (mN (dI 3 gC) (dG (mV 0) (dG (mN (dI 2 fr) (dG (mV 0) (dG (m2 (b2 nL) (mC (D.int 8)) (mV 1)) dH))) (dG (mV 1) dH))))))
def ge:FN:=gM 2 k7
theorem oQ {f:dk}(F:d7 K "_law_copies" kQ f)(b:eR P w K mg base 3 "_law_cover" 3 gC)(a:eR P w K mg base 3 "_law_plain_web" 2 fr)(c:eR P w K mg base 1 "_law_take" 2 dM):
  eR P w K mg base 4 "_law_copies" 1 ge:=xq ["_law_hand_here","_law_copies_here"] X G F λd=>
 (qF (sq (jq (ff (qA qK (a3 qK qK qK))) (wn c (a2 xv qK)))) (qG (qU (wn b (a3 xv (wn a (a2 xv (qI ux qK xv))) xv)))))
abbrev lH:dE:=top 46
def ip:FS:=(dQ (dS (eG (dG (m2 (b2 dL) (m2 (b2 dL) (mV 6) (mC (D.int 0))) (mV 7)) (dG (m2 (b2 dL) (m2 (b2 dL) (mV 6) (mC (D.int 0))) (mV 8)) dH))) (gT 2 (gCs (gN 10) (gCs (gN 11) gNl))))
  (dQ (ft (Cq (vG (mN (dI 1 jO) (dG (mV 6) dH))) (Cq (mB (m2 (b2 gEq) (m2 (b2 dL) (mV 10) (mC (D.int 0))) (m2 (b2 dL) (mV 11) (mC (D.int 0))))) (Cq (mB (m2 (b2 ww) (kE (mV 10) (js (mC (D.int 1))) i0) (kE (mV 11) (js (mC (D.int 1))) i0))) (mB (m2 (b2 ww) (m2 (b2 dL) (mV 6) (mC (D.int 1))) (m2 (b2 dL) (mV 2) (mC (D.int 1)))))))) (eh (mC (D.bl J))) kW)
  (dS (mN (dI 3 oV) (dG (mV 1) (dG (mV 5) (dG (mV 6) dH)))) (gN 6))))
def mh:FS:=(dQ (dS (kE (eG (dG (mC (D.str "came")) (dG (mC (D.str "chalk")) (dG (mC (D.str "doors")) (dG (mC (D.str "others")) dH))))) i0 (js (m2 (b2 dL) (g6 (dG (mC (D.int 4)) (dG (mC (D.int 3)) dH))) (mN (b1 pk) (dG (m2 (b2 (jm fun i j=>decide (j<i))) (mN (b1 eB) (dG (m2 (b2 dL) (mV 2) (mC (D.int 0))) dH)) (mC (D.int 2))) dH))))) (gN 4))
  (dQ (dS (eG (dG (mN (dI 3 fN) (dG (mV 0) (dG (mN (dI 2 gZ) (dG (mV 0) (dG (mV 4) dH))) (dG (eG (dG (mC (D.str "leave")) dH)) dH)))) (dG (mN (dI 1 lV) (dG (mV 2) dH)) dH))) (gT 2 (gCs (gN 5) (gCs (gN 6) gNl))))
  (dQ (dS (eG (dG (p8 (b2 jS) (m2 (b2 dL) (mV 2) (mC (D.int 0))) (dG (m2 (b2 dL) (mV 3) (mC (D.int 0))) dH)) (dG (p8 (b2 jS) (m2 (b2 dL) (mV 2) (mC (D.int 0))) (dG (m2 (b2 dL) (mV 3) (mC (D.int 1))) dH)) dH))) (gT 2 (gCs (gN 7) (gCs (gN 8) gNl))))
  (dQ (fF (nK (dG (mC (D.int 40)) dH)) (gN 9) ip)
  (eh (mC (D.bl M)))))))
def fz:FN:=gM 12 mh
theorem pY {f:dk}(F:d7 K "_law_right" lH f)(a:eR P w K mg base 2 "_law_eyes" 2 gZ)(d:eR P w K mg base 2 "_law_machine" 3 fN)(e:eR P w K mg base 3 "beat" 3 oV)(b:eR P w K mg base 1 "begun" 1 lV)(c:eR P w K mg base 1 "is_met" 1 jO):
  eR P w K mg base 4 "_law_right" 4 fz:=xq ["_law_hand_here","_law_web","_law_standing","_law_two","_law_some","_law_machine_here","_law_whole","_law_i","_law_j","_law_turn","_law_one","_law_other"] X G F λg=>
 (qF (sq (gh (dY (qA fe (a3 fe fe fe))) ij (ig (jq (ff (a2 qK qK)) (cz vq (a1 (ce Fk (cn eH (a1 (jq xv qK))) qK))))))) (qF (jb 5 6 O (gF O) O O (by decide) O O (a2 (wn d (a3 xv (wn a (a2 xv xv)) (dY (a1 fe)))) (wn b (a1 xv)))) (qF (jb 7 8 O (gF O) O O (by decide) O O (a2 (kb R5 R6 (r0 g.units) (jq xv qK) (a1 (jq xv qK))) (kb R5 R6 (r0 g.units) (jq xv qK) (a1 (jq xv qK))))) (qF (fo (ir (a1 qK)) gq (qF (jb 10 11 O (gF O) O O (by decide) O O (a2 (jq (jq xv qK) xv) (jq (jq xv qK) xv))) (qF (qV (kI (lc (gx (wn c (a1 xv))) (lc (ct (oq iZ) (jq xv qK) (jq xv qK)) (lc (ct (oq wg) (gh xv (ig qK) ij) (gh xv (ig qK) ij)) (lw (ct (oq wg) (jq xv qK) (jq xv qK))))))) (qG (qU fI)) qQ) (qG (sq (wn e (a3 xv xv xv))))))) (qG (qU fI))))))
abbrev xm:dE:=top 16
def yB:FS:=(dQ (dS (mN (dI 2 fK) (dG (mV 0) (dG (mN (dI 2 fL) (dG (mV 0) (dG (mV 1) dH))) dH))) (gN 3))
  (dQ (ft (nG (vG (mN (dI 1 eT) (dG (mV 3) dH)))) (eh (eG (dG (mC (D.str "colours")) (dG (mV 3) dH)))) kW)
  (eh (uG (vG (mV 2)) (mN (dI 2 lW) (dG (mV 0) (dG (mV 1) dH))) (mC D.non)))))
def kn:FN:=gM 4 yB
theorem BU {f:dk}(F:d7 K "never" xm f)(a:eR P w K mg base 4 "alike" 2 lW)(c:eR P w K mg base 2 "all_signs" 2 fL)(d:eR P w K mg base 1 "all_unlike" 1 eT)(b:eR P w K mg base 3 "colouring" 2 fK):
  eR P w K mg base 5 "never" 3 kn:=xq ["web","standing","quiet","colours"] X G F λe=>
 (qF (sq (wn b (a2 xv (wn c (a2 xv xv))))) (qF (qV (j9 (gx (wn d (a1 xv)))) (qG (qU (dY (a2 fe xv)))) qQ) (qG (qU (lf (gx xv) (wn a (a2 xv xv)) iB)))))
abbrev ub:dE:=top 47
def sF:FS:=(dQ (dS (mN (dI 1 ge) (dG (mV 2) dH)) (gT 2 (gCs (gN 4) (gCs (gN 5) gNl))))
  (dQ (dS (mN (dI 3 fM) (dG (mV 2) (dG (mV 4) (dG (mV 5) dH)))) (gT 2 (gCs (gN 6) (gCs (gN 7) gNl))))
  (dQ (dS (eG (dG (mV 6) (dG (mN (dI 3 gX) (dG (mV 2) (dG (mV 4) (dG (mV 5) dH)))) dH))) (gN 8))
  (ft (p9 (mB (m2 (b2 gEq) (mN (b1 eB) (dG (mV 7) dH)) (mC (D.int 2)))) (p9 (mB (m2 (b2 ww) (m2 (b2 dL) (mV 7) (mC (D.int 0))) (m2 (b2 dL) (mV 7) (mC (D.int 1))))) (mB (m2 (b2 gEq) (m2 (b2 dL) (mV 5) (m2 (b2 dL) (mV 7) (mC (D.int 0)))) (m2 (b2 dL) (mV 5) (m2 (b2 dL) (mV 7) (mC (D.int 1)))))))) (dQ (dS (eG (dG (mC (D.str "alike")) (dG (p8 (b2 jS) (mV 6) (dG (m2 (b2 dL) (mV 7) (mC (D.int 0))) dH)) (dG (p8 (b2 jS) (mV 6) (dG (m2 (b2 dL) (mV 7) (mC (D.int 1))) dH)) (dG (mV 5) dH))))) (gN 9))
  (dQ (dS (mN (dI 3 kn) (dG (mV 4) (dG (mV 8) (dG (mC (D.bl M)) dH)))) (gN 10))
  (dQ (ft (mB (m2 (b2 ia) (mN (dI 4 d2) (dG (mV 4) (dG (mV 8) (dG (mC (D.bl M)) (dG (mV 9) dH))))) (mC (D.bl M)))) (eh (mC (D.bl J))) kW)
  (dQ (ft (mB (m2 (b2 ia) (mN (dI 4 d2) (dG (mV 4) (dG (mV 8) (dG (mC (D.bl J)) (dG (mV 9) dH))))) (mC (D.bl J)))) (eh (mC (D.bl J))) kW)
  (dQ (ft (Cq (mB (m2 (b2 wx) (mV 10) (mC D.non))) (mB (m2 (b2 ia) (mN (dI 4 d2) (dG (mV 4) (dG (mV 8) (dG (mC (D.bl M)) (dG (mV 10) dH))))) (mC (D.bl M))))) (eh (mC (D.bl J))) kW)
  (ft (nG (vG (mN (b1 qc) (dG (ez 1 [2,4,8,7] (nK (dG (mC (D.int 3)) dH)) (gN 0) eY (eg (mN (dI 4 fz) (dG (mV 1) (dG (mV 2) (dG (mV 3) (dG (mV 4) dH))))))) dH)))) (eh (mC (D.bl J))) kW)))))) kW))))
def sE:FS:=(dQ (dS (mN (dI 2 fO) (dG (mV 0) (dG (mV 1) dH))) (gN 2))
  (fF (nK (dG (mC (D.int 2)) dH)) (gN 3) sF))
def xH:FS:=(qS [M,M,J,J,J,J,J,J,J,J,J] [M,J,J,J,J,J,J,J,J,J,J] sE)
def Dx:FS:=(dQ (fF (nK (dG (mN (b2 Gm) (dG (mC (D.int 1)) (dG (mN (b2 Gk) (dG (mC (D.int 4)) (dG (mN (b1 eB) (dG (mV 0) dH)) dH))) dH))) dH)) (gN 1) xH)
  (eh (mC (D.bl M))))
def m_law:FN:=gM 11 Dx
theorem IR {f:dk}{fd:dD}(F:As K "law" "law" ub f fd)(i:eR P w K mg base 4 "_law_copies" 1 ge)(c:eR P w K mg base 1 "_law_hand" 2 fO)(e:eR P w K mg base 2 "_law_kept" 3 gX)(j:eR P w K mg base 4 "_law_right" 4 fz)(d:eR P w K mg base 2 "_law_walkers" 3 fM)(h:eR P w K mg base 5 "never" 3 kn)(a:eR P w K mg base 4 "shows_never" 4 d2):
  j6 P w K mg base vF 6 f fd ["_law_script"] (A8 K 1 m_law):=Hz (k:=5) (n:=1) (N:=["_law_script","_law_k","_law_hand_here","_law_turn","_law_web","_law_copied","_law_walkers_here","_law_two","_law_standing","_law_paper","_law_told"]) (ps:=["_law_script"]) (b:=Dx) F sk O λm A g s H E l=>
 (qF (fo (ir (a1 (cn (Mo O) (a2 qK (cn (Mn O) (a2 qK (cn eH (a1 xv)))))))) gq (yL [M,M,J,J,J,J,J,J,J,J,J] [M,J,J,J,J,J,J,J,J,J,J] (qF (sq (wn c (a2 xv xv))) (qG (fo (ir (a1 qK)) gq (qF (qR (wn i (a1 xv)) (tg2 gq gq)) (qF (qR (wn d (a3 xv xv xv)) (tg2 gq gq)) (qF (sq (dY (a2 xv (wn e (a3 xv xv xv))))) (qG (qV (kI (j8 (ct (oq iZ) (cn eH (a1 xv)) qK) (j8 (ct (oq wg) (jq xv qK) (jq xv qK)) (jy (ct (oq iZ) (jq xv (jq xv qK)) (jq xv (jq xv qK))))))) (qF (sq (dY (qA fe (a3 (kb R5 R6 (r0 l.units) xv (a1 (jq xv qK))) (kb R5 R6 (r0 l.units) xv (a1 (jq xv qK))) xv)))) (qF (sq (wn h (a3 xv xv fI))) (qF (qV (ct oT (wn a (qA xv (a3 xv fI xv))) fI) (qG (qU fI)) qQ) (qF (qV (ct oT (wn a (qA xv (a3 xv fI xv))) fI) (qG (qU fI)) qQ) (qF (qV (kI (lc (ct Ha xv iB) (lw (ct oT (wn a (qA xv (a3 xv fI xv))) fI)))) (qG (qU fI)) qQ) (qG (qV (j9 (gx (cn (Ds O) (a1 (fk ["_law_more"] (ir (a1 qK)) ⟨gq,ei,(wn j (qA xv (a3 xv xv xv)))⟩))))) (qG (qU fI)) qQ))))))) qQ)))))))))) (qG (qU fI)))
end
theorem all_mk {l:PySem.W.OpenLaw}{w:dr}{K:Fg1}{h:dB}{mg:Str->Option di}{fa f1 f2 f3 f4 f5 f6 f7 f8 f9 q f11 f12 f13 f14 f15 f16 f17 f18 m E r N I f24 f25 Q f27 f28 f29 f30 f31 aq f33 F n x f37 f38 U f40:dk}(X:K.In h)(G:h.Ns dv mg)(hfa:mg "law"=some (.ref fa))
  {g1 g2 g5 g8 g:dk}
  {t3 t4 t6 t7 t9 t10 t12 T:Tok}
  {n2 n5 n8 V n1:Nat} {sl2 W sl8 c au:Array (Option di)}
  (a1:d7 K "is_whole" oA f1)
  (a2:d7 K "is_tuple_of" kN f2)
  (a3:d7 K "looks" xp f3)
  (u:d7 K "numbered" oz f4)
  (a5:d7 K "all_unlike" lG f5)
  (a6:d7 K "chalk_signs" kO f6)
  (a7:d7 K "sights" ua f7)
  (a8:d7 K "first_of" oC f8)
  (a9:d7 K "begun" xr f9)
  (a10:d7 K "sight_of" ox q)
  (a11:d7 K "handled" qu f11)
  (a12:d7 K "stepped" qs f12)
  (a13:d7 K "is_met" uc f13)
  (a14:d7 K "_law_hand" m9 f14)
  (a15:d7 K "_law_take" m6 f15)
  (a16:d7 K "is_below" oB f16)
  (a17:d7 K "is_headed" mZ f17)
  (av:d7 K "is_colouring" jF f18)
  (a19:d7 K "refined" qt m)
  (H:d7 K "all_signs" m5 E)
  (a21:d7 K "deed_of" qv r)
  (A:d7 K "wants" xl N)
  (a23:d7 K "moved" xn I)
  (a24:d7 K "_law_doored" kP f24)
  (R:d7 K "_law_order" lI f25)
  (L:d7 K "_law_kept" m7 Q)
  (a27:d7 K "_law_machine" jH f27)
  (a28:d7 K "_law_eyes" na f28)
  (ao:d7 K "_law_walkers" jG f29)
  (a30:d7 K "colouring" m4 f30)
  (a31:d7 K "shows_alike" kM f31)
  (y:d7 K "beat" Bp aq)
  (S:d7 K "_law_plain_web" iW f33)
  (a34:d7 K "_law_cover" lJ F)
  (a35:d7 K "alike" xt n)
  (a36:d7 K "shows_never" kK x)
  (a37:d7 K "_law_copies" kQ f37)
  (a38:d7 K "_law_right" lH f38)
  (wq:d7 K "never" xm U)
  (b:d7 K "law" ub f40)
  (e_PARTS:wN1 K dv "PARTS"=Z (Z (Pr g1)))
  (h1:K.lookup g1=Z ⟨.type "tuple",Y,.seq ([(Pr g2),(Pr g5),(Pr g8),(Pr g)]:List di).toArray n1,au⟩)
  (h2:K.lookup g2=Z ⟨.type "tuple",Y,.seq ([(ae "came" t3),(ab (5) t4)]:List di).toArray n2,sl2⟩)
  (h5:K.lookup g5=Z ⟨.type "tuple",Y,.seq ([(ae "chalk" t6),(ab (2) t7)]:List di).toArray n5,W⟩)
  (h8:K.lookup g8=Z ⟨.type "tuple",Y,.seq ([(ae "doors" t9),(ab (5) t10)]:List di).toArray n8,sl8⟩)
  (C:K.lookup g=Z ⟨.type "tuple",Y,.seq ([(ae "others" t12),(ab (2) T)]:List di).toArray V,c⟩)
  (z:Mz K BL):∃fd:dD,(∀(s:dj) (v:di),BindsTo s fd ⟨[v],[]⟩ [("_law_script",v)]) /\ ∀base:dB,K.In base->base.Ns dv mg->j6 l.prog w K mg base vF 6 fa fd ["_law_script"] (A8 K 1 m_law):=by
 have e:=hfa.symm.trans (wM1 X G b.ns);cases e;have B:Blt BL mg:=z.blt X G;have g0:CGl K mg "numbered" (D.fn "numbered"):=Dm (wM1 X G u.ns) (Mf u.ns);have c0:CGl K mg "PARTS" jo:=Dm (wM1 X G e_PARTS) (pB h1 (by show 4<=dy;decide) (fC (pB h2 (by show 2<=dy;decide) (fC tw (fC tz l9))) (fC (pB h5 (by show 2<=dy;decide) (fC tw (fC tz l9))) (fC (pB h8 (by show 2<=dy;decide) (fC tw (fC tz l9))) (fC (pB C (by show 2<=dy;decide) (fC tw (fC tz l9))) l9)))));obtain⟨_,⟨⟨_,_,kV,dc,pm,an,cd,ct,_,rfl,lL,cL⟩,kL⟩⟩:=b.fn;refine⟨wF1 "law" "law" (iJ ub) (fA ub) (d5 ub) .none kV dc pm an cd ct,λs v=>.of_eq O,λbase _ _=>?_⟩;have o0:=uu (P:=l.prog) (w:=w) (base:=base) X G B a1;have o1:=oN (P:=l.prog) (w:=w) (base:=base) X G B a2;have o2:=BW (P:=l.prog) (w:=w) (base:=base) X G B a3;have o3:=ut (P:=l.prog) (w:=w) (base:=base) X G B u;have d:=pX (P:=l.prog) (w:=w) (base:=base) X G B a5;have o4:=oO (P:=l.prog) (w:=w) (base:=base) X G B a6;have o:=zl (P:=l.prog) (w:=w) (base:=base) X G B a7 c0;have o5:=uw (P:=l.prog) (w:=w) (base:=base) X G B a8;have o29:=BX (P:=l.prog) (w:=w) (base:=base) X G B a9;have o6:=ur (P:=l.prog) (w:=w) (base:=base) X G B a10 c0;have o7:=we (P:=l.prog) (w:=w) (base:=base) X G B a11;have o8:=wc (P:=l.prog) (w:=w) (base:=base) X G B a12;have o30:=zm (P:=l.prog) (w:=w) (base:=base) X G B a13;have o33:=sL (P:=l.prog) (w:=w) (base:=base) X G B a14;have a:=sJ (P:=l.prog) (w:=w) (base:=base) X G B a15;have o12:=uv X G B a16 o0;have o22:=sG X G B a17 o1;have j:=nC X G B av o1 o0 o2;have o11:=wd X G B a19 o2 o3;have i:=sI X G B H o4;have o14:=wf X G B a21 o5;have o16:=BS X G B A o6;have o15:=BV X G B a23 o7 o8;have o17:=oP X G B a24 a;have o18:=pZ X G B R a;have o34:=sK X G B L a;have o27:=nE X G B a27 a o;have o26:=sM X G B a28 a;have k:=nD X G B ao a;have f:=sH X G B a30 o11 g0;have o23:=oM X G B a31 o4 o12 j;have t:=Fh X G B y o14 o15 o16;have p:=lQ X G B S o17 a;have o24:=p0 X G B a34 o18;have o31:=BY X G B a35 o4 f;have o38:=oK X G B a36 i d j o22 o23;have o32:=oQ X G B a37 o24 p a;have o35:=pY X G B a38 o26 o27 t o29 o30;have o37:=BU X G B wq o31 i d f;exact IR (P:=l.prog) (w:=w) (base:=base) X G B (CY lL cL kL) o32 o33 o34 o35 k o37 o38
variable{T S:Sto}{o:Ob}{n m i j a r:Nat}{Q:D×Sto->Prop}{E:jw}{b:Bool}{e:E4}{rs ks ws cs:List Nat}{F:List (TK×D)}{met:List (Nat×Nat)}{L:List Rw}
def hnd(g m c:Int):Ob:=.lst [.int g,.int m,.int c]
def Jf(m c:Int):Int:=(m+9973*c*c+17)*69621%2305843009213693921
def Cf(m c:Int):Int:=Jf m c*(Jf m c%999983+7919*c)%2305843009213693907
theorem Mq{a b c:D}:wM [a,b,c] 0=Z a:=by rfl
theorem NU{a b c:D}:wM [a,b,c] 1=Z b:=by rfl
theorem NT{a b c:D}:wM [a,b,c] 2=Z c:=by rfl
theorem HQ{g m c k:Int}(hg:0<g)(hk:0<k)(a:k<1073741824):
  dM [.ref 0,.int k] (hnd g m c::T)=Z (.int (g%k),hnd (g/k) m c::T):=by
 simp[dM,gM,hB,jZ,dQ,ft,mB,m2,b2,jm,mV,mC,dL,mS,D5,dZ,hnd,hg,hk,a,dS,gN,l5,nL,gS,b3,ju,nl,lj,eh,Mq,zE]
theorem HP{g m c k:Int}(hg:¬ 0<g)(hk:0<k)(a:k<1073741824)(hc:0<=c)(i:c<2^60):
  dM [.ref 0,.int k] (hnd g m c::T)=Z (.int ((Cf m (c+1)/101+Cf m (c+1)/1000003)%k),hnd g m (c+1)::T):=by
 have b:e6 9973 (c+1)=M:=uB (by decide) (by decide);have f:e6 (9973*(c+1)) (c+1)=M:=xN (by omega) (by omega);have d:e6 (m+9973*(c+1)*(c+1)+17) 69621=M:=xN (by decide) (by decide);have e:e6 7919 (c+1)=M:=uB (by decide) (by decide);have q:=RZ ((m+9973*(c+1)*(c+1)+17)*69621) (show(0:Int)<2305843009213693921 by decide);have j:=RY ((m+9973*(c+1)*(c+1)+17)*69621) (show(2305843009213693921:Int)≠0 by decide);have h:e6 ((m+9973*(c+1)*(c+1)+17)*69621%2305843009213693921) ((m+9973*(c+1)*(c+1)+17)*69621%2305843009213693921%999983+7919*(c+1))=M:=uB (by omega) (by omega);simp[dM,gM,hB,jZ,dQ,ft,mB,m2,b2,jm,mV,mC,dL,mS,D5,dZ,hnd,hg,hk,a,dS,gN,l5,nL,gS,b3,ju,nl,lj,eh,Mq,NU,NT,zE,kW,fX,mR,b,f,d,e,h,Jf,Cf]
def fx(o:Ob)(n:Nat):Prop:=∃g m c:Int,o=hnd g m c/\0<=c/\c<=n
theorem fx.und{k:Nat}(h:fx o n):o.und k=M:=by
 obtain⟨g,m,c,rfl,_⟩:=h;rfl
theorem fx.more{k:Nat}(h:fx o n)(hk:n<=k):fx o k:=by
 obtain⟨g,m,c,e,a,h1⟩:=h;exact⟨g,m,c,e,a,by lia⟩
theorem fE{k:Int}(ho:fx o n)(hn:n<=2^50)(hk:0<k)(a:k<1073741824)(h:∀(d:Nat) o',fx o' (n+1)->(d:Int)<k->Q (.int d,o'::T)):W (dI 2 dM [.ref 0,.int k] (o::T)) Q:=by
 obtain⟨g,m,c,rfl,f,h1⟩:=ho;have call:∀d o',dM [.ref 0,.int k] (hnd g m c::T)=Z (d,o'::T)->dI 2 dM [.ref 0,.int k] (hnd g m c::T)=Z (d,o'::T):=λd o e=>Ag e O (by simp[D.unds,D.und]) (by simp);by_cases i:0<g
 ·have b:=RY g (show k≠0 by lia);obtain⟨d,e⟩:=Int.eq_ofNat_of_zero_le b;refine⟨_,call _ _ (HQ i hk a),?_⟩;rw[e];exact h d _ ⟨_,_,_,O,f,by lia⟩ (by rw[<- e];exact RZ _ hk)
 ·have b:=RY (Cf m (c+1)/101+Cf m (c+1)/1000003) (show k≠0 by lia);obtain⟨d,e⟩:=Int.eq_ofNat_of_zero_le b;refine⟨_,call _ _ (HP i hk a f (by lia)),?_⟩;rw[e];exact h d _ ⟨_,_,_,O,by lia,by push_cast;lia⟩ (by rw[<- e];exact RZ _ hk)
theorem Gh(ns:List Int)(k:Int)(l:0<=k)(hk:k<63):∃o,dI 2 fO [.rol (ns.map D.int),.int k] []=Z (.ref 0,[o])/\fx o 0:=by
 have h:∃g m,fO [.rol (ns.map D.int),.int k] []=Z (.ref 0,[hnd g m 0]):=by
  have j:e6 (10^60) (10^30)=M:=by decide+kernel
  have d:e6 7919 k=M:=uB (by decide) (by decide);have c:e6 0 0=M:=uB (by decide) (by decide);have f:∀(x:Int) (b:Prop) [Decidable b],e6 x (if b then 1 else 0)=M:=λx b _=>by
   split
   ·exact xN (by decide) (by decide)
   ·exact xN (by decide) (by decide)
  have lt:gLt (.int k) (.int ns.length) []=Z (.bl (decide (k<ns.length)),[]):=by rfl
  by_cases i:k<ns.length
  ·have a:wM (ns.map D.int) k=some (.int (ns[k.toNat]'(by lia))):=by
    unfold wM zE;rw[ak l,ak (by simpa using i)];simp[show k.toNat<ns.length by lia]
   generalize p:ns[k.toNat]'(by lia)=x at a
   simp[fO,gM,hB,j1,dQ,ft,mB,m2,b2,b1,mN,dG,dH,jm,mV,mC,dL,mS,D5,eB,dZ,dS,gN,l5,mR,fX,wv,pk,eh,g6,lt,i,a,d,f,dy,hnd,kW];simp[show e6 1000000000000000000000000000000000000000000000000000000000000 1000000000000000000000000000000=M from j,c,d,f]
  ·simp[fO,gM,hB,j1,dQ,ft,mB,m2,b2,b1,mN,dG,dH,jm,mV,mC,dL,mS,D5,eB,dZ,dS,gN,l5,mR,fX,wv,pk,eh,g6,lt,i,d,f,dy,hnd,kW];simp[show e6 1000000000000000000000000000000000000000000000000000000000000 1000000000000000000000000000000=M from j,c,d,f]
 obtain⟨g,m,e⟩:=h;refine⟨hnd g m 0,?_,_,_,_,O,Int.le_refl _,Int.le_refl _⟩;rw[pG (n:=2) e O (by rw[D.unds,D.und,my];rfl) (by simp[D.und])];simp[D.sh,Ob.sh,D.shs,hnd]
abbrev jw:=List (List Nat)
structure WN (t m:Nat)(T:Sto)(E:jw)(U:Sto):Prop where
 tl:T.length=t
 low:U.take t=T
 el:E.length=m
 row:∀(i:Nat) (row:List Nat),E[i]?=some row->U[t+i]?=some (.lst (nmD row))
 ends:U[t+m]?=some (.lst (jJ (t+1) m))
 cl:∀o∈U,o.und (U.length+1)=true
theorem Hb{xs:List Nat}:(Ob.lst (nmD xs)).und n=M:=iS (fy xs)
theorem WN.app{t:Nat}{U G:Sto}(w:WN t m T E U)(b:∀o∈G,o.und 0=M):WN t m T E (U++G):=by
 have c:t+m<U.length:=(R9 w.ends).1;refine⟨w.tl,?_,w.el,λi row h=>?_,?_,λo a=>?_⟩
 ·rw[List.take_append_of_le_length (by lia)];exact w.low
 ·have:=w.row i row h;rw[gL1 (R9 this).1];exact this
 ·rw[gL1 c];exact w.ends
 ·rcases aG.mp a with a|a
  ·exact gW (by rw[lA1];lia) (w.cl o a)
  ·exact gW (bi _) (b o a)
theorem WN.setRow{t:Nat}{U:Sto}{row:List Nat}(w:WN t m T E U)(hi:i<m):WN t m T (E.set i row) (U.set (t+i) (.lst (nmD row))):=by
 have b:t+m<U.length:=(R9 w.ends).1;refine⟨w.tl,?_,by rw[aV];exact w.el,λj r h=>?_,?_,λo a=>?_⟩
 ·rw[List.take_set_of_le (by lia)];exact w.low
 ·by_cases e:i=j
  ·subst e;rw[aJ (by rw[w.el];exact hi)]at h;cases h;rw[aJ (by lia)]
  ·rw[gS1 e]at h;rw[gS1 (by lia)];exact w.row j r h
 ·rw[gS1 (by lia)];exact w.ends
 ·rw[aV];rcases List.mem_or_eq_of_mem_set a with a|rfl
  ·exact w.cl o a
  ·exact Hb
theorem WN.split{t:Nat}{U:Sto}(w:WN t m T E U):U=T++U.drop t:=by
 conv=>lhs;rw[<- cm t U,w.low]
theorem qw:∀(k n:Nat),jJ n (k+1)=jJ n k++[.ref (n+k)]
 |0,n=>rfl
 |k+1,n=>by
  rw[jJ,qw k (n+1),jJ,bj,show n+1+k=n+(k+1) by lia]
theorem uj:∀(k n N:Nat),n+k<=N->D.unds N (jJ n k)=M
 |0,_,_,_=>rfl
 |k+1,n,N,h=>by
  rw[jJ,D.unds,uj k (n+1) N (by lia),D.und,bJ,am];lia
theorem AD{t:Nat}(tl:T.length=t)(b:T.all (Ob.und (T.length+1))=M):WN t m T (aP m []) (T++(aP m (.lst [])++[.lst (jJ (t+1) m)])):=by
 refine⟨tl,by rw[<- tl,List.take_left],by simp,λi row h=>?_,?_,λo a=>?_⟩
 ·have hi:i<m:=by have:=(R9 h).1;simpa using this
  rw[aS,ak hi]at h;cases h;rw[<- tl,eN,gL1 (by simpa using hi),aS,ak hi];rfl
 ·rw[<- tl,eN,gR1 (by simp)];simp
 ·rw[aG,aG,bC,cv]at a;rcases a with a|⟨_,rfl⟩|rfl
  ·exact gW (by rw[lA1];lia) (bA.mp b o a)
  ·rfl
  ·rw[Ob.und];exact uj _ _ _ (by simp;lia)
theorem n9{t:Nat}{U:Sto}(w:WN t m T E U)(hi:i<m)(q:Q (.ref (t+i+1),o::U)):W (dL (.ref (t+m+1)) (.int i) (o::U)) Q:=
 j4 (xs:=jJ (t+1) m) (x:=.ref (t+i+1)) (by rw[gC1];exact w.ends) (by rw[sy hi];congr 2;lia) q
theorem pu{v k:Nat}:∀{E:jw} {i:Nat} {row:List Nat},E[i]?=Z row->(E.set i (row++[k])).flatten.count v=E.flatten.count v+if k=v then 1 else 0
 |[],i,row,h=>by simp at h
 |r::E,0,row,h=>by
  rw[cS]at h;cases h;simp only[cT,cW,List.count_append,List.count_cons,List.count_nil,RW];lia
 |r::E,i+1,row,h=>by
  rw[gC1]at h;simp only[cD,cW,List.count_append,pu h];lia
theorem pr{k:Nat}:∀{E:jw} {i:Nat} {row:List Nat},E[i]?=Z row->(E.set i (row++[k])).flatten.length=E.flatten.length+1
 |[],i,row,h=>by simp at h
 |r::E,0,row,h=>by
  rw[cS]at h;cases h;simp only[cT,cW,lA1,lC1,bf];lia
 |r::E,i+1,row,h=>by
  rw[gC1]at h;simp only[cD,cW,lA1,pr h];lia
theorem ym:∀{E:jw} {k:Nat},k<=E.length->(∀(i:Nat) (row:List Nat),i<k->E[i]?=Z row->4<=row.length)->4*k<=E.flatten.length
 |E,0,_,_=>by lia
 |[],k+1,h,_=>by simp at h
 |r::E,k+1,h,a=>by
  have h1:=a 0 r (by lia) O;have h2:=ym (E:=E) (k:=k) (by simpa using h) λi row hi b=>a (i+1) row (by lia) b;rw[cW,lA1];lia
structure WE (m:Nat)(E:jw)(k i:Nat):Prop where
 len:E.length=m
 le:∀(i:Nat) (row:List Nat),E[i]?=some row->row.length<=4
 fl:E.flatten.length=2*k
 ct:∀v,E.flatten.count v=if v<k then 2 else 0
 jn:∀j,1<=j->j<=i -> ∃a ra rb v,a<j/\E[a]?=some ra/\E[j]?=some rb/\v∈ra/\v∈rb
theorem AG(m:Nat):WE m (aP m []) 0 0:=by
 have e:(aP m ([]:List Nat)).flatten=[]:=by
  rw[List.flatten_eq_nil_iff];intro l a;exact(bC.mp a).2
 refine⟨by simp,λi row h=>?_,by rw[e];rfl,λv=>by rw[e,aj (by lia)];rfl,λj h1 h2=>by lia⟩;rw[aS]at h;split at h
 ·cases h;simp
 ·cases h
theorem lF{k:Nat}{row:List Nat}(h:E[i]?=Z row){r:List Nat}(b:E[j]?=Z r):∃r',(E.set i (row++[k]))[j]?=Z r' /\ ∀x∈r,x∈r':=by
 by_cases z:i=j
 ·subst z;rw[h]at b;cases b;exact⟨_,aJ (R9 h).1,λx a=>aH _ a⟩
 ·exact⟨r,by rw[gS1 z];exact b,λx a=>a⟩
theorem WE.tie{b k i':Nat}{ra e:List Nat}(w:WE m E k i)(ha:E[a]? = some ra)(H:ra.length<4)(hb:(E.set a (ra++[k]))[b]? = some e)(ao:e.length<4)(hi:i'<=i\/(i'=i+1/\b<a/\a=i')):
  WE m ((E.set a (ra++[k])).set b (e++[k])) (k+1) i':=by
 have a1:(E.set a (ra++[k]))[a]?=Z (ra++[k]):=aJ (R9 ha).1;refine⟨by rw[aV,aV];exact w.len,λj row d=>?_,?_,λv=>?_,λj h1 h2=>?_⟩
 ·by_cases z:b=j
  ·subst z;rw[aJ (R9 hb).1]at d;cases d;rw[lA1,aY];lia
  ·rw[gS1 z]at d;by_cases t:a=j
   ·subst t;rw[a1]at d;cases d;rw[lA1,aY];lia
   ·rw[gS1 t]at d;exact w.le j row d
 ·rw[pr hb,pr ha,w.fl];lia
 ·rw[pu hb,pu ha,w.ct v];split<;>split<;>split<;>lia
 ·rcases(show j<=i\/(j=a/\b<a) by lia)with g|⟨rfl,o⟩
  ·obtain⟨c,F,G,v,B,x,C,A,D⟩:=w.jn j h1 g;obtain⟨I,u,y⟩:=lF (k:=k) ha x;obtain⟨l,p,r⟩:=lF (k:=k) hb u;obtain⟨r2,q,h⟩:=lF (k:=k) ha C;obtain⟨f,s,n⟩:=lF (k:=k) hb q;exact⟨c,l,f,v,B,p,s,r _ (y _ A),n _ (h _ D)⟩
  ·obtain⟨r2,q,h⟩:=lF (k:=k) hb a1;exact⟨b,e++[k],r2,k,o,aJ (R9 hb).1,q,by simp,h _ (by simp)⟩
theorem G0{t b k:Nat}{U:Sto}{ra:List Nat}{r:Ev}{f g:FE}{Q:Fl×Ev×Sto->Prop}(w:WN t m T E U)(ha:a<m)(hb:b<m)(l:E[a]? = some ra)(H:ra.length<100)(B:∀ rb,E[b]? = some rb->rb.length<100)(hf:∀S,f r S=some (.int a,S))(hg:∀S,g r S=some (.int b,S))(A:mV 4 r=fun S=>some (.ref (t+m+1),S))(y:mV 3 r=fun S=>some (.int k,S))(h:∀rb z,(E.set a (ra++[k]))[b]?=some rb->WN t m T ((E.set a (ra++[k])).set b (rb++[k])) z->Q (.nx,r.set 3 (some (.int ((k+1:Nat):Int))),o::z)):
  W (dQ (fG (oW (b2 iK) (m2 (b2 dL) (mV 4) f) (dG (mV 3) dH))) (dQ (fG (oW (b2 iK) (m2 (b2 dL) (mV 4) g) (dG (mV 3) dH))) (dS (m2 (b2 fX) (mV 3) (mC (D.int (1)))) (gN 3))) r (o::U)) Q:=by
 have ap:∀(xs:List Nat),nmD xs++[D.int (k:Int)]=nmD (xs++[k]):=λxs=>by simp[nmD]
 have j:∀ {x:Nat} {d:List Nat} {E:jw} {U:Sto} {e:FE} {P:Fl×Ev×Sto->Prop} (w:WN t m T E U),x<m->E[x]? = some d->d.length<200->(∀ S,e r S=some (.int x,S))->P (.nx,r,o::U.set (t+x) (.lst (nmD (d++[k])))) ->
   W (fG (oW (b2 iK) (m2 (b2 dL) (mV 4) e) (dG (mV 3) dH)) r (o::U)) P:=by
  intro x d E U e P w C p G F q;have v:(o::U)[t+x+1]?=Z (.lst (nmD d)):=by rw[gC1];exact w.row x d p
  unfold fG;rw[dN];refine ja ?_;unfold m2;rw[A];simp only[oS1,F,b2];refine n9 w C ?_;refine⟨t+x+1,nmD d,O,v,?_⟩;unfold dG dH;rw[y];simp only[oS1,oP1];rw[dV];refine(k8 v).mpr ⟨dR (by rw[ej];lia),?_⟩;rw[ap,cD];exact dV.mpr q
 have u:=w.setRow (row:=ra++[k]) ha;obtain⟨rb,c⟩:∃rb,(E.set a (ra++[k]))[b]?=some rb:=⟨_,gG1 (by rw[u.el];exact hb)⟩;have s:rb.length<200:=by
  by_cases e:a=b
  ·subst e;rw[aJ (by rw[w.el];exact ha)]at c;cases c;rw[lA1,aY];lia
  ·rw[gS1 e]at c;have:=B rb c;lia
 refine d3 (λn S=>n=r/\S=o::U.set (t+a) (.lst (nmD (ra++[k])))) (j w ha l (by lia) hf ⟨O,O,O⟩) ?_;rintro n S ⟨rfl,rfl⟩;refine d3 (λi S=>i=n/\S=o::(U.set (t+a) (.lst (nmD (ra++[k])))).set (t+b) (.lst (nmD (rb++[k])))) (j u hb c s hg ⟨O,O,O⟩) ?_;rintro i S ⟨rfl,rfl⟩;unfold dS m2 mC gN;rw[y];simp only[oS1,b2];rw[dN,DV];exact dV.mpr (h rb _ c (u.setRow hb))
theorem HM{t:Nat}{U:Sto}{av x6 x7 P aq:Option D}{Q:Fl×Ev×Sto->Prop}(w:WN t m T E U)(v:WE m E i i)(ho:fx o n)(hn:n<=2^44)(hi:i+1<m)(hm:m<=8)(he:∀j row,i+1<=j->E[j]?=some row->row=[])(h:∀wq o' U' R V,WN t m T wq U'->WE m wq (i+1) (i+1)->fx o' (n+1)->(∀j row,i+2<=j->wq[j]?=some row->row=[]) ->
   Q (.nx,[Z (.ref 0),av,Z (.int m),Z (.int ((i+1:Nat):Int)),Z (.ref (t+m+1)),Z (.int ((i+1:Nat):Int)),R,V,P,aq],o'::U')):
  W (gj [Z (.ref 0),av,Z (.int m),Z (.int (i:Nat)),Z (.ref (t+m+1)),Z (.int ((i+1:Nat):Int)),x6,x7,P,aq] (o::U)) Q:=by
 have e:∀j,j<m -> ∃row,E[j]?=Z row:=λj g=>⟨_,gG1 (by rw[v.len];exact g)⟩
 let k:Nat->Bool:=λj=>decide ((E.getD j []).length<4)
 unfold gj;have I:(af (i+1)).filter k≠[]:=by
  intro z;have C:∀j row,j<i+1->E[j]?=Z row->4<=row.length:=λj row g hr=>by
   have:=List.filter_eq_nil_iff.mp z j (aC.mpr g);simp only[k,bH,hr,b0,am]at this;lia
  have:=ym (E:=E) (k:=i+1) (by rw[v.len];lia) C;have:=v.fl;lia
 generalize hL:(af (i+1)).filter k=L at I;have X:∀j∈L,j<i+1/\k j=M:=λj g=>by
  rw[<- hL,aB]at g;exact⟨aC.mp g.1,g.2⟩
 have hLl:L.length<=8:=by
  rw[<- hL];have:=cX k (af (i+1));simp at this;lia
 refine d3 (λr S=>r=[Z (.ref 0),av,Z (.int m),Z (.int (i:Nat)),Z (.ref (t+m+1)),Z (.int ((i+1:Nat):Int)),Z (.ref (U.length+1)),x7,P,aq]/\S=o::(U++[.lst (nmD L)])) ?_ ?_
 ·walk_at"w";rw[kT,Qy];refine⟨eL (by lia),?_⟩;refine iI k (λj:Nat=>.int j) (λr=>∃x,r=[x,Z (.ref (t+m+1))]) O (af (i+1)) _ ⟨_,O⟩ ?_ ?_
  ·rintro j g r ⟨x,rfl⟩;have q:j<m:=by have:=aC.mp g;lia
   obtain⟨row,c⟩:=e j q;walk_at"w";refine n9 w q ?_;walk_at"w";refine ed (xs:=nmD row) (by rw[gC1];exact w.row j row c) ?_;walk_at"w";refine⟨?_,⟨_,O⟩,λ_=>trivial⟩;simp only[k,bH,c,b0,ej];rw[bO,am,am];lia
  ·rintro r' _;walk_at"w";rw[hL];exact⟨dR (by rw[lM1];lia),O⟩
 rintro r S ⟨rfl,rfl⟩;have hL0:0<L.length:=List.length_pos_iff.mpr I;have gL:∀o:Ob,(o::(U++[Ob.lst (nmD L)]))[U.length+1]?=Z (.lst (nmD L)):=λo=>by rw[gC1,dP];rfl
 refine d3 (λr S=>∃j u,j<i+1/\k j=M/\fx u (n+1)/\r=[Z (.ref 0),av,Z (.int m),Z (.int (i:Nat)),Z (.ref (t+m+1)),Z (.int ((i+1:Nat):Int)),Z (.ref (U.length+1)),Z (.int (j:Nat)),P,aq]/\S=u::(U++[.lst (nmD L)])) ?_ ?_
 ·walk_at"w";refine ed (gL _) ?_;walk_at"w";rw[ej];refine fE ho (by lia) (by lia) (by lia) λd u s hd=>?_;have B:d<L.length:=by lia
  refine j4 (i:=d) (xs:=nmD L) (x:=.int (L[d]:Nat)) (gL _) (by rw[nmD,gP1,gG1 B];rfl) ?_;obtain⟨F,l⟩:=X L[d] (bQ B);exact⟨L[d],u,F,l,s,O,O⟩
 rintro r S ⟨j,u,F,l,s,rfl,rfl⟩;obtain⟨row,c⟩:=e j (by lia);have au:row.length<4:=by
  simp only[k,bH,c,b0,am]at l;exact l
 obtain⟨N,p⟩:=e (i+1) hi;have K:=he (i+1) N (nR1 _) p;subst K;have w':=w.app (G:=[Ob.lst (nmD L)]) λo ho=>by rw[cv]at ho;subst ho;exact Hb
 refine G0 (a:=i+1) (b:=j) (ra:=[]) w' hi (by lia) p (by simp) (λN hb=>by rw[c]at hb;cases hb;lia) (λ_=>rfl) (λ_=>rfl) O O λN U2 f w2=>?_;have A:i+1≠j:=by lia
 have ao:N=row:=by
  rw[gS1 A,c]at f;cases f;rfl
 subst ao;refine h _ u U2 _ _ w2 (v.tie p (by simp) f au (.inr ⟨O,by lia,O⟩)) s λj' y q H=>?_;rw[gS1 (by lia),gS1 (by lia)]at H;exact he j' y (by lia) H
theorem Je{t k:Nat}{U:Sto}{I B aq x7 ao x9:Option D}{Q:Fl×Ev×Sto->Prop}(w:WN t m T E U)(v:WE m E k i)(ho:fx o n)(hn:n<=2^44)(hm0:0<m)(hm:m<=8)(h:∀E' k' o' U' X wq,WN t m T E' U'->WE m E' k' i->fx o' (n+2) ->
   Q (.nx,[Z (.ref 0),I,Z (.int m),Z (.int (k':Nat)),Z (.ref (t+m+1)),B,aq,X,ao,wq],o'::U')):
  W (gi [Z (.ref 0),I,Z (.int m),Z (.int (k:Nat)),Z (.ref (t+m+1)),B,aq,x7,ao,x9] (o::U)) Q:=by
 have l:∀j,j<m -> ∃row,E[j]?=Z row:=λj hj=>⟨_,gG1 (by rw[v.len];exact hj)⟩;unfold gi;refine d3 (λr S=>∃a b g,a<m/\b<m/\fx g (n+2)/\r=[Z (.ref 0),I,Z (.int m),Z (.int (k:Nat)),Z (.ref (t+m+1)),B,aq,Z (.int (b:Nat)),ao,Z (.int (a:Nat))]/\S=g::U) ?_ ?_
 ·walk_at"w";refine fE ho (by lia) (by lia) (by lia) λa o1 ho1 C=>?_;walk_at"w";refine fE ho1 (by lia) (by lia) (by lia) λb g q av=>?_;walk_at"w";exact⟨a,b,g,by lia,by lia,q,O,O⟩
 rintro r S ⟨a,b,g,C,av,q,rfl,rfl⟩;obtain⟨P,s⟩:=l a C;obtain⟨N,u⟩:=l b av;have H:Q (.nx,[Z (.ref 0),I,Z (.int m),Z (.int (k:Nat)),Z (.ref (t+m+1)),B,aq,Z (.int (b:Nat)),ao,Z (.int (a:Nat))],g::U):=
  h E k g U _ _ w v q
 unfold ft;rw[dN];have L:W (p9 (mB (m2 (b2 gLt) (m2 (b2 fX) (mN (b1 eB) (dG (m2 (b2 dL) (mV 4) (mV 9)) dH)) (mN (b1 pk) (dG (m2 (b2 gEq) (mV 9) (mV 7)) dH))) (mC (D.int (4))))) (mB (m2 (b2 gLt) (mN (b1 eB) (dG (m2 (b2 dL) (mV 4) (mV 7)) dH)) (mC (D.int (4))))) [Z (.ref 0),I,Z (.int m),Z (.int (k:Nat)),Z (.ref (t+m+1)),B,aq,Z (.int (b:Nat)),ao,Z (.int (a:Nat))] (g::U)) λp=>p.2=g::U/\(p.1=M->P.length+(if a=b then 1 else 0)<4/\N.length<4):=by
  walk_at"w";refine n9 w C ?_;walk_at"w";refine ed (xs:=nmD P) (by rw[gC1];exact w.row a P s) ?_;walk_at"w";rw[ej];have e1:((a:Int) == (b:Int))=decide (a=b):=by
   rw[bO,RW,am];lia
  rw[e1];have rest:W (dL (D.ref (t+m+1)) (D.int (b:Int)) (g::U)) λx=>W (eB x.fst x.snd) λx=>W (gLt x.fst (D.int 4) x.snd) λx=>W (match x.fst with|D.bl b=>some (b,x.snd)|x=>none) λp=>p.snd=g::U/\(p.fst=true->N.length<4):=by
   refine n9 w av ?_;walk_at"w";refine ed (xs:=nmD N) (by rw[gC1];exact w.row b N u) ?_;walk_at"w";rw[ej];intro au;rw[am]at au;lia
  by_cases f:a=b
  ·rw[ah f];walk_at"w";split
   ·rename_i A;rw[am]at A;refine rest.mono λx hx=>hx.mono λy R=>R.mono λz V=>V.mono λp G=>⟨G.1,λe=>⟨by first|lia|(rw[ak f];lia),G.2 e⟩⟩
   ·first|(intro z;cases z;done)|(refine⟨_,rfl,?_,λz=>?_⟩<;>first|rfl|cases z)|walk_at"w"
  ·rw[ai f];walk_at"w";split
   ·rename_i A;rw[am]at A;refine rest.mono λx hx=>hx.mono λy R=>R.mono λz V=>V.mono λp G=>⟨G.1,λe=>⟨by first|lia|(rw[aj f];lia),G.2 e⟩⟩
   ·first|(intro z;cases z;done)|(refine⟨_,rfl,?_,λz=>?_⟩<;>first|rfl|cases z)|walk_at"w"
 obtain⟨⟨c,S1⟩,ec,hS,hc⟩:=L;dsimp only at hS hc;subst hS;refine⟨_,ec,?_⟩;dsimp only;cases c with
 |false=>rw[aj (by decide)];exact dV.mpr H
 |true=>
  rw[ak O];obtain⟨h1,h2⟩:=hc O;refine G0 (a:=a) (b:=b) w C av s (by lia) (λK F=>by rw[u]at F;cases F;lia) (λ_=>rfl) (λ_=>rfl) O O λK U2 d w2=>?_;have hl:K.length<4:=by
   by_cases f:a=b
   ·subst f;rw[aJ (by rw[v.len];exact C)]at d;cases d;rw[ak O]at h1;rw[lA1,aY];lia
   ·rw[gS1 f,u]at d;cases d;exact h2
  exact h _ (k+1) g U2 _ _ w2 (v.tie s (by lia) d hl (.inl (nR1 _))) q
abbrev Pl:=List ((Nat×Nat)×Nat)
def io(i:Nat)(row:List Nat):Pl:=row.zipIdx.map λp=>((i,p.2),p.1)
def fj:Nat->jw->Pl
 |_,[]=>[]
 |i,row::R=>io i row++fj (i+1) R
noncomputable def ps(A:Pl)(v:Nat):List (Nat×Nat):=(A.filter λx=>x.2 == v).map (·.1)
theorem BC{v:Nat}{row:List Nat}(h:row[j]?=Z v):io i (row.take (j+1))=io i (row.take j)++[((i,j),v)]:=by
 have a:=(R9 h).1;unfold io;rw[cg,h,Option.toList_some,List.zipIdx_append,cc];simp;lia
theorem mU:∀{R:jw} {i k:Nat} {row:List Nat},R[i]?=Z row->fj k (R.take (i+1))=fj k (R.take i)++io (k+i) row
 |[],i,k,row,h=>by simp at h
 |r::R,0,k,row,h=>by
  rw[cS]at h;cases h;simp[fj]
 |r::R,i+1,k,row,h=>by
  rw[gC1]at h;rw[List.take_succ_cons,List.take_succ_cons,fj,fj,mU h,bE,show k+1+i=k+(i+1) by lia]
theorem xO{row:List Nat}{x:(Nat×Nat)×Nat}:x∈io i row↔x.1.1=i/\row[x.1.2]?=Z x.2:=by
 obtain⟨⟨a,b⟩,c⟩:=x;unfold io;rw[cf];constructor
 ·rintro⟨⟨v,j⟩,h,e⟩;cases e;exact⟨O,cQ.mp h⟩
 ·rintro⟨rfl,h⟩;exact⟨(c,b),cQ.mpr h,O⟩
theorem oU:∀{R:jw} {k:Nat} {x:(Nat×Nat)×Nat},x∈fj k R ↔ ∃i row,x.1.1=k+i/\R[i]?=Z row/\row[x.1.2]?=Z x.2
 |[],k,x=>by simp[fj]
 |r::R,k,x=>by
  rw[fj,aG,xO,oU (R:=R)];constructor
  ·rintro(⟨h1,h2⟩|⟨i,row,h1,h2,a⟩)
   ·exact⟨0,r,by lia,O,h2⟩
   ·exact⟨i+1,row,by lia,h2,a⟩
  ·rintro⟨i,row,h1,h2,a⟩;cases i with
   |zero=>cases h2;exact .inl ⟨by lia,a⟩
   |succ i=>exact .inr ⟨i,row,by lia,h2,a⟩
theorem EV{row:List Nat}:(io i row).map (·.2)=row:=by
 unfold io;rw[bu];exact List.zipIdx_map_fst 0 row
theorem uY:∀{R:jw} {k:Nat},(fj k R).map (·.2)=R.flatten
 |[],_=>rfl
 |r::R,k=>by rw[fj,cc,EV,uY (R:=R),cW]
theorem Iq{row:List Nat}:((io i row).map (·.1)).Nodup:=by
 unfold io;rw[bu];have e:(row.zipIdx.map ((λx:(Nat×Nat)×Nat=>x.1)∘λp=>((i,p.2),p.1)))=(row.zipIdx.map (·.2)).map λj=>(i,j):=by rw[bu];rfl
 rw[e,List.zipIdx_map_snd,<- List.range_eq_range'];exact cR.mpr (List.nodup_range.imp λh z=>h (Prod.mk.inj z).2)
theorem tq:∀{R:jw} {k:Nat},((fj k R).map (·.1)).Nodup
 |[],_=>bp
 |r::R,k=>by
  rw[fj,cc,bx];refine⟨Iq,tq,λa g b c e=>?_⟩;obtain⟨x,d,rfl⟩:=cf.mp g;obtain⟨y,f,rfl⟩:=cf.mp c;have h1:=(xO.mp d).1;obtain⟨i,row,h2,_⟩:=oU.mp f;rw[e]at h1;lia
theorem Il{A:Pl}{v:Nat}:(ps A v).length=(A.map (·.2)).count v:=by
 unfold ps;rw[lM1,List.count,List.countP_map,List.countP_eq_length_filter];rfl
theorem nS{A:Pl}{p:Nat×Nat}{v u:Nat}:ps (A++[(p,v)]) u=if v=u then ps A u++[p]else ps A u:=by
 unfold ps;rw[cY,cc];by_cases h:v=u
 ·simp[h]
 ·simp[h]
theorem Jm{A:Pl}{p:Nat×Nat}{v:Nat}:p∈ps A v↔(p,v)∈A:=by
 unfold ps;rw[cf];constructor
 ·rintro⟨⟨q,u⟩,h,e⟩;obtain⟨h1,h2⟩:=aB.mp h;have h2:u=v:=by simpa using h2
  cases e;cases h2;exact h1
 ·intro h;exact⟨(p,v),aB.mpr ⟨h,by simp⟩,O⟩
theorem Lq{A:Pl}{v:Nat}(h:(A.map (·.1)).Nodup):(ps A v).Nodup:=h.sublist (List.filter_sublist.map _)
structure PL (b:Nat)(A:Pl)(kv:List (Key×D))(H:Sto):Prop where
 no:∀v:Nat,ps A v=[]->dU kv (Sum.inl (v:Int))=none
 yes:∀v:Nat,ps A v≠[] -> ∃h,dU kv (Sum.inl (v:Int))=some (.ref (b+h))/\H[h]?=some (.lst ((ps A v).map pD))
 inj:∀v u h:Nat,dU kv (Sum.inl (v:Int))=some (.ref (b+h))->dU kv (Sum.inl (u:Int))=some (.ref (b+h))->v=u
 few:kv.length<=A.length
theorem ph{v u:Nat}(h:v≠u):(Sum.inl (v:Int):Key)≠Sum.inl (u:Int):=λe=>h (by injection e with e;lia)
theorem PL.old{b v h:Nat}{A:Pl}{kv:List (Key×D)}{H:Sto}{p:Nat×Nat}(P:PL b A kv H)(hv:ps A v≠[])(e:dU kv (Sum.inl (v:Int))=some (.ref (b+h)))(g:H[h]? = some (.lst ((ps A v).map pD))):
  PL b (A++[(p,v)]) kv ((H++[Ob.lst []]).set h (.lst ((ps A v).map pD++[pD p]))):=by
 have i:=(R9 g).1;refine⟨λu a=>?_,λu a=>?_,P.inj,by rw[lA1];have:=P.few;lia⟩
 ·rw[nS]at a;split at a
  ·simp at a
  ·exact P.no u a
 ·rw[nS]at a ⊢;by_cases c:v=u
  ·subst c;rw[ak O,cc];exact⟨h,e,aJ (by rw[lA1];lia)⟩
  ·rw[aj c]at a ⊢;obtain⟨h',d,f⟩:=P.yes u a;refine⟨h',d,?_⟩;rw[gS1 (λz=>c (P.inj v u h e (by rw[z];exact d))),gL1 (R9 f).1];exact f
theorem PL.new{b v:Nat}{A:Pl}{kv:List (Key×D)}{H:Sto}{p:Nat×Nat}(P:PL b A kv H)(hv:ps A v=[]):
  PL b (A++[(p,v)]) (gU kv (Sum.inl (v:Int)) (.ref (b+H.length))) (H++[.lst [pD p]]):=by
 refine⟨λu f=>?_,λu f=>?_,λu j h d c=>?_,by rw[lA1,aY];have:=P.few;have:=sB (k:=(Sum.inl (v:Int):Key)) (v:=D.ref (b+H.length)) (a:=kv);lia⟩
 ·rw[nS]at f;split at f
  ·simp at f
  ·rename_i l;rw[fu,aj (ph (Py l))];exact P.no u f
 ·rw[nS]at f ⊢;by_cases g:v=u
  ·subst g;rw[ak O,hv,fu,ak O];exact⟨H.length,O,by rw[gR1 (nR1 _),cF];rfl⟩
  ·rw[aj g]at f ⊢;obtain⟨h',d,c⟩:=P.yes u f;refine⟨h',by rw[fu,aj (ph (Py g))];exact d,?_⟩;rw[gL1 (R9 c).1];exact c
 ·have old:∀ w:Nat,w≠v->dU kv (Sum.inl (w:Int))=some (.ref (b+h))->h<H.length:=fun w o e=>by
   by_cases m:ps A w=[]
   ·rw[P.no w m]at e;cases e
   ·obtain⟨h',i,n⟩:=P.yes w m;rw[e]at i;have:h=h':=by injection i with i;injection i with i;lia
    rw[this];exact(R9 n).1
  rw[fu]at d c;by_cases h1:u=v
  ·by_cases h2:j=v
   ·rw[h1,h2]
   ·rw[ak (by rw[h1])]at d;rw[aj (ph h2)]at c;have:=old j h2 c;have:h=H.length:=by injection d with d;injection d with d;lia
    lia
  ·rw[aj (ph h1)]at d;by_cases h2:j=v
   ·rw[ak (by rw[h2])]at c;have:=old u h1 d;have:h=H.length:=by injection c with c;injection c with c;lia
    lia
   ·rw[aj (ph h2)]at c;exact P.inj u j h d c
def jv(A:Pl)(v:Nat)(e:Nat×Nat):Nat×Nat:=let l:=ps A v;if l.getD 0 (0,0)=e then l.getD 1 (0,0)else l.getD 0 (0,0)
theorem AN{A:Pl}{v:Nat}(h2:(ps A v).length=2):∃p q,ps A v=[p,q]:=by
 match hp:ps A v,h2 with
 |[p,q],_=>exact⟨p,q,O⟩
theorem xG{A:Pl}{v:Nat}{e:Nat×Nat}(nd:(A.map (·.1)).Nodup)(h2:(ps A v).length=2)(he:(e,v)∈A):(jv A v e,v)∈A/\jv A v e≠e/\jv A v (jv A v e)=e /\ ∀x,(x,v)∈A->x=e\/x=jv A v e:=by
 obtain⟨p,q,f⟩:=AN h2;have g:=Lq (v:=v) nd;rw[f]at g;have a:p≠q:=by simpa using g
 have m:∀x,(x,v)∈A↔x=p\/x=q:=λx=>by rw[<- Jm,f];simp
 have d:∀x,jv A v x=if p=x then q else p:=λx=>by simp[jv,f]
 rcases(m e).mp he with rfl|rfl
 ·have b:jv A v e=q:=by rw[d,ak O]
  rw[b];exact⟨(m q).mpr (.inr O),Py a,by rw[d,aj a],λx c=>(m x).mp c⟩
 ·have b:jv A v e=p:=by rw[d,aj a]
  rw[b];exact⟨(m p).mpr (.inl O),a,by rw[d,ak O],λx c=>((m x).mp c).symm⟩
theorem tV{c:FT}{b:FS}{Q:Fl×Ev×Sto->Prop}(I:Nat->Ev->Sto->Prop)(N:Nat)(step:∀k r S,I k r S->W (c r S) fun p=>if p.1=true then k<N/\W (b r p.2) fun q=>q.1 = .nx/\I (k+1) q.2.1 q.2.2 else Q (.nx,r,p.2)):
  ∀(a k:Nat) (r:Ev) (S:Sto),N-k<a->I k r S->W (qp c b a r S) Q
 |0,k,r,S,hf,_=>by lia
 |a+1,k,r,S,hf,hi=>by
  rw[qp];dsimp only;rw[dN];obtain⟨⟨t,n⟩,e,h⟩:=step k r S hi;refine⟨_,e,?_⟩;dsimp only at h ⊢;cases t with
  |true=>
   rw[ak O]at h ⊢;obtain⟨m,⟨f,i,l⟩,j,g,d⟩:=h;dsimp only at g d;subst g;rw[j,oS1];exact tV I N step a (k+1) i l (by lia) d
  |false=>
   rw[aj (by decide)]at h ⊢;exact dV.mpr h
theorem yJ{m:FA}{r:Ev}{xs:List D}{Q:An×Sto->Prop}(hm:m r S=Z ([.ref n],S))(hn:S[n]?=Z (.lst xs))(q:Q (⟨u8 0 xs,[(n,xs)]⟩,S)):W (qa m r S) Q:=by
 refine W.of (x:=(⟨u8 0 xs,[(n,xs)]⟩,S)) ?_ q;simp only[qa,hm,oS1,fR hn,n0 hn]
theorem pv:∀{xs:List Nat} {i:Nat} (h:i<xs.length),(xs[i]::xs.eraseIdx i).Perm xs
 |x::xs,0,h=>.refl _
 |x::xs,i+1,h=>by
  rw[List.eraseIdx_cons_succ,List.getElem_cons_succ];exact(List.Perm.swap x _ _).trans ((pv (by simpa using h)).cons x)
theorem uo{xs row:List Nat}{x:Nat}(h:(rs++xs).Perm row)(hx:xs[i]?=Z x):((rs++[x])++xs.eraseIdx i).Perm row:=by
 refine List.Perm.trans ?_ h;rw[bE];refine List.Perm.append_left rs ?_;obtain⟨hi,rfl⟩:=R9 hx;exact pv hi
theorem B5{xs:List Nat}{x:Nat}(h:xs[i]?=Z x):(nmD xs)[i]?=Z (.int x):=by rw[nmD,gP1,h];rfl
theorem uA{xs:List Nat}:(nmD xs).eraseIdx i=nmD (xs.eraseIdx i):=by
 rw[nmD,nmD,cq,cq,cc,List.map_take,List.map_drop]
theorem nV{xs:List Nat}{x:Nat}:nmD xs++[D.int (x:Int)]=nmD (xs++[x]):=by simp[nmD]
theorem HY{V:Sto}{row:List Nat}{j m v u t p h:Option D}{Q:Fl×Ev×Sto->Prop}(ho:fx o n)(hn:n<=2^44)(hr:row.length<=4)(q:∀o' rs G,fx o' (n+4)->rs.Perm row->Q (.nx,[some (.ref 0),j,m,v,some (.ref (V.length+1)),some (.ref (V.length+2)),u,t,p,h],o'::(V ++ .lst [] :: .lst (nmD rs)::G))):
  W (qp hK hI 100000 [Z (.ref 0),j,m,v,Z (.ref (V.length+1)),Z (.ref (V.length+2)),u,t,p,h] (o::(V++[.lst (nmD row),.lst []]))) Q:=by
 refine tV (λk r S=>∃o' a rs G,fx o' (n+k)/\(rs++a).Perm row/\rs.length=k/\S=o'::(V ++ .lst (nmD a) :: .lst (nmD rs)::G)/\r=[Z (.ref 0),j,m,v,Z (.ref (V.length+1)),Z (.ref (V.length+2)),u,t,p,h]) 4 ?_ 100000 0 _ _ (by lia) ⟨o,row,[],[],ho,.refl _,O,O,O⟩;rintro k r S ⟨o',a,rs,G,c,g,A,rfl,rfl⟩;have b:=g.length_eq;rw[lA1]at b;have f:∀(o:Ob) (X:Ob) (au:Sto),(o::(V++X::au))[V.length+1]?=Z X:=λo X au=>by rw[gC1,dP];rfl
 have w:∀(o:Ob) (X wq:Ob) (au:Sto),(o::(V++X::wq::au))[V.length+2]?=Z wq:=λo X wq au=>by rw[gC1,eN];rfl
 refine W.of (x:=(!(nmD a).isEmpty,o'::(V ++ .lst (nmD a) :: .lst (nmD rs)::(G++[.lst []])))) ?_ ?_
 ·have e:(o'::(V++Ob.lst (nmD a)::Ob.lst (nmD rs)::G))++[Ob.lst []]=o'::(V ++ .lst (nmD a) :: .lst (nmD rs)::(G++[.lst []])):=by simp
  unfold hK mB m2 mV g6 dH b2;simp only[gC1,cS,cV,oP1,oS1];rw[ak (show([]:List D).length<=dy by decide),oS1,e,yf (xs:=nmD a) (f _ _ _) (by rw[<- e,dP];rfl)];rfl
 dsimp only;cases a with
 |nil=>
  rw[show(nmD ([]:List Nat)).isEmpty=M from rfl,aj (by decide)];rw[aN]at g;exact q o' rs _ (c.more (by simp at b;lia)) g
 |cons l a=>
  rw[show(!(nmD (l::a)).isEmpty)=M from rfl,ak O];refine⟨by rw[lC1]at b;lia,?_⟩;unfold hI;walk_at"w";refine ja ?_;walk_at"w";refine⟨V.length+2,nmD rs,O,w _ _ _ _,?_⟩;refine ja ?_;walk_at"w";refine⟨V.length+1,nmD (l::a),O,f _ _ _,?_⟩;refine ed (f _ _ _) ?_;walk_at"w";rw[ej];rw[lC1]at b;refine fE c (by lia) (by rw[lC1];lia) (by rw[lC1];lia) λd s i z=>?_;obtain⟨x,y⟩:∃x,(l::a)[d]?=some x:=⟨_,gG1 (by lia)⟩;walk_at"w";refine DQ (f _ _ _) (B5 y) (by rw[lC1]at z;lia) ?_;have es:∀X,(s::(V++Ob.lst (nmD (l::a))::Ob.lst (nmD rs)::(G++[Ob.lst []]))).set (V.length+1) X=s::(V++X :: .lst (nmD rs)::(G++[.lst []])):=λX=>by
   rw[cD,cZ _ _ (nR1 _),cF];rfl
  rw[es];walk_at"w";refine(k8 (w _ _ _ _)).mpr ⟨dR (by rw[ej];lia),?_⟩;refine⟨s,(l::a).eraseIdx d,rs++[x],G++[.lst []],i.more (by lia),uo g y,by rw[lA1,A];rfl,?_,trivial⟩;rw[cD,cZ _ _ (by lia),show V.length+1-V.length=1 by lia,nV,uA];rfl
def rk(u:Nat)(ks:List Nat):List D:=ks.map λk=>D.ref (u+2+k)
structure RS (R:jw)(ks:List Nat)(G:Sto):Prop where
 len:ks.length=R.length
 row:∀(j k:Nat) (row:List Nat),ks[j]?=some k->R[j]?=some row->G[k]?=some (.lst (nmD row))
theorem RS.app{R:jw}{G H:Sto}(r:RS R ks G):RS R ks (G++H):=
 ⟨r.len,λj k row h1 h2=>by have:=r.row j k row h1 h2;rw[gL1 (R9 this).1];exact this⟩
theorem RS.snoc{R:jw}{G:Sto}{k:Nat}{row:List Nat}(r:RS R ks G)(h:G[k]?=Z (.lst (nmD row))):RS (R++[row]) (ks++[k]) G:=by
 refine⟨by rw[lA1,lA1,r.len];rfl,λj c a h1 h2=>?_⟩;by_cases b:j<ks.length
 ·rw[gL1 b]at h1;rw[gL1 (by rw[<- r.len];exact b)]at h2;exact r.row j c a h1 h2
 ·have:=(R9 h1).1;rw[lA1,aY]at this;have e:j=ks.length:=by lia
  subst e;rw[c5]at h1;rw[r.len,c5]at h2;cases h1;cases h2;exact h
theorem HE{U G:Sto}{e:Nat}{row:List Nat}{x v f d c b:Option D}{Q:Fl×Ev×Sto->Prop}(hi:U[i]? = some (.lst (nmD row)))(ho:fx o n)(hn:n<=2^44)(hr:row.length<=4)(hk:ks.length<=100)(q:∀o' rs u k s t,fx o' (n+4)->rs.Perm row->(G++u)[k]?=some (.lst (nmD rs))->Q (.nx,[some (.ref 0),some (.ref e),some (.ref (U.length+1)),some (.ref (i+1)),s,t,f,d,c,b],o'::(U ++ .lst (rk U.length (ks++[k]))::(G++u)))):
  W (hH [Z (.ref 0),Z (.ref e),Z (.ref (U.length+1)),Z (.ref (i+1)),x,v,f,d,c,b] (o::(U ++ .lst (rk U.length ks)::G))) Q:=by
 generalize g:U ++ .lst (rk U.length ks)::G=V;have j:V.length=U.length+1+G.length:=by rw[<- g];simp;lia
 have l:V[i]?=Z (.lst (nmD row)):=by rw[<- g,gL1 (R9 hi).1];exact hi
 have p:V[U.length]?=Z (.lst (rk U.length ks)):=by rw[<- g,dP];rfl
 unfold hH;refine d3 (λr S=>S=o::(V++[.lst (nmD row),.lst []])/\r=[Z (.ref 0),Z (.ref e),Z (.ref (U.length+1)),Z (.ref (i+1)),Z (.ref (V.length+1)),Z (.ref (V.length+2)),f,d,c,b]) ?_ ?_
 ·have w:∀S:Sto,S[i+1]?=Z (.lst (nmD row))->Go (.ref (i+1)) S=Z (.ref S.length,S++[.lst (nmD row)]):=λS h=>by unfold Go;rw[fR h];rfl
  ((try walk_at"w");repeat(simp only[w (o::V) (by rw[gC1];exact l)];try walk_at"w"))
 rintro r S ⟨rfl,rfl⟩;refine d3 (λr S=>∃o' rs G2,fx o' (n+4)/\rs.Perm row/\S=o'::(V ++ .lst [] :: .lst (nmD rs)::G2)/\r=[Z (.ref 0),Z (.ref e),Z (.ref (U.length+1)),Z (.ref (i+1)),Z (.ref (V.length+1)),Z (.ref (V.length+2)),f,d,c,b]) ?_ ?_
 ·refine HY ho hn hr λo' rs G2 h1 h2=>⟨O,o',rs,G2,h1,h2,O,O⟩
 rintro r S ⟨o',rs,G2,m,z,rfl,rfl⟩;have a:(o'::(V++Ob.lst []::Ob.lst (nmD rs)::G2))[U.length+1]?=Z (.lst (rk U.length ks)):=by
  rw[gC1,gL1 (by lia)];exact p
 walk_at"w";refine ja ?_;walk_at"w";refine⟨U.length+1,_,O,a,?_⟩;refine(k8 a).mpr ⟨dR (by unfold rk;rw[lM1];lia),?_⟩;have es:(o'::(V++Ob.lst []::Ob.lst (nmD rs)::G2)).set (U.length+1) (.lst (rk U.length ks++[.ref (V.length+2)]))=o'::(U ++ .lst (rk U.length (ks++[G.length+1]))::(G++Ob.lst []::Ob.lst (nmD rs)::G2)):=by
  have y:rk U.length ks++[.ref (V.length+2)]=rk U.length (ks++[G.length+1]):=by
   unfold rk;rw[cc,j,show U.length+1+G.length+2=U.length+2+(G.length+1) by lia];rfl
  rw[y,<- g,cD,bE,cZ _ _ (nR1 _),cF];rfl
 rw[es];exact q o' rs _ (G.length+1) _ _ m z (by rw[eN];rfl)
theorem Mw{m a b:FE}{r:Ev}{v:Nat}{kv:List (Key×D)}(hm:m r S=Z (.ref n,S))(ha:a r S=Z (.int v,S))(hb:b r S=Z (.ref S.length,S++[.lst []]))(hn:S[n]? = Z (.dct kv))(e:kv.length<1000)(h1:∀z,dU kv (Sum.inl (v:Int))=Z z->Q (z,S++[.lst []]))(h2:dU kv (Sum.inl (v:Int))=Y->Q (.ref S.length,(S++[Ob.lst []]).set n (.dct (gU kv (Sum.inl (v:Int)) (.ref S.length))))):W (oY m a b r S) Q:=by
 have c:(S++[Ob.lst []])[n]?=Z (.dct kv):=by rw[gL1 (R9 hn).1];exact hn
 have d:kv.length<dy:=nL1 e (by decide);cases hk:dU kv (Sum.inl (v:Int))with
 |some z=>
  refine W.of ?_ (h1 z hk);simp only[oY,hm,oS1,hn,ha,hb,c,nI,ak d,hk]
 |none=>
  refine W.of ?_ (h2 hk);simp only[oY,hm,oS1,hn,ha,hb,c,nI,ak d,hk]
theorem EZ{X H:Sto}{A:Pl}{kv:List (Key×D)}{v:Nat}{s t m u r:Option D}{Q:Fl×Ev×Sto->Prop}(P:PL (X.length+2) A kv H)(I:A.length<100)(q:∀a H',PL (X.length+2) (A++[((i,j),v)]) a H'->Q (.nx,[some (.ref 0),s,t,m,u,r,some (.ref (X.length+1)),some (.int (i:Nat)),some (.int (j:Nat)),some (.int (v:Nat))],o::(X ++ .dct a::H'))):
  W (hE [Z (.ref 0),s,t,m,u,r,Z (.ref (X.length+1)),Z (.int (i:Nat)),Z (.int (j:Nat)),Z (.int (v:Nat))] (o::(X ++ .dct kv::H))) Q:=by
 have G:=P.few;have B:∀(o:Ob) (wq:Ob) (au:Sto),(o::(X++wq::au))[X.length+1]?=Z wq:=λo wq au=>by rw[gC1,dP];rfl
 have F:∀(o:Ob) (wq:Ob) (au:Sto) (h:Nat),(o::(X++wq::au))[X.length+2+h]?=au[h]?:=λo wq au h=>by rw[show X.length+2+h=X.length+(h+1)+1 by lia,gC1,eN];rfl
 have E:(o::(X++Ob.dct kv::H)).length=X.length+2+H.length:=by simp;lia
 have w:(o::(X++Ob.dct kv::H))++[Ob.lst []]=o::(X ++ .dct kv::(H++[.lst []])):=by simp
 have st:∀(wq:Ob) (au:Sto) (h:Nat) (V:Ob),(o::(X++wq::au)).set (X.length+2+h) V=o::(X++wq::au.set h V):=λwq au h V=>by
  rw[show X.length+2+h=X.length+(h+1)+1 by lia,cD,cZ _ _ (by lia),show X.length+(h+1)-X.length=h+1 by lia];rfl
 have f:∀ (a:List (Key×D)) (H1:Sto) (h:Nat) (ys:List (Nat×Nat)) (l:Sto),l=o::(X ++ .dct a::H1)->H1[h]? = some (.lst (ys.map pD))->ys.length<200->PL (X.length+2) (A++[((i,j),v)]) a (H1.set h (.lst (ys.map pD++[pD (i,j)]))) ->
   ∃n xs,D.ref (X.length+2+h) = .ref n/\l[n]?=Z (.lst xs)/\W (dG (eG (dG (mV 7) (dG (mV 8) dH))) dH [Z (.ref 0),s,t,m,u,r,Z (.ref (X.length+1)),Z (.int (i:Nat)),Z (.int (j:Nat)),Z (.int (v:Nat))] l) λq=>W (b2 iK (.ref n::q.1) q.2) λp=>W (Z (Fl.nx,[Z (.ref 0),s,t,m,u,r,Z (.ref (X.length+1)),Z (.int (i:Nat)),Z (.int (j:Nat)),Z (.int (v:Nat))],p.2)) Q:=by
  rintro a H1 h ys l rfl e y C;have b:=F o (.dct a) H1 h;rw[e]at b;refine⟨X.length+2+h,_,O,b,?_⟩;walk_at"w";refine(k8 b).mpr ⟨dR (by rw[lM1];lia),?_⟩;have:=q a _ C;rw[<- st]at this;exact this
 unfold hE;unfold fG;rw[dN];refine ja ?_;refine Mw (n:=X.length+1) (v:=v) (kv:=kv) O O ?_ (B _ _ _) (by lia) (λz c=>?_) (λc=>?_)
 ·unfold g6 dH;rw[oS1];rfl
 ·by_cases d:ps A v=[]
  ·rw[P.no v d]at c;cases c
  ·obtain⟨h,k,b⟩:=P.yes v d;rw[k]at c;cases c;have y:=(R9 b).1;refine f kv (H++[.lst []]) h (ps A v) _ w (by rw[gL1 y];exact b) ?_ (P.old d k b);unfold ps;rw[lM1];have:=cX (λx=>x.2 == v) A;lia
 ·by_cases d:ps A v=[]
  ·have g:=P.new (p:=(i,j)) d;rw[E];refine f (gU kv (Sum.inl (v:Int)) (.ref (X.length+2+H.length))) (H++[.lst []]) H.length [] _ ?_ (by rw[gR1 (nR1 _),cF];rfl) (by simp) ?_
   ·rw[w,cD,cZ _ _ (nR1 _),cF];rfl
   ·rw[cZ _ _ (nR1 _),cF];exact g
  ·obtain⟨h,k,b⟩:=P.yes v d;rw[k]at c;cases c
abbrev dJ:=List (List (Nat×Nat))
def webD(w:dJ):D:=.tup (w.map λrow=>.tup (row.map pD))
theorem eA(w:dJ):(webD w).und 0=M:=by
 unfold webD;rw[D.und];exact eD λrow _=>by rw[D.und];exact eD λ_ _=>rfl
def vX(A:Pl)(i:Nat)(row:List Nat):List (Nat×Nat):=row.zipIdx.map λq=>jv A q.1 (i,q.2)
def lg(R:jw):dJ:=R.zipIdx.map λp=>vX (fj 0 R) p.2 p.1
theorem rY{R:jw}:(lg R)[i]?=(R[i]?).map (vX (fj 0 R) i):=by
 unfold lg;rw[gP1,c6];cases R[i]? <;> simp
structure vz (E R:jw):Prop where
 len:R.length=E.length
 row:∀(i:Nat) (r e:List Nat),R[i]?=some r->E[i]?=some e->r.Perm e
theorem vz.snoc{R:jw}{r e:List Nat}(h:vz (E.take i) R)(he:E[i]?=Z e)(p:r.Perm e):vz (E.take (i+1)) (R++[r]):=by
 have hi:=(R9 he).1;have a:R.length=i:=by have:=h.len;rw[aR]at this;lia
 refine⟨by rw[lA1,aR,a,aY];lia,λj c b h1 h2=>?_⟩;by_cases d:j<i
 ·rw[gL1 (by lia)]at h1;rw[aT (by lia)]at h2;exact h.row j c b h1 (by rw[aT d];exact h2)
 ·have:=(R9 h1).1;rw[lA1,aY]at this;have e:j=i:=by lia
  subst e;rw[aT (by lia),he]at h2;rw[<- a,c5]at h1;cases h1;cases h2;exact p
theorem mG:∀{E R:jw},vz E R->R.flatten.Perm E.flatten
 |[],[],_=>.refl _
 |[],_::_,h=>by have:=h.len;simp at this
 |_::_,[],h=>by have:=h.len;simp at this
 |e::E,r::R,h=>(h.row 0 r e O O).append (mG ⟨by simpa using h.len,λi a b h1 h2=>h.row (i+1) a b h1 h2⟩)
theorem v3{k l:Nat}{R:jw}{row:List Nat}(v:WE m E k l)(sh:vz E R)(hr:R[i]?=Z row)(ha:row[j]?=Z a):(ps (fj 0 R) a).length=2:=by
 rw[Il,uY,(mG sh).count_eq,v.ct a];have b:a∈R.flatten:=List.mem_flatten.mpr ⟨row,gM1 hr,gM1 ha⟩;have:=List.count_pos_iff.mpr b;rw[(mG sh).count_eq,v.ct a]at this;split at this
 ·rename_i h;rw[ak h]
 ·lia
theorem G6{u k:Nat}(h:ks[j]?=Z k):(rk u ks)[j]?=Z (.ref (u+2+k)):=by unfold rk;rw[gP1,h];rfl
theorem sx{u:Nat}:(rk u ks).length=ks.length:=by unfold rk;rw[lM1]
theorem yh{v:Nat}{F:List (Key×D)}{d:D}(h:S[n]?=Z (.dct F))(a:dU F (Sum.inl (v:Int))=Z d)(q:Q (d,S)):W (dL (.ref n) (.int (v:Nat)) S) Q:=by
 refine W.of ?_ q;simp only[dL,mS,h,nI,oS1,a,oP1]
theorem Ma{a:Nat×Nat}:gEq (pD a) (.tup [.int i,.int j]) S=Z (.bl (a == (i,j)),S):=by
 have:=wD (S:=S) (n:=58) (a:=a) (b:=(i,j));show(i8 S d8 (pD a) (pD (i,j))).map _=_;unfold d8;rw[this];rfl
inductive DI (E:jw)(U:Sto)(t m n:Nat):Nat->Ev->Sto->Prop
 |mk (i:Nat) (R:jw) (ks:List Nat) (G:Sto) (o':Ob) (x3 x4 x5:Option D) (hi:i<=m) (sh:vz (E.take i) R) (rs:RS R ks G) (ho:fx o' (n+4*i)):DI E U t m n i [some (.ref 0),some (.ref (t+m+1)),some (.ref (U.length+1)),x3,x4,x5,none,none,none,none] (o'::(U ++ .lst (rk U.length ks)::G))
inductive DJ (R:jw)(X:Sto)(o':Ob)(a b:Nat)(x3 x4:Option D)(m:Nat):Nat->Ev->Sto->Prop
 |mk (i:Nat) (kv:List (Key×D)) (H:Sto) (x5 x7 x8 x9:Option D) (hi:i<=m) (P:PL (X.length+2) (fj 0 (R.take i)) kv H):DJ R X o' a b x3 x4 m i [some (.ref 0),some (.ref a),some (.ref b),x3,x4,x5,some (.ref (X.length+1)),x7,x8,x9] (o'::(X ++ .dct kv::H))
inductive DK (R:jw)(X:Sto)(o':Ob)(a b:Nat)(x3 x4:Option D)(x5:Nat)(i:Nat)(row:List Nat):Nat->Ev->Sto->Prop
 |mk (j:Nat) (kv:List (Key×D)) (H:Sto) (x8 x9:Option D) (hj:j<=row.length) (P:PL (X.length+2) (fj 0 (R.take i)++io i (row.take j)) kv H):DK R X o' a b x3 x4 x5 i row j [some (.ref 0),some (.ref a),some (.ref b),x3,x4,some (.ref x5),some (.ref (X.length+1)),some (.int (i:Nat)),x8,x9] (o'::(X ++ .dct kv::H))
theorem Da{t k:Nat}{U:Sto}(w:WN t m T E U)(v:WE m E k (m-1))(ho:fx o n)(hn:n<=2^43)(hm:m<=8)(q:∀R o',vz E R->fx o' (n+40)->Q (webD (lg R),o'::U)):W (dI 2 gb [.ref 0,.ref (t+m+1)] (o::U)) Q:=by
 refine me O O (bA.mpr w.cl) ?_;unfold gb;refine iO ?_;unfold k6;have hlE:=w.el;refine d3 (λr S=>S=o::(U ++ .lst (rk U.length [])::[])/\r=[Z (.ref 0),Z (.ref (t+m+1)),Z (.ref (U.length+1)),Y,Y,Y,Y,Y,Y,Y]) ?_ ?_
 ·walk_at"w";exact⟨O,trivial⟩
 rintro r S ⟨rfl,rfl⟩;refine d3 (DI E U t m n m) ?_ ?_
 ·have y:∀(o:Ob) (au:Sto),(o::(U++au))[t+m+1]?=Z (.lst (jJ (t+1) m)):=λo au=>by rw[gC1,gL1 (R9 w.ends).1];exact w.ends
  walk_at"w";refine ed (y _ _) ?_;refine eK (DI E U t m n) _ 0 _ _ (.mk 0 [] [] [] o Y Y Y (bi _) ⟨O,λi r e h=>by simp at h⟩ ⟨O,λj k row h=>by simp at h⟩ ho) ?_ ?_ ?_
  ·rintro i r S ⟨R,ks,G,o',L,V,aq,_,_,_,_⟩;exact fq (y _ _)
  ·rintro i d g r S ⟨R,ks,G,o',L,V,aq,hi,sh,rs,C⟩;have c:=(R9 g).1;dsimp only at c g;rw[lK]at c;rw[bL]at *
   rw[sy c]at g;cases g;obtain⟨row,b⟩:∃row,E[i]?=some row:=⟨_,gG1 (by lia)⟩;have hks:ks.length=i:=by rw[rs.len,sh.len,aR];lia
   walk_at"w";rw[show t+1+i=t+i+1 by lia];refine HE (i:=t+i) (w.row i row b) C (by lia) (v.le i row b) (by lia) λo2 rs2 G2 k2 x4' x5' h1 h2 h3=>?_;exact⟨O,.mk _ (R++[rs2]) (ks++[k2]) (G++G2) o2 _ _ _ c (sh.snoc b h2) (rs.app.snoc h3) (h1.more (nR1 _))⟩
  ·intro r S h;rw[lK,bL]at h;exact⟨O,h⟩
 rintro r S ⟨R,ks,G,o',L,V,aq,_,sh,rs,C⟩;rw[ca (Nat.le_of_eq hlE)]at sh;generalize hX:U ++ .lst (rk U.length ks)::G=X;have F:R.length=m:=by rw[sh.len];exact hlE
 have ao:∀(i:Nat) (row:List Nat),R[i]?=Z row->row.length<=4:=λi row h=>by
  obtain⟨e,he⟩:∃e,E[i]?=some e:=⟨_,gG1 (by have:=(R9 h).1;lia)⟩;rw[(sh.row i row e h he).length_eq];exact v.le i e he
 have gk:∀(o:Ob) (au:Sto),(o::(X++au))[U.length+1]?=Z (.lst (rk U.length ks)):=λo au=>by
  rw[<- hX,gC1,bE,dP];rfl
 have s:∀(o:Ob) (au:Sto) (i k:Nat) (row:List Nat),ks[i]?=Z k->R[i]?=Z row->(o::(X++au))[U.length+2+k]?=Z (.lst (nmD row)):=λo au i k row h1 h2=>by
  have e:=rs.row i k row h1 h2;rw[<- hX,show U.length+2+k=U.length+(k+1)+1 by lia,gC1,bE,eN,bj,gC1,gL1 (R9 e).1];exact e
 refine d3 (λr S=>S=o'::(X ++ .dct []::[])/\r=[Z (.ref 0),Z (.ref (t+m+1)),Z (.ref (U.length+1)),L,V,aq,Z (.ref (X.length+1)),Y,Y,Y]) ?_ ?_
 ·wp_walk using oX
 rintro r S ⟨rfl,rfl⟩;have lenA:∀i,i<=m->(fj 0 (R.take i)).length<=4*i:=by
  intro i
  induction i with
  |zero=>intro _;simp[fj]
  |succ i ih=>
   intro hi;obtain⟨row,b⟩:∃row,R[i]?=some row:=⟨_,gG1 (by lia)⟩;rw[mU b,lA1];have:=ih (by lia);have:=ao i row b;simp[io];lia
 refine d3 (DJ R X o' (t+m+1) (U.length+1) L V m m) ?_ ?_
 ·unfold fF;rw[dN];refine yJ (n:=U.length+1) O (gk _ _) ?_;refine eK (DJ R X o' (t+m+1) (U.length+1) L V m) _ 0 _ _ (.mk 0 [] [] _ _ _ _ (bi _) ⟨λv _=>rfl,λv h=>(h O).elim,λv u h e=>by simp[dU]at e,by simp⟩) ?_ ?_ ?_
  ·rintro i r S ⟨A,H,aq,x7,x8,x9,_,_⟩;exact fq (gk _ _)
  ·rintro i d g r S ⟨A,H,aq,x7,x8,x9,hi,P⟩;dsimp only at g;rw[gD]at g;obtain⟨z,B,rfl⟩:=Sb g;have c:=(R9 B).1;rw[sx]at c;obtain⟨k2,l⟩:∃k2,ks[i]?=some k2:=⟨_,gG1 c⟩;rw[G6 l]at B;cases B;have hil:i<m:=by rw[<- F,<- rs.len];exact c
   obtain⟨row,b⟩:∃row,R[i]?=some row:=⟨_,gG1 (by lia)⟩;rw[bL]at *
   walk_at"w";unfold jr fF;rw[dN];refine yJ (n:=U.length+2+k2) O (s _ _ i k2 row l b) ?_;refine eK (DK R X o' (t+m+1) (U.length+1) L V (U.length+2+k2) i row) _ 0 _ _ (.mk 0 A H _ _ (bi _) (by simpa[io]using P)) ?_ ?_ ?_
   ·rintro j r S ⟨A,H,x8,x9,_,_⟩;exact fq (s _ _ i k2 row l b)
   ·rintro j d g r S ⟨A,H,x8,x9,hj,P⟩;dsimp only at g;rw[gD]at g;obtain⟨z,B,rfl⟩:=Sb g;rw[nmD,gP1]at B;obtain⟨way,I,rfl⟩:=Sb B;have hjl:=(R9 I).1;rw[bL]at *
    have:=lenA i (by lia);have:=ao i row b;walk_at"w";refine EZ P (by rw[lA1];simp[io];lia) λkv' H' P'=>?_;rw[bE,<- BC I]at P';exact⟨O,.mk _ kv' H' _ _ hjl P'⟩
   ·rintro r S ⟨A,H,x8,x9,hj,P⟩;rw[gO,ej,bL,bU]at P;refine⟨O,.mk _ A H _ _ _ _ hil ?_⟩;rw[mU b,bL];exact P
  ·intro r S h;rw[gO,sx,rs.len,bL,F]at h;exact⟨O,h⟩
 rintro r S ⟨A,H,aq,x7,x8,x9,_,P⟩;rw[ca (Nat.le_of_eq F)]at P;obtain⟨au,hY⟩:∃au,au=Ob.dct A::H:=⟨_,O⟩;rw[<- hY];have cnt:∀(i j a:Nat) (row:List Nat),R[i]?=Z row->row[j]?=Z a -> ∃p p' h,ps (fj 0 R) a=[p,p']/\dU A (Sum.inl (a:Int))=Z (.ref (X.length+2+h))/\H[h]?=Z (.lst [pD p,pD p']):=by
  intro i j a row hr ha;have h2:=v3 v sh hr ha;obtain⟨p,p',e⟩:=AN h2;obtain⟨h,e1,e2⟩:=P.yes a (by rw[e];simp);rw[e]at e2;exact⟨p,p',h,e,e1,e2⟩
 have gY:∀(o:Ob) (wq:Sto) (h:Nat) (x:Ob),H[h]?=Z x->(o::(X++(au++wq)))[X.length+2+h]?=Z x:=λo wq h x e=>by
  rw[hY,show X.length+2+h=X.length+(h+1)+1 by lia,gC1,eN,bj,gC1,gL1 (R9 e).1];exact e
 have gd:∀(o:Ob) (wq:Sto),(o::(X++(au++wq)))[X.length+1]?=Z (.dct A):=λo wq=>by rw[hY,gC1,dP];rfl
 walk_at"w";refine yJ (n:=U.length+1) O (gk _ _) ?_;refine iF (λi K r S=>∃wq N av,S=o'::(X++(au++wq))/\r=[N,av,Z (.ref (X.length+1))]/\K=(((lg R).take i).map λrow=>.tup (row.map pD))) _ 0 [] _ _ ⟨[],Y,Y,by rw[aN],O,O⟩ ?_ ?_ ?_
 ·rintro i K r S ⟨wq,N,av,rfl,_⟩;exact fq (gk _ _)
 ·rintro i d g K r S ⟨wq,N,av,rfl,rfl,rfl⟩;dsimp only at g;rw[gD]at g;obtain⟨z,B,rfl⟩:=Sb g;have c:=(R9 B).1;rw[sx]at c;obtain⟨k2,l⟩:∃k2,ks[i]?=some k2:=⟨_,gG1 c⟩;rw[G6 l]at B;cases B;obtain⟨row,b⟩:∃row,R[i]?=some row:=⟨_,gG1 (by rw[<- rs.len];exact c)⟩;rw[bL]at *
  have hl:=ao i row b;walk_at"w";refine yJ (n:=U.length+2+k2) O (s _ _ i k2 row l b) ?_;dsimp only;rw[nmD,wG];refine ji (f:=λp:Nat×Nat=>D.tup [.int p.2,.int p.1]) (λp=>pD (jv (fj 0 R) p.1 (i,p.2))) (λr=>∃N av,r=[N,av,Z (.ref (X.length+1)),Z (.int (i:Nat))]) (fq (s _ _ i k2 row l b)) row.zipIdx _ ⟨_,_,O⟩ ?_ ?_
  ·rintro⟨a,j⟩ ha r ⟨y0,y1,rfl⟩;obtain⟨p,p',h,c1,c2,c3⟩:=cnt i j a row b (ql ha);have c4:=gY o' wq h _ c3;walk_at"w";refine yh (gd _ _) c2 ?_;refine yh (gd _ _) c2 ?_;refine j4 (i:=0) (x:=pD p) c4 O ?_
   wp_walk using Ma
   by_cases hp:p=(i,j)
   ·rw[show(p == (i,j))=M by rw[hp];simp];walk_at"w";refine j4 (i:=1) (x:=pD p') c4 O ?_;refine⟨?_,O,_,_,O⟩;simp[jv,c1,hp]
   ·rw[show(p == (i,j))=J by simp[hp]];walk_at"w";refine j4 (i:=0) (x:=pD p) c4 O ?_;refine⟨?_,O,_,_,O⟩;simp[jv,c1,hp]
  ·rintro r' _;walk_at"w";refine⟨dR (by rw[lM1,List.length_zipIdx];lia),?_⟩;refine ed (xs:=row.zipIdx.map λp=>pD (jv (fj 0 R) p.1 (i,p.2))) (by rw[gC1];simp only[<- lA1,<- bm,<- bE];rw[dP];rfl) ?_;refine⟨wq++[Ob.lst (row.zipIdx.map λp=>pD (jv (fj 0 R) p.1 (i,p.2)))],_,_,O,O,?_⟩;rw[cg,rY,b];simp[vX,Function.comp_def]
 ·rintro xs r S ⟨wq,N,av,rfl,rfl,e⟩;dsimp only at e;have hwl:(lg R).length=m:=by unfold lg;simp[F]
  rw[cP,bL,gO,sx,rs.len,ca (by lia)]at e;subst e;walk_at"w";refine⟨dR (by rw[lM1];lia),?_⟩;refine ed (xs:=(lg R).map λrow=>.tup (row.map pD)) (by rw[gC1];simp only[<- lA1,<- bm,<- bE];rw[dP];rfl) ?_;refine⟨webD (lg R),o',(.lst (rk U.length ks)::G)++(au++(wq++[Ob.lst ((lg R).map λrow=>.tup (row.map pD))])),?_,eA _,C.und,q R o' sh (C.more (by lia))⟩;rw[<- hX];simp only[bE];rfl
def At(w:dJ)(r d:Nat)(e:Nat×Nat):Prop:=∃row,w[r]?=Z row/\row[d]?=Z e
structure WebJ (m:Nat)(w:dJ):Prop where
 len:w.length=m
 le:∀(i:Nat) (row:List (Nat×Nat)),w[i]?=some row->row.length<=4
 to:∀(r d:Nat) (e:Nat×Nat),At w r d e->e.1<m
 jn:∀j,1<=j->j<m -> ∃a d e,a<j/\At w a d e/\e.1=j
structure DM (m:Nat)(w:dJ):Prop extends WebJ m w where
 bk:∀(r d:Nat) (e:Nat×Nat),At w r d e->At w e.1 e.2 (r,d)
theorem j2{w:dJ}{d:Nat}{e e':Nat×Nat}(h:At w r d e)(h':At w r d e'):e=e':=by
 obtain⟨g,c,f⟩:=h;obtain⟨r2,b,a⟩:=h';rw[c]at b;cases b;rw[f]at a;cases a;rfl
structure tL (m:Nat)(w:dJ):Prop extends WebJ m w where
 back:∀(r d:Nat) (e:Nat×Nat),At w r d e->At w e.1 e.2 (r,d)/\e≠(r,d)
theorem Ks{R:jw}{e:Nat×Nat}:At (lg R) i j e ↔ ∃row a,R[i]?=Z row/\row[j]?=Z a/\e=jv (fj 0 R) a (i,j):=by
 unfold At;rw[rY];constructor
 ·rintro⟨row,h1,h2⟩;obtain⟨b,d,rfl⟩:=Sb h1;unfold vX at h2;rw[gP1,c6]at h2;obtain⟨x,c,rfl⟩:=Sb h2;obtain⟨a,f,rfl⟩:=Sb c;exact⟨b,a,d,f,by simp⟩
 ·rintro⟨row,a,h1,h2,rfl⟩;refine⟨vX (fj 0 R) i row,by rw[h1];rfl,?_⟩;unfold vX;rw[gP1,c6,h2];simp
theorem nY{R:jw}:((i,j),a)∈fj 0 R ↔ ∃row,R[i]?=Z row/\row[j]?=Z a:=by
 rw[oU];constructor
 ·rintro⟨c,row,h1,h2,b⟩;rw[bL]at h1;dsimp only at h1;subst h1;exact⟨row,h2,b⟩
 ·rintro⟨row,h2,b⟩;exact⟨i,row,(bL i).symm,h2,b⟩
theorem Em{k:Nat}{R:jw}(v:WE m E k (m-1))(sh:vz E R):tL m (lg R):=by
 have w:R.length=m:=by rw[sh.len];exact v.len
 have G:∀(i:Nat) (row:List Nat),R[i]?=Z row -> ∃e,E[i]?=Z e/\row.Perm e:=λi row h=>by
  obtain⟨e,n⟩:∃e,E[i]?=some e:=⟨_,gG1 (by have:=(R9 h).1;rw[v.len];lia)⟩;exact⟨e,n,sh.row i row e h n⟩
 have f:∀(r d:Nat) (e:Nat×Nat),At (lg R) r d e->At (lg R) e.1 e.2 (r,d)/\e≠(r,d)/\e.1<m:=λr d e h=>by
  obtain⟨row,a,h1,h2,rfl⟩:=Ks.mp h;obtain⟨I,p2,K,_⟩:=xG tq (v3 v sh h1 h2) (nY.mpr ⟨row,h1,h2⟩);generalize jv (fj 0 R) a (r,d)=g at *
  obtain⟨b,o,H⟩:=(nY (i:=g.1) (j:=g.2)).mp I;refine⟨Ks.mpr ⟨b,a,o,H,K.symm⟩,p2,?_⟩;have:=(R9 o).1;lia
 refine⟨⟨by unfold lg;simp[w],λi row h=>?_,λr d e h=>(f r d e h).2.2,λj h1 h2=>?_⟩,λr d e h=>⟨(f r d e h).1,(f r d e h).2.1⟩⟩
 ·rw[rY]at h;obtain⟨b,o,rfl⟩:=Sb h;obtain⟨e,n,p⟩:=G i b o;unfold vX;rw[lM1,List.length_zipIdx,p.length_eq];exact v.le i e n
 ·obtain⟨a,B,A,x,L,C,D,ao,F⟩:=v.jn j h1 (by lia);obtain⟨u,c⟩:∃s,R[a]?=some s:=⟨_,gG1 (by lia)⟩;obtain⟨y,l⟩:∃s,R[j]?=some s:=⟨_,gG1 (by lia)⟩;obtain⟨d,t⟩:=bq ((sh.row a u B c C).mem_iff.mpr ao);obtain⟨aq,q⟩:=bq ((sh.row j y A l D).mem_iff.mpr F);obtain⟨_,_,_,N⟩:=xG tq (v3 v sh c t) (nY.mpr ⟨u,c,t⟩);rcases N (j,aq) (nY.mpr ⟨y,l,q⟩)with z|z
  ·injection z with av P;lia
  ·exact⟨a,d,_,L,Ks.mpr ⟨u,x,c,t,O⟩,by rw[<- z]⟩
theorem EY(ho:fx o n)(hn:n<=2^40)(X:T.all (Ob.und (T.length+1))=M)(h0:1<=a)(h8:a<=8)(h:∀m w o',0<m->m<=a->tL m w->fx o' (n+100)->Q (webD w,o'::T)):W (dI 2 fr [.ref 0,.int a] (o::T)) Q:=by
 refine me O O X ?_;unfold fr;refine iO ?_;unfold i9;generalize P:T.length=t;refine d3 (λr S=>∃(m:Nat) (u:Ob),0<m/\m<=a/\fx u (n+1)/\r=[Z (.ref 0),Z (.int a),Z (.int m),Z (.int ((0:Nat):Int)),Y,Y,Y,Y,Y,Y]/\S=u::T) ?_ ?_
 ·walk_at"w";refine fE ho (by lia) (by lia) (by lia) λc u z hc=>?_;walk_at"w";exact⟨c+1,u,by lia,by lia,z,by simp[Int.add_comm],O⟩
 rintro r S ⟨m,u,C,wq,z,rfl,rfl⟩;refine d3 (λr S=>∃U,WN t m T (aP m []) U/\r=[Z (.ref 0),Z (.int a),Z (.int m),Z (.int ((0:Nat):Int)),Z (.ref (t+m+1)),Y,Y,Y,Y,Y]/\S=u::U) ?_ ?_
 ·walk_at"w";refine⟨eL (by lia),?_⟩;rw[Qy];refine iF (λi F r S=>F=jJ (t+1) i/\S=u::(T++aP i (.lst [])) /\ ∃x,r=[x]) (fT 0 m) 0 [] _ _ ⟨O,by simp,_,O⟩ (λ_ _ _ _ _=>rfl) ?_ ?_
  ·rintro i d y F r S ⟨rfl,rfl,x,rfl⟩;walk_at"w";rw[bL];refine⟨?_,?_,_,O⟩
   ·rw[qw,P,lR1]
    congr 3
    lia
   ·rw[List.replicate_succ']
  ·rintro xs r S ⟨e,rfl,_⟩;rw[cP,bL,eo]at e;subst e;rw[bL,eo];walk_at"w";rw[lK];refine⟨dR (by lia),_,AD P X,?_,O⟩;simp[P]
 rintro r S ⟨U0,au,rfl,rfl⟩;refine d3 (λr S=>∃E k f U g p l,WN t m T E U/\WE m E k (m-1)/\fx f (n+20)/\r=[Z (.ref 0),Z (.int a),Z (.int m),Z (.int (k:Nat)),Z (.ref (t+m+1)),g,p,l,Y,Y]/\S=f::U) ?_ ?_
 ·walk_at"w";refine⟨Dv (by decide) (by decide),eL (by lia),?_⟩;refine eK (λi r S=>i<=m-1 /\ ∃E f U g p l,WN t m T E U/\WE m E i i/\(∀j row,i+1<=j->E[j]?=Z row->row=[])/\fx f (n+1+i)/\r=[Z (.ref 0),Z (.int a),Z (.int m),Z (.int (i:Nat)),Z (.ref (t+m+1)),g,p,l,Y,Y]/\S=f::U) _ 0 _ _ ?_ (λ_ _ _ _=>rfl) ?_ ?_
  ·refine⟨by lia,_,u,U0,Y,Y,Y,au,AG m,λj row _ G=>?_,z,O,O⟩;rw[aS]at G;split at G
   ·cases G;rfl
   ·cases G
  ·rintro i d y r S ⟨hi,E,f,U,g,p,l,w,v,V,b,rfl,rfl⟩;have q:=(R9 y).1;rw [eo] at q;have I:d = .int ((i+1:Nat):Int):=by
    rw[nU,gP1,cr q]at y;simp at y;rw[<- y]
    push_cast
    congr 1
    lia
   subst I;rw[bL]at *
   walk_at"w";refine HM w v b (by lia) (by lia) (by lia) V λN o' K x6' aq av ao s L=>?_;exact⟨O,by lia,N,o',K,_,_,_,av,ao,L,s.more (by lia),O,O⟩
  ·rintro r S ⟨hi,E,f,U,g,p,l,w,v,V,b,rfl,rfl⟩;rw[eo,bL]at *
   have e:((m:Int)-1).toNat=m-1:=by lia
   rw[e]at v b ⊢;exact⟨O,E,m-1,f,U,g,p,l,w,v,b.more (by lia),O,O⟩
 rintro r S ⟨E,k,f,U,g,p,l,w,v,b,rfl,rfl⟩;refine d3 (λr S=>∃E k f U g p l B A,WN t m T E U/\WE m E k (m-1)/\fx f (n+50)/\r=[Z (.ref 0),Z (.int a),Z (.int m),Z (.int (k:Nat)),Z (.ref (t+m+1)),g,p,l,B,A]/\S=f::U) ?_ ?_
 ·walk_at"w";refine fE b (by lia) (by lia) (by lia) λc o3 H hc=>?_;walk_at"w";refine⟨eL (by lia),?_⟩;rw[Qy];refine eK (λi r S=>i<=c /\ ∃E k f U g p l B A,WN t m T E U/\WE m E k (m-1)/\fx f (n+21+2*i)/\r=[Z (.ref 0),Z (.int a),Z (.int m),Z (.int (k:Nat)),Z (.ref (t+m+1)),g,p,l,B,A]/\S=f::U) _ 0 _ _ ⟨by lia,E,k,o3,U,g,p,l,Y,Y,w,v,H,O,O⟩ (λ_ _ _ _=>rfl) ?_ ?_
  ·rintro i d y r S ⟨hi,E,k,f,U,g,p,l,B,A,w,v,b,rfl,rfl⟩;have q:=(R9 y).1;rw[eo]at q;rw[bL]at *
   walk_at"w";refine Je w v b (by lia) C (by lia) λN k' o' K aq x9' av ao s=>?_;exact⟨O,by lia,N,k',o',K,_,_,_,_,_,av,ao,s.more (by lia),O,O⟩
  ·rintro r S ⟨hi,E,k,f,U,g,p,l,B,A,w,v,b,rfl,rfl⟩;rw[eo,bL]at b;exact⟨O,E,k,f,U,_,_,_,_,_,w,v,b.more (by lia),O,O⟩
 rintro r S ⟨E,k,f,U,g,p,l,B,A,w,v,b,rfl,rfl⟩;walk_at"w";refine Da w v b (by lia) (by lia) λR o' sh s=>?_;exact⟨webD (lg R),o',U.drop t,by rw[<- w.split],eA _,s.und,h m _ o' C wq (Em v sh) (s.more (by lia))⟩
theorem Hu{m:FA}{r:Ev}{S1:Sto}{k:Nat}(h:m r S=Z ([.int k],S1))(hk:k<=1000)(q:Q (.ref S1.length,S1++[.lst (fT 0 k)])):W (zx m r S) Q:=by
 refine W.of ?_ q;unfold zx;rw[h,oS1];dsimp only;have:uh 0 (k:Int)=M:=by
  unfold uh;simp only[bA1,am];lia
 rw[ak this,Qy]
theorem Fd{b:Nat}(ho:fx o n)(hn:n<=2^42)(hc:b<=8)(q:∀p o',p.Perm (af b)->fx o' (n+b)->Q (.ref (T.length+2),o'::(T++[.lst [],.lst (nmD p)]))):W (dI 2 fU [.ref 0,.int b] (o::T)) Q:=by
 refine vo O O ?_;unfold fU;refine iO ?_;unfold mj;have m:∀(o:Ob) (X:Ob) (au:Sto),(o::(T++X::au))[T.length+1]?=Z X:=λo X au=>by rw[gC1,dP];rfl
 refine d3 (λr S=>S=o::(T++[.lst (nmD (af b))])/\r=[Z (.ref 0),Z (.int b),Z (.ref (T.length+1))]) ?_ ?_
 ·unfold dS;rw[dN];refine Hu (k:=b) (S1:=o::T) O (by lia) ?_;rw[kT];walk_at"w";exact⟨O,trivial⟩
 rintro r S ⟨rfl,rfl⟩;walk_at"w";refine⟨eL (by lia),?_⟩;rw[Qy];refine iF (λi h r S=>∃o' rs c x,i<=b/\(rs++c).Perm (af b)/\rs.length=i/\h=nmD rs/\fx o' (n+i)/\S=o'::(T++[.lst (nmD c)])/\r=[x,Z (.ref (T.length+1)),Z (.ref 0)]) (fT 0 b) 0 [] _ _ ⟨o,[],af b,_,by lia,.refl _,O,O,ho,O,O⟩ (λ_ _ _ _ _=>rfl) ?_ ?_
 ·rintro i d s h r S ⟨o',rs,c,x,hi,g,t,rfl,f,rfl,rfl⟩;have j:=(R9 s).1;rw[eo]at j;have a:=g.length_eq;rw[lA1,cB]at a;rw[bL]at *
  walk_at"w";refine ja ?_;walk_at"w";refine⟨T.length+1,nmD c,O,m _ _ _,?_⟩;refine ed (m _ _ _) ?_;walk_at"w";rw[ej];refine fE f (by lia) (by lia) (by lia) λd v l s=>?_;obtain⟨y,u⟩:∃y,c[d]?=some y:=⟨_,gG1 (by lia)⟩;walk_at"w";refine DQ (m _ _ _) (B5 u) (by lia) ?_;refine⟨v,rs++[y],c.eraseIdx d,_,by lia,uo g u,by rw[lA1,t];rfl,nV,l.more (by lia),?_,O⟩;rw[cD,cZ _ _ (nR1 _),cF,uA];rfl
 ·rintro xs r S ⟨o',rs,c,x,hi,g,t,e,f,rfl,rfl⟩;rw[eo,bL]at *
  rw[cP]at e;subst e;have a:=g.length_eq;rw[lA1,cB]at a;have:c=[]:=List.eq_nil_of_length_eq_zero (by lia);subst this;rw[aN]at g;walk_at"w";refine⟨dR (by rw[ej];lia),?_⟩;unfold gc;rw[aj (by simp[D.und])];exact q rs o' g f
def tk3(r k d:Nat):TK:=.tup [.int r,.int k,.int d]
def r9(r k d:Nat):D:=.tup [.int r,.int k,.int d]
theorem JP{k d:Nat}:keyT (r9 r k d)=Z (tk3 r k d):=rfl
theorem lC{k d k' d':Nat}(h:tk3 r k d=tk3 a k' d'):r=a/\k=k'/\d=d':=by
 simp[tk3]at h;lia
def D0(w:dJ)(cp:Nat)(F:List (TK×D))(r k d:Nat):Prop:=∃e k',At w r d e/\k'<cp/\dU F (tk3 r k d)=Z (r9 e.1 k' e.2)/\dU F (tk3 e.1 k' e.2)=Z (r9 r k d)
def GW(F F':List (TK×D))(p e:Nat×Nat):Prop:=∀a k b,(a,b)≠p->(a,b)≠e->dU F' (tk3 a k b)=dU F (tk3 a k b)
theorem D0.keep{w:dJ}{g k d:Nat}{p e:Nat×Nat}{j:List (TK×D)}(h:D0 w g F r k d)(hk:GW F j p e)(h1:(r,d)≠p)(h2:(r,d)≠e)(m:∀f,At w r d f->f≠p/\f≠e):D0 w g j r k d:=by
 obtain⟨f,i,a,b,c,l⟩:=h;have:=m f a;exact⟨f,i,a,b,by rw[hk r k d h1 h2];exact c,by rw[hk f.1 i f.2 this.1 this.2];exact l⟩
theorem Mv{m:FA}{r:Ev}{Q:An×Sto->Prop}(h:W (m r S) λp=>∃n xs,p.1=[.ref n]/\p.2[n]?=Z (.lst xs)/\Q (⟨u8 0 xs,[(n,xs)]⟩,p.2)):W (qa m r S) Q:=by
 obtain⟨⟨a,b⟩,e,n,xs,h1,h2,q⟩:=h;dsimp only at h1 h2 q;subst h1;refine W.of (x:=(⟨u8 0 xs,[(n,xs)]⟩,b)) ?_ q;simp only[qa,e,oS1,fR h2,n0 h2]
theorem Ew{G:Sto}{cp d:Nat}{w:dJ}{e:Nat×Nat}{P N x9 x10 j p l s:Option D}{Q:Fl×Ev×Sto->Prop}(ho:fx o n)(hn:n<=2^42)(hc:cp<=4)(ha:At w r d e)(hb:At w e.1 e.2 (r,d))(hne:e≠(r,d))(hF:F.length<900)(q:∀f G' o' x9' I,fx o' (n+4)->GW F f (r,d) e->(∀k,k<cp->D0 w cp f r k d/\D0 w cp f e.1 k e.2)->f.length<=F.length+8 ->
   Q (.nx,[Z (.ref 0),P,Z (.int cp),Z (.ref (T.length+1)),Z (.int r),N,Z (.int d),Z (.int e.1),Z (.int e.2),x9',I,j,p,l,s],o'::(T++dO f::G'))):
  W (fF (qa (dG (mN (dI 2 fU) (dG (mV 0) (dG (mV 2) dH))) dH)) (gT 2 (gCs (gN 9) (gCs (gN 10) gNl))) ix [Z (.ref 0),P,Z (.int cp),Z (.ref (T.length+1)),Z (.int r),N,Z (.int d),Z (.int e.1),Z (.int e.2),x9,x10,j,p,l,s] (o::(T++dO F::G))) Q:=by
 unfold fF;rw[dN];refine Mv ?_;simp(implicitDefEqProofs:=J) only[dG,mN,mV,cS,gC1,dH,oS1,dN,dV];refine Fd ho hn (by lia) λg o' av ho'=>?_;have E:=av.length_eq;rw[cB]at E;have H:∀c x:Nat,g[c]?=Z x->x<cp:=λc x h=>aC.mp (av.mem_iff.mp (gM1 h));walk_at"w";have eS:o'::(T++dO F::(G++[Ob.lst [],Ob.lst (nmD g)]))=o'::((T++dO F::G)++[Ob.lst [],Ob.lst (nmD g)]):=by simp
 have X:∀(f:List (TK×D)),(o'::(T++dO f::(G++[Ob.lst [],Ob.lst (nmD g)])))[T.length+(G.length+1)+2]?=Z (.lst (nmD g)):=λf=>by
  rw[show T.length+(G.length+1)+2=T.length+(G.length+1+1)+1 by lia,gC1,eN,gC1,eN];rfl
 refine⟨T.length+(G.length+1)+2,nmD g,by first|rfl|(congr 3;lia),by first|exact X F|(rw[<- X F];congr 1;lia),?_⟩;have gd:∀(wq:Ob) (au:Sto),(o'::(T++wq::au))[T.length+1]?=Z wq:=λwq au=>by rw[gC1,dP];rfl
 have sd:∀(wq V:Ob) (au:Sto),(o'::(T++wq::au)).set (T.length+1) V=o'::(T++V::au):=λwq V au=>by
  rw[cD,cZ _ _ (nR1 _),cF];rfl
 refine eK (λi t S=>∃f R m,i<=cp/\GW F f (r,d) e/\(∀c x:Nat,c<i->g[c]?=Z x->dU f (tk3 r c d)=Z (r9 e.1 x e.2)/\dU f (tk3 e.1 x e.2)=Z (r9 r c d))/\f.length<=F.length+2*i/\S=o'::(T++dO f::(G++[Ob.lst [],Ob.lst (nmD g)]))/\t=[Z (.ref 0),P,Z (.int cp),Z (.ref (T.length+1)),Z (.int r),N,Z (.int d),Z (.int e.1),Z (.int e.2),R,m,j,p,l,s]) _ 0 _ _ ⟨F,_,_,by lia,λ_ _ _ _ _=>rfl,λc x h=>by lia,by lia,O,O⟩ ?_ ?_ ?_
 ·rintro i t S ⟨f,R,m,_,_,_,_,rfl,_⟩;exact fq (X f)
 ·rintro i dd hd t S ⟨f,R,m,hi,U,L,hl,rfl,rfl⟩;rw[gD,nmD,gP1,Option.map_map]at hd;obtain⟨x,A,rfl⟩:=Sb hd;have hlt:=(R9 A).1;have hxc:=H i x A;rw[bL]at *
  unfold Function.comp;walk_at"w";unfold ix;refine d3 (λt S=>S=o'::(T++dO (gU f (tk3 r i d) (r9 e.1 x e.2))::(G++[Ob.lst [],Ob.lst (nmD g)]))/\t=[Z (.ref 0),P,Z (.int cp),Z (.ref (T.length+1)),Z (.int r),N,Z (.int d),Z (.int e.1),Z (.int e.2),Z (.int (i:Nat)),Z (.int (x:Nat)),j,p,l,s]) ?_ ?_
  ·walk_at"w";refine wR (key:=r9 r i d) (v:=r9 e.1 x e.2) (F:=f) (gd _ _) JP (by lia) ?_;walk_at"w";exact⟨sd _ _ _,trivial⟩
  rintro t S ⟨rfl,rfl⟩;have pl:=sB (k:=tk3 r i d) (v:=r9 e.1 x e.2) (a:=f);have pl2:=sB (k:=tk3 e.1 x e.2) (v:=r9 r i d) (a:=gU f (tk3 r i d) (r9 e.1 x e.2));walk_at"w";refine wR (key:=r9 e.1 x e.2) (v:=r9 r i d) (F:=gU f (tk3 r i d) (r9 e.1 x e.2)) (gd _ _) JP (by lia) ?_;have u:∀a b:Nat,tk3 r a d≠tk3 e.1 b e.2:=λa b z=>by
   obtain⟨C,_,ao⟩:=lC z;exact hne (by rw[C,ao])
  refine⟨_,_,_,by lia,λa k b h h'=>?_,λc y h aq=>?_,by lia,sd _ _ _,O⟩
  ·rw[fu,fu,aj,aj]
   ·exact U a k b h h'
   ·intro z;obtain⟨C,_,ao⟩:=lC z;exact h (by rw[C,ao])
   ·intro z;obtain⟨C,_,ao⟩:=lC z;exact h' (by rw[C,ao])
  ·rcases c7.mp h with h|rfl
   ·have nx:y≠x:=fun z=>by
     subst z;have nd:=av.nodup_iff.mpr cA;obtain⟨l1,g1⟩:=R9 aq;obtain⟨l2,g2⟩:=R9 A;have:=(aI nd).mp (g1.trans g2.symm);lia
    obtain⟨K,B⟩:=L c y h aq;refine⟨?_,?_⟩
    ·rw[fu,fu,aj (u c x),aj,K];intro z;have:=(lC z).2.1;lia
    ·rw[fu,fu,aj,aj (Py (u i y)),B];intro z;exact nx (lC z).2.1
   ·rw[A]at aq;cases aq;refine⟨?_,?_⟩
    ·rw[fu,fu,aj (u c x),ak O]
    ·rw[fu,ak O]
 ·rintro t S ⟨f,R,m,hi,U,L,hl,rfl,rfl⟩;rw[gO,ej,bL]at *
  refine q f _ o' _ _ (ho'.more (by lia)) U (λk hk=>⟨?_,?_⟩) (by lia)
  ·obtain⟨x,A⟩:∃x,g[k]?=some x:=⟨_,gG1 (by lia)⟩;obtain⟨K,B⟩:=L k x (by lia) A;exact⟨e,x,ha,H k x A,K,B⟩
  ·obtain⟨c,hc⟩:=bq (av.mem_iff.mpr (aC.mpr hk));have hcl:=(R9 hc).1;obtain⟨K,B⟩:=L c k hcl hc;exact⟨(r,d),c,hb,by lia,B,K⟩
def zz(a b:Nat×Nat):Bool:=decide (a.1<b.1)||(decide (a.1=b.1)&&decide (a.2<b.2))
theorem J3{a b:Nat×Nat}:gLt (pD a) (pD b) S=Z (.bl (zz a b),S):=by
 have c:∀(n x y:Nat),i8 S (n+1) (.int x) (.int y)=Z (decide (x=y)):=λn x y=>by
  show Z ((x:Int) == (y:Int))=_
  congr 1
  rw[bO,RW,am];lia
 have d:∀(n x y:Nat),Hd S (n+1) (.int x) (.int y)=Z (decide (x<y)):=λn x y=>by
  show Z (decide ((x:Int)<(y:Int)))=_
  congr 1
  rw[bO,am,am];lia
 unfold gLt d8;rw[show(60:Nat)=58+1+1 from rfl,Hd];simp only[pD,NC,dZ,QC,LQ,c,d,oS1];unfold zz;by_cases h1:a.1=b.1
 ·by_cases h2:a.2=b.2
  ·simp[h1,h2]
  ·simp[h1,h2]
 ·simp[h1]
theorem FY{a b:Nat×Nat}(h:zz a b=J)(c:b≠a):zz b a=M:=by
 unfold zz at *
 obtain⟨a1,a2⟩:=a;obtain⟨b1,b2⟩:=b;simp at *
 lia
theorem few:∀{N:Nat} {l:List Nat},l.Nodup->(∀x∈l,x<N)->l.length<=N
 |0,l,_,h=>by
  cases l with
  |nil=>simp
  |cons a l=>have:=h a mS1;lia
 |N+1,l,n,h=>by
  by_cases d:N∈l
  ·have h1:=few (N:=N) (l:=l.erase N) (n.erase N) fun x c=>by
    have b:=(List.Nodup.mem_erase_iff n).mp c;have:=h x b.2;have:=b.1;lia
   have:=List.length_erase_of_mem d;lia
  ·have:=few (N:=N) (l:=l) n fun x c=>by
    have h1:=h x c;have:x≠N:=λz=>d (z ▸ c);lia
   lia
theorem NO{A B:Nat}{l:List (Nat×Nat)}(n:l.Nodup)(h:∀x∈l,x.1<A/\x.2<B):l.length<=A*B:=by
 have h1:=few (N:=A*B) (l:=l.map λx=>x.1*B+x.2) ?_ ?_
 ·simpa using h1
 ·rw[List.nodup_iff_pairwise_ne,cR];refine List.Pairwise.imp_of_mem ?_ n;intro x y b g a e;apply a;have h1:=h x b;have h2:=h y g;have ex:x.1=(x.1*B+x.2)/B:=by rw[Nat.mul_comm,Nat.mul_add_div (by lia),Nat.div_eq_of_lt h1.2,Nat.add_zero]
  have d:y.1=(y.1*B+y.2)/B:=by rw[Nat.mul_comm,Nat.mul_add_div (by lia),Nat.div_eq_of_lt h2.2,Nat.add_zero]
  have c:x.1=y.1:=by rw[ex,d,e]
  rw[c]at e;exact Prod.ext c (by lia)
 ·intro z f;obtain⟨x,b,rfl⟩:=cf.mp f;have h1:=h x b;have:(x.1+1)*B<=A*B:=c8 B h1.1;rw[Nat.add_mul]at this;lia
theorem zP{α:Type}[BEq α][LawfulBEq α]{l:List α}{x:α}(h:x∈l):∃j,l.findIdx? (· == x)=Z j/\l[j]?=Z x:=by
 cases e:l.findIdx? (· == x)with
 |none=>
  rw[List.findIdx?_eq_none_iff]at e;have:=e x h;simp at this
 |some j=>
  obtain⟨a,h1,_⟩:=bZ.mp e;exact⟨j,O,by rw[gG1 a];simp at h1;rw[h1]⟩
theorem CH{S:Sto}{n:Nat}{x:Nat×Nat}:∀row:List (Nat×Nat),D3 (i8 S (n+2)) (pD x) (row.map pD)=Z (row.contains x)
 |[]=>rfl
 |y::row=>by
  rw[mP1,D3,wD,CH row,b5,show(y == x)=(x == y)from Bool.beq_comm];rfl
theorem GR{row:List (Nat×Nat)}{x:Nat×Nat}(h:S[n]?=Z (.lst (row.map pD)))(q:Q (.bl (!row.contains x),S)):W (fW (pD x) (.ref n) S) Q:=by
 refine W.of ?_ q;simp only[fW,h,jk,mQ,fR h,oS1,d8,show(60:Nat)=58+2 from rfl,CH,oP1]
theorem Hs{m:FE}{lo hi:FO}{r:Ev}{xs:List D}{a b:Option Int}(hm:m r S=Z (.tup xs,S))(c:lo r S=Z (a,S))(d:hi r S=Z (b,S))(q:Q (.tup (Mi.ma xs a b),S)):W (kE m lo hi r S) Q:=by
 refine W.of ?_ q;unfold kE;rw[hm,oS1];dsimp only;rw[c,oS1];dsimp only;rw[d,oS1];simp only[sj,iD,oP1,bF1,QA]
def M3(w:dJ)(cp i j:Nat)(F:List (TK×D)):Prop:=∀r d e,At w r d e->zz (r,d) e=M->(r<i\/(r=i/\d<j)) -> ∀k,k<cp->D0 w cp F r k d/\D0 w cp F e.1 k e.2
inductive AI (w:dJ)(cp m n:Nat)(T:Sto):Nat->Ev->Sto->Prop
 |mk (i:Nat) (F:List (TK×D)) (G:Sto) (o':Ob) (x4 x5 x6 x7 x8 x9 x10:Option D) (hi:i<=m) (don:M3 w cp i 0 F) (hF:F.length<=32*i) (ho:fx o' (n+16*i)):AI w cp m n T i [some (.ref 0),some (webD w),some (.int cp),some (.ref (T.length+1)),x4,x5,x6,x7,x8,x9,x10,none,none,none,none] (o'::(T++dO F::G))
inductive AJ (w:dJ)(cp n:Nat)(T:Sto)(i:Nat)(row:List (Nat×Nat)):Nat->Ev->Sto->Prop
 |mk (j:Nat) (F:List (TK×D)) (G:Sto) (o':Ob) (x6 x7 x8 x9 x10:Option D) (hj:j<=row.length) (don:M3 w cp i j F) (hF:F.length<=32*i+8*j) (ho:fx o' (n+16*i+4*j)):AJ w cp n T i row j [some (.ref 0),some (webD w),some (.int cp),some (.ref (T.length+1)),some (.int (i:Nat)),some (.tup (row.map pD)),x6,x7,x8,x9,x10,none,none,none,none] (o'::(T++dO F::G))
theorem wN{l:Nat}{w:dJ}{Q:Fl×Ev×Sto->Prop}(hw:tL m w)(hm:m<=8)(hc:l<=4)(ho:fx o n)(hn:n<=2^41)(q:∀F G o' U N L K ao y s,fx o' (n+128)->(∀r d e k,At w r d e->k<l->D0 w l F r k d) ->
   Q (.nx,[Z (.ref 0),Z (webD w),Z (.int l),Z (.ref (T.length+1)),U,N,L,K,ao,y,s,Y,Y,Y,Y],o'::(T++dO F::G))):
  W (fF (qa (dG (mV 1) dH)) (gT 2 (gCs (gN 4) (gCs (gN 5) gNl))) iw [Z (.ref 0),Z (webD w),Z (.int l),Z (.ref (T.length+1)),Y,Y,Y,Y,Y,Y,Y,Y,Y,Y,Y] (o::(T++dO []::[]))) Q:=by
 unfold fF;rw[dN];refine rT (xs:=w.map λrow=>.tup (row.map pD)) O ?_;refine eK (AI w l m n T) _ 0 _ _ (.mk 0 [] [] o _ _ _ _ _ _ _ (bi _) (λr d e h1 h2 H=>by lia) (by simp) ho) (λ_ _ _ _=>rfl) ?_ ?_
 ·rintro i dd B r S ⟨F,G,o',U,N,L,K,ao,y,s,hi,c,au,f⟩;rw[gD,gP1,Option.map_map]at B;obtain⟨row,g,rfl⟩:=Sb B;have A:=(R9 g).1;rw[hw.len]at A;have hr4:=hw.le i row g;rw[bL]at *
  unfold Function.comp;walk_at"w";unfold iw fF;rw[dN];refine rT (xs:=row.map pD) O ?_;refine eK (AJ w l n T i row) _ 0 _ _ (.mk 0 F G o' _ _ _ _ _ (bi _) c (by lia) (f.more (by lia))) (λ_ _ _ _=>rfl) ?_ ?_
  ·rintro j dd B r S ⟨F,G,o',L,K,ao,y,s,hj,c,au,f⟩;rw[gD,gP1,Option.map_map]at B;obtain⟨e,he,rfl⟩:=Sb B;have C:=(R9 he).1;have E:At w i j e:=⟨row,g,he⟩;have t:=hw.back i j e E;rw[bL]at *
   unfold Function.comp pD;walk_at"w";unfold jM;have el:∀S,gLt (D.tup [D.int (i:Int),D.int (j:Int)]) (D.tup [D.int (e.1:Int),D.int (e.2:Int)]) S=Z (.bl (zz (i,j) e),S):=λS=>J3 (a:=(i,j)) (b:=e);unfold ft;rw[dN];refine W.of (x:=(zz (i,j) e,o'::(T++dO F::G))) ?_ ?_
   ·simp only[mB,m2,eG,dG,dH,mV,gC1,cS,cV,oP1,oS1,lC1,bf,b2,el,cU,ak (show 2<=dy by decide)]
   dsimp only;have up:∀F',zz (i,j) e=M->GW F F' (i,j) e->(∀k,k<l->D0 w l F' i k j/\D0 w l F' e.1 k e.2)->M3 w l i (j+1) F':=λF' p kp new r d v h1 h2 H k u=>by
    by_cases P:r=i/\d=j
    ·obtain⟨rfl,rfl⟩:=P;obtain rfl:=j2 E h1;exact new k u
    ·have V:r<i\/(r=i/\d<j):=by lia
     have R:(r,d)≠(i,j):=λz=>by injection z with z1 z2;lia
     have av:(r,d)≠e:=λz=>by
      rw[<- z]at p;unfold zz at p;simp at p;lia
     have b1:=(hw.back r d v h1).1;have n3:v≠(i,j):=λz=>by
      rw[z]at b1;exact av (j2 b1 E)
     have n4:v≠e:=λz=>by
      rw[z]at b1;exact R (j2 b1 t.1)
     have:=c r d v h1 h2 V k u;refine⟨this.1.keep kp R av λe2 h=>?_,this.2.keep kp n3 n4 λe2 h=>?_⟩
     ·rw[<- j2 h1 h];exact⟨n3,n4⟩
     ·rw[<- j2 b1 h];exact⟨R,av⟩
   have X:zz (i,j) e=J->M3 w l i (j+1) F:=λp r d v h1 h2 H k u=>by
    by_cases P:r=i/\d=j
    ·obtain⟨rfl,rfl⟩:=P;obtain rfl:=j2 E h1;rw[p]at h2;cases h2
    ·exact c r d v h1 h2 (by lia) k u
   cases hl:zz (i,j) e with
   |false=>
    rw[aj (by decide)];exact dV.mpr ⟨O,.mk _ F G o' _ _ _ _ _ C (X hl) (by lia) (f.more (by lia))⟩
   |true=>
    rw[ak O];refine Ew (w:=w) f (by lia) hc E t.1 t.2 (by lia) λF' G' o2 x9' x10' h1 h2 H h4=>?_;exact⟨O,.mk _ F' G' o2 _ _ _ _ _ C (up F' hl h2 H) (by lia) (h1.more (by lia))⟩
  ·rintro r S ⟨F,G,o',L,K,ao,y,s,hj,c,au,f⟩;rw[gO,lM1,bL]at *
   refine⟨O,.mk _ F G o' _ _ _ _ _ _ _ A (λr d e h1 h2 H=>c r d e h1 h2 ?_) (by lia) (f.more (by lia))⟩;rcases(show r<i\/r=i by lia)with h|rfl
   ·exact .inl h
   ·obtain⟨wq,aq,g2⟩:=h1;rw[g]at aq;cases aq;exact .inr ⟨O,(R9 g2).1⟩
 ·rintro r S ⟨F,G,o',U,N,L,K,ao,y,s,hi,c,au,f⟩;rw[gO,lM1,bL,hw.len]at *
  refine q F G o' _ _ _ _ _ _ _ (f.more (by lia)) λr d e k h u=>?_;have I:∀r d e,At w r d e->r<m:=λr d e h=>by
   obtain⟨row,aq,_⟩:=h;rw[<- hw.len];exact(R9 aq).1
  have t:=hw.back r d e h;cases hl:zz (r,d) e with
  |true=>exact(c r d e h hl (.inl (I r d e h)) k u).1
  |false=>exact(c e.1 e.2 (r,d) t.1 (FY hl t.2) (.inl (I _ _ _ t.1)) k u).2
def gK(F:List (TK×D))(x:Nat×Nat)(d:Nat):(Nat×Nat)×Nat:=match dU F (tk3 x.1 x.2 d)with
 |some (.tup [.int a,.int b,.int c])=>((a.toNat,b.toNat),c.toNat)
 |_=>((0,0),0)
def deg(w:dJ)(r:Nat):Nat:=(w.getD r []).length
def Fp(p:(Nat×Nat)×Nat):D:=r9 p.1.1 p.1.2 p.2
structure MI (m cp:Nat)(met:List (Nat×Nat)):Prop where
 nd:met.Nodup
 inn:∀x∈met,x.1<m/\x.2<cp
theorem MI.few(i:MI m a met)(h:m*a<=8):met.length<=8:=aD (NO i.nd i.inn) h
def All(w:dJ)(cp:Nat)(F:List (TK×D)):Prop:=∀r d e k,At w r d e->k<cp->D0 w cp F r k d
theorem wh{w:dJ}{c d:Nat}{x:Nat×Nat}(hw:tL m w)(all:All w c F)(hx:x.1<m/\x.2<c)(hd:d<deg w x.1):
  dU F (tk3 x.1 x.2 d)=Z (Fp (gK F x d))/\((gK F x d).1.1<m/\(gK F x d).1.2<c)/\gK F (gK F x d).1 (gK F x d).2=(x,d)/\(gK F x d).2<deg w (gK F x d).1.1:=by
 obtain⟨row,a⟩:∃row,w[x.1]?=some row:=⟨_,gG1 (by rw[hw.len];exact hx.1)⟩;have b:d<row.length:=by
  unfold deg at hd;rw[bH,a,b0]at hd;exact hd
 obtain⟨e,h,h1,h2,f,i⟩:=all x.1 d row[d] x.2 ⟨row,a,gG1 b⟩ hx.2;have k:gK F x d=((e.1,h),e.2):=by
  unfold gK;rw[f];simp[r9]
 rw[k];have eb:gK F (e.1,h) e.2=(x,d):=by
  unfold gK;rw[i];simp[r9]
 refine⟨f,⟨hw.to x.1 d e h1,h2⟩,eb,?_⟩;obtain⟨g,j,l⟩:=(hw.back x.1 d e h1).1;unfold deg;rw[bH,j];exact(R9 l).1
def Cl(w:dJ)(F:List (TK×D))(met:List (Nat×Nat))(i j:Nat):Prop:=∀a d x,met[a]?=Z x->d<deg w x.1->(a<i\/(a=i/\d<j))->(gK F x d).1∈met
def Jn(w:dJ)(F:List (TK×D))(met:List (Nat×Nat)):Prop:=∀b y,1<=b->met[b]?=Z y -> ∃a d x,a<b/\met[a]?=Z x/\d<deg w x.1/\(gK F x d).1=y
theorem Jn.snoc{w:dJ}{d:Nat}{x:Nat×Nat}(j:Jn w F met)(ha:met[a]?=Z x)(hd:d<deg w x.1):Jn w F (met++[(gK F x d).1]):=by
 have f:=(R9 ha).1;intro b y m c;by_cases g:b<met.length
 ·rw[gL1 g]at c;obtain⟨k,l,i,h,o,p,n⟩:=j b y m c;exact⟨k,l,i,h,by rw[gL1 (by lia)];exact o,p,n⟩
 ·have:=(R9 c).1;rw[lA1,aY]at this;have e:b=met.length:=by lia
  subst e;rw[c5]at c;cases c;exact⟨a,d,x,f,by rw[gL1 f];exact ha,hd,O⟩
theorem L1{x:Nat×Nat}{d:Nat}(h:S[n]?=Z (dO F))(a:dU F (tk3 x.1 x.2 d)=Z (Fp (gK F x d))):dL (.ref n) (r9 x.1 x.2 d) S=Z (Fp (gK F x d),S):=by
 obtain⟨p,e,rfl⟩:=DT (Q:=λp=>p=(Fp (gK F x d),S)) h JP a O;exact e
theorem N2{f:FN}{a b:FE}{r:Ev}(h:W (a r S) λp=>W (b r p.2) λq=>W (f [p.1,q.1] q.2) Q):W (m2 f a b r S) Q:=by
 unfold m2;rw[dN];exact h.mono λp c=>by rw[dN];exact c
theorem NS{p:(Nat×Nat)×Nat}:D.tup (Mi.ma [.int p.1.1,.int p.1.2,.int p.2] Y (Z 2))=pD p.1:=rfl
theorem LJ{V:Sto}{A:Nat}{w:dJ}{x4 K x6 N L x9 t s v:Option D}{Q:Fl×Ev×Sto->Prop}(hw:tL m w)(hm0:0<m)(hc0:0<A)(h8:m*A<=8)(all:All w A F)(hV:V[n]? = some (dO F))(q:∀met T I wq y12,MI m A met->0<met.length->Cl w F met met.length 0->Jn w F met->Q (.nx,[some (.ref 0),some (webD w),some (.int A),some (.ref (n+1)),T,K,I,N,L,wq,t,some (.ref (V.length+1)),y12,s,v],o::(V++[.lst (met.map pD)]))):
  W (qp iu iq 100000 [Z (.ref 0),Z (webD w),Z (.int A),Z (.ref (n+1)),x4,K,x6,N,L,x9,t,Z (.ref (V.length+1)),Z (.int ((0:Nat):Int)),s,v] (o::(V++[.lst ([(0,0)].map pD)]))) Q:=by
 have av:∀(X:Ob),(o::(V++[X]))[V.length+1]?=Z X:=λX=>by rw[gC1,dP];rfl
 have gs:∀(au:Sto),(o::(V++au))[n+1]?=Z (dO F):=λau=>by rw[gC1,gL1 (R9 hV).1];exact hV
 refine tV (λk r S=>∃met T I wq,MI m A met/\k<=met.length/\0<met.length/\Cl w F met k 0/\Jn w F met/\S=o::(V++[.lst (met.map pD)])/\r=[Z (.ref 0),Z (webD w),Z (.int A),Z (.ref (n+1)),T,K,I,N,L,wq,t,Z (.ref (V.length+1)),Z (.int (k:Nat)),s,v]) 8 ?_ 100000 0 _ _ (by lia) ⟨[(0,0)],_,_,_,⟨by simp,λx aq=>by simp at aq;subst aq;exact⟨hm0,hc0⟩⟩,by lia,by simp,λa d x _ _ h=>by lia,λb y h1 h2=>by have:=(R9 h2).1;simp at this;lia,O,O⟩;rintro k r S ⟨met,T,I,wq,U,hk,hp,cl,jn,rfl,rfl⟩;have hf:=U.few h8;unfold iu;walk_at"w";refine ed (av _) ?_;walk_at"w";rw[lM1];by_cases hlt:k<met.length
 ·rw[ak (by rw[am];lia)];refine⟨by lia,?_⟩;obtain⟨x,aq⟩:∃x,met[k]?=some x:=⟨_,gG1 hlt⟩;have R:=U.inn x (gM1 aq);obtain⟨row,C⟩:∃row,w[x.1]?=some row:=⟨_,gG1 (by rw[hw.len];exact R.1)⟩;have B:deg w x.1=row.length:=by unfold deg;rw[bH,C];rfl
  have hr4:=hw.le _ row C;unfold iq;refine d3 (λr S=>S=o::(V++[.lst (met.map pD)])/\r=[Z (.ref 0),Z (webD w),Z (.int A),Z (.ref (n+1)),Z (.int (x.1:Nat)),K,I,N,L,Z (.int (x.2:Nat)),t,Z (.ref (V.length+1)),Z (.int (k:Nat)),s,v]) ?_ ?_
  ·walk_at"w";refine j4 (i:=k) (xs:=met.map pD) (x:=pD x) (av _) (by rw[gP1,aq];rfl) ?_;rw[pD];walk_at"w"
  rintro r S ⟨rfl,rfl⟩;refine d3 (λr S=>∃c I,c[k]?=Z x/\MI m A c/\Cl w F c k row.length/\Jn w F c/\S=o::(V++[.lst (c.map pD)])/\r=[Z (.ref 0),Z (webD w),Z (.int A),Z (.ref (n+1)),Z (.int (x.1:Nat)),K,I,N,L,Z (.int (x.2:Nat)),t,Z (.ref (V.length+1)),Z (.int (k:Nat)),s,v]) ?_ ?_
  ·walk_at"w";unfold webD;refine hU (i:=x.1) (x:=.tup (row.map pD)) (by rw[gP1,C];rfl) ?_;walk_at"w";rw[lM1];refine⟨eL (by lia),?_⟩;rw[kT,Qy];refine eK (λj r S=>∃c I,j<=row.length/\c[k]?=Z x/\MI m A c/\Cl w F c k j/\Jn w F c/\S=o::(V++[.lst (c.map pD)])/\r=[Z (.ref 0),Z (webD w),Z (.int A),Z (.ref (n+1)),Z (.int (x.1:Nat)),K,I,N,L,Z (.int (x.2:Nat)),t,Z (.ref (V.length+1)),Z (.int (k:Nat)),s,v]) _ 0 _ _ ⟨met,_,by lia,aq,U,cl,jn,O,O⟩ (λ_ _ _ _=>rfl) ?_ ?_
   ·rintro j dd hd r S ⟨c,z6,hj,f,l,E,u,rfl,rfl⟩;have H:=(R9 hd).1;rw[lM1,cB]at H;rw[gP1,cr H]at hd;cases hd;rw[bL]at *
    have hf':=l.few h8;obtain⟨n1,⟨n2,n3⟩,_⟩:=wh hw all R (d:=j) (by rw[B];exact H);have sl:∀(r:Ev) (S:Sto) (P:D×Sto->Prop),S[n+1]?=Z (dO F)->r[3]?=Z (Z (.ref (n+1)))->r[4]?=Z (Z (.int (x.1:Nat)))->r[9]?=Z (Z (.int (x.2:Nat)))->r[6]?=Z (Z (.int (j:Nat)))->P (pD (gK F x j).1,S)->W (kE (m2 (b2 dL) (mV 3) (eG (dG (mV 4) (dG (mV 9) (dG (mV 6) dH))))) i0 (js (mC (D.int (2)))) r S) P:=by
     intro r S P hS h3 h4 h9 h6 p;refine Hs (xs:=[.int (gK F x j).1.1,.int (gK F x j).1.2,.int (gK F x j).2]) (a:=Y) (b:=Z 2) ?_ O O p;have:=L1 hS n1;simp only[m2,eG,dG,dH,mV,h3,h4,h9,h6,cV,oP1,oS1,lC1,bf,b2,cU,ak (show 3<=dy by decide)];exact this
    walk_at"w";unfold jL ft mB;rw[dN,dN];refine N2 ?_;refine sl _ _ _ (gs _) O O O O ?_;walk_at"w";refine GR (av _) ?_;walk_at"w";have step:∀g:List (Nat×Nat),(∀a,a<=k->g[a]?=c[a]?)->(∀z∈c,z∈g)->(gK F x j).1∈g->Cl w F g k (j+1):=λg hg hs hm a d y h1 h2 h3=>by
     rw[hg a (by lia)]at h1;by_cases hz:a=k/\d=j
     ·obtain⟨rfl,rfl⟩:=hz;rw[f]at h1;cases h1;exact hm
     ·exact hs _ (E a d y h1 h2 (by lia))
    have hkl:=(R9 f).1;by_cases G:(gK F x j).1∈c
    ·rw[aj (by simpa using G)];exact⟨c,_,by lia,f,l,step c (λ_ _=>rfl) (λ_ h=>h) G,u,O,O⟩
    ·rw[ak (by simpa using G)];refine ja ?_;walk_at"w";refine⟨V.length+1,c.map pD,O,av _,?_⟩;refine sl _ _ _ (gs _) O O O O ?_;walk_at"w";refine(k8 (av _)).mpr ⟨dR (by rw[lM1];lia),?_⟩;refine⟨c++[(gK F x j).1],_,by lia,by rw[gL1 hkl];exact f,⟨?_,?_⟩,step _ (λa ha=>gL1 (by lia)) (λz h=>aH _ h) (by simp),u.snoc f (by rw[B];exact H),?_,O⟩
     ·refine bx.mpr ⟨l.nd,by simp,λa ha b hb e=>?_⟩;rw[cv]at hb;exact G (by rw[<- hb,<- e];exact ha)
     ·intro y ao;rcases aG.mp ao with ao|ao
      ·exact l.inn y ao
      ·rw[cv]at ao;subst ao;exact⟨n2,n3⟩
     ·rw[cD,cZ _ _ (nR1 _),cF,cc];rfl
   ·rintro r S ⟨c,z6,hj,f,l,E,u,rfl,rfl⟩;rw[lM1,cB,bL]at *
    exact⟨O,c,_,f,l,E,u,O,O⟩
  rintro r S ⟨c,z6,f,l,E,u,rfl,rfl⟩;have hlt':=(R9 f).1;walk_at"w";refine⟨c,_,_,_,l,by lia,by lia,λa d y h1 h2 h3=>E a d y h1 h2 ?_,u,O,by push_cast;rfl⟩;rcases(show a<k\/a=k by lia)with h|rfl
  ·exact .inl h
  ·rw[f]at h1;cases h1;exact .inr ⟨O,by rw[<- B];exact h2⟩
 ·rw[aj (by rw[am];lia)];have e:k=met.length:=by lia
  subst e;exact q met _ _ _ _ U hp cl jn
def D4(met:List (Nat×Nat))(y:Nat×Nat):Nat:=(met.findIdx? (· == y)).getD 0
def sw(w:dJ)(F:List (TK×D))(met:List (Nat×Nat))(x:Nat×Nat):List (Nat×Nat):=(af (deg w x.1)).map λd=>(D4 met (gK F x d).1,(gK F x d).2)
def tT(w:dJ)(F:List (TK×D))(met:List (Nat×Nat)):dJ:=met.map (sw w F met)
theorem mP{y:Nat×Nat}(h:y∈met):met.findIdx? (· == y)=Z (D4 met y)/\met[D4 met y]?=Z y:=by
 obtain⟨j,h1,h2⟩:=zP h;unfold D4;rw[h1];exact⟨O,h2⟩
theorem pN{w:dJ}{d:Nat}{e:Nat×Nat}:At (tT w F met) r d e ↔ ∃x,met[r]?=Z x/\d<deg w x.1/\e=(D4 met (gK F x d).1,(gK F x d).2):=by
 unfold At tT;rw[gP1];constructor
 ·rintro⟨row,h1,h2⟩;obtain⟨x,c,rfl⟩:=Sb h1;unfold sw at h2;rw[gP1]at h2;obtain⟨f,a,rfl⟩:=Sb h2;have b:=(R9 a).1;rw[cB]at b;rw[cr b]at a;cases a;exact⟨x,c,b,O⟩
 ·rintro⟨x,h1,h2,rfl⟩;refine⟨sw w F met x,by rw[h1];rfl,?_⟩;unfold sw;rw[gP1,cr h2];rfl
theorem Kd{w:dJ}(hw:tL m w)(r:Nat):deg w r<=4:=by
 unfold deg;rw[bH];cases h:w[r]? with
 |none=>simp
 |some row=>exact hw.le r row h
theorem AF{l:Nat}{w:dJ}(hw:tL m w)(all:All w l F)(o:MI m l met)(nd:met.Nodup)(k:Cl w F met met.length 0)(v:Jn w F met):DM met.length (tT w F met):=by
 refine⟨⟨by unfold tT;rw[lM1],λi row h=>?_,λr d e h=>?_,λj h1 h2=>?_⟩,λr d e h=>?_⟩
 ·unfold tT at h;rw[gP1]at h;obtain⟨x,_,rfl⟩:=Sb h;unfold sw;rw[lM1,cB];exact Kd hw _
 ·obtain⟨x,h1,h2,rfl⟩:=pN.mp h;have:=(mP (k r d x h1 h2 (.inl (R9 h1).1))).2;exact(R9 this).1
 ·obtain⟨y,g⟩:∃y,met[j]?=some y:=⟨_,gG1 h2⟩;obtain⟨a,d,x,s,B,n,A⟩:=v j y h1 g;refine⟨a,d,_,s,pN.mpr ⟨x,B,n,O⟩,?_⟩;dsimp only;rw[A];have c:=(mP (gM1 g)).2;obtain⟨p,b⟩:=R9 c;obtain⟨t,f⟩:=R9 g;exact(aI nd).mp (by rw[b,f])
 ·obtain⟨x,h1,h2,rfl⟩:=pN.mp h;have C:=o.inn x (gM1 h1);obtain⟨_,_,u,z⟩:=wh hw all C h2;have q:=(mP (k r d x h1 h2 (.inl (R9 h1).1))).2;refine pN.mpr ⟨_,q,z,?_⟩;rw[u];dsimp only;have c:=(mP (gM1 h1)).2;obtain⟨p,b⟩:=R9 c;obtain⟨t,f⟩:=R9 h1;rw[(aI nd).mp (b.trans f.symm)]
structure Fb (w cw:dJ)(rs:List Nat):Prop where
 at_:∀(i d:Nat) (e:Nat×Nat),At cw i d e->At w (rs.getD i 0) d (rs.getD e.1 0,e.2)
 deg:∀(i:Nat) (row:List (Nat×Nat)),cw[i]?=some row -> ∃row0,w[rs.getD i 0]?=some row0/\row0.length=row.length
theorem J4{l:Nat}{w:dJ}(hw:tL m w)(all:All w l F)(j:MI m l met)(n:Cl w F met met.length 0):Fb w (tT w F met) (met.map (·.1)):=by
 have b:∀{i:Nat} {x:Nat×Nat},met[i]?=Z x->(met.map (·.1)).getD i 0=x.1:=λ{i x} h=>by
  rw[bH,gP1,h];rfl
 refine⟨λi d e h=>?_,λi row h=>?_⟩
 ·obtain ⟨x,h1,h2,rfl⟩:=pN.mp h;have f:=j.inn x (gM1 h1);have g:=(mP (n i d x h1 h2 (.inl (R9 h1).1))).2;obtain ⟨row,a⟩:∃ row,w[x.1]? = some row:=⟨_,gG1 (by rw [hw.len];exact f.1)⟩;have c:d<row.length:=by
   unfold deg at h2;rw[bH,a,b0]at h2;exact h2
  obtain⟨e,q,k,t,o,u⟩:=all x.1 d row[d] x.2 ⟨row,a,gG1 c⟩ f.2;have p:gK F x d=((e.1,q),e.2):=by
   unfold gK;rw[o];simp[r9]
  have s:e=row[d]:=by
   obtain⟨r,a1,a2⟩:=k;rw[a]at a1;cases a1;rw[gG1 c]at a2;exact(Option.some.inj a2).symm
  rw[p]at g ⊢;dsimp only at g ⊢;rw[b h1,b g];exact k
 ·unfold tT at h;rw[gP1]at h;obtain⟨x,h1,rfl⟩:=Sb h;have f:=j.inn x (gM1 h1);obtain⟨row,a⟩:∃row,w[x.1]?=some row:=⟨_,gG1 (by rw[hw.len];exact f.1)⟩;refine⟨row,by rw[b h1];exact a,?_⟩;unfold sw Law.deg;rw[lM1,cB,bH,a];rfl
theorem xM{a b X:Ob}{V G:Sto}:(o::(V++a::b::(G++[X])))[V.length+(G.length+2)+1]?=Z X:=by
 rw[gC1,eN,gC1,gC1,dP];rfl
inductive CI (w:dJ)(cp n:Nat)(T:Sto):Ev->Sto->Prop
 |mk (F:List (TK×D)) (G:Sto) (o':Ob) (x4 x5 x6 x7 x8 x9 x10:Option D) (ho:fx o' (n+128)) (all:All w cp F):CI w cp n T [some (.ref 0),some (webD w),some (.int cp),some (.ref (T.length+1)),x4,x5,x6,x7,x8,x9,x10,none,none,none,none] (o'::(T++dO F::G))
inductive CJ (w:dJ)(m cp:Nat)(T V:Sto)(F:List (TK×D))(o':Ob)(x5 x7 x8 x10:Option D):Ev->Sto->Prop
 |mk (met:List (Nat×Nat)) (y4 y6 y9 y12:Option D) (mi:MI m cp met) (hp:0<met.length) (cl:Cl w F met met.length 0) (jn:Jn w F met):CJ w m cp T V F o' x5 x7 x8 x10 [some (.ref 0),some (webD w),some (.int cp),some (.ref (T.length+1)),y4,x5,y6,x7,x8,y9,x10,some (.ref (V.length+1)),y12,none,none] (o'::(V++[.lst (met.map pD)]))
theorem Gz{g:Nat}{w:dJ}(hw:tL m w)(R:0<m)(aq:0<g)(hc:g<=4)(h8:m*g<=8)(ho:fx o n)(hn:n<=2^40)(hT:T.all (Ob.und (T.length+1))=M)(q:∀N cw rs o',0<N->N<=8->DM N cw->rs.length=N->Fb w cw rs->fx o' (n+128)->Q (.tup [webD cw,.tup (nmD rs)],o'::T)):W (dI 3 gC [.ref 0,webD w,.int g] (o::T)) Q:=by
 have U:m<=8:=aD (Nat.le_mul_of_pos_right m aq) h8;refine me O O hT ?_;unfold gC;refine iO ?_;unfold ml;refine d3 (λr S=>S=o::(T++dO []::[])/\r=[Z (.ref 0),Z (webD w),Z (.int g),Z (.ref (T.length+1)),Y,Y,Y,Y,Y,Y,Y,Y,Y,Y,Y]) ?_ ?_
 ·have d0:dO [] = .dct []:=ak O;rw[d0]
  wp_walk using oX
 rintro r S ⟨rfl,rfl⟩;refine d3 (CI w g n T) ?_ ?_
 ·exact wN hw U hc ho (by lia) λF G o' x4 p x6 v u x9 c h1 h2=>⟨O,.mk F G o' _ _ _ _ _ _ _ h1 h2⟩
 rintro r S ⟨F,G,o',x4,p,x6,v,u,x9,c,K,all⟩;generalize hV:T++dO F::G=V;have t:V[T.length]?=Z (dO F):=by rw[<- hV,dP];rfl
 refine d3 (λr S=>S=o'::(V++[.lst ([(0,0)].map pD)])/\r=[Z (.ref 0),Z (webD w),Z (.int g),Z (.ref (T.length+1)),x4,p,x6,v,u,x9,c,Z (.ref (V.length+1)),Z (.int ((0:Nat):Int)),Y,Y]) ?_ ?_
 ·walk_at"w";exact⟨O,O⟩
 rintro r S ⟨rfl,rfl⟩;refine d3 (CJ w m g T V F o' p v u c) ?_ ?_
 ·exact LJ hw R aq h8 all t λmet z H B k h1 h2 h3 h4=>⟨O,.mk met _ _ _ _ h1 h2 h3 h4⟩
 rintro r S ⟨met,z,H,B,k,C,hp,cl,jn⟩;have hf:=C.few h8;refine d3 (λr S=>S=o'::(V ++ .lst (met.map pD) :: .lst []::[])/\r=[Z (.ref 0),Z (webD w),Z (.int g),Z (.ref (T.length+1)),z,p,H,v,u,B,c,Z (.ref (V.length+1)),k,Z (.ref (V.length+2)),Y]) ?_ ?_
 ·walk_at"w"
 rintro r S ⟨rfl,rfl⟩;have A:∀(X:Ob) (au:Sto),(o'::(V++X::au))[V.length+1]?=Z X:=λX au=>by rw[gC1,dP];rfl
 have gf:∀(X wq:Ob) (au:Sto),(o'::(V++X::wq::au))[V.length+2]?=Z wq:=λX wq au=>by rw[gC1,eN];rfl
 have gs:∀(au:Sto),(o'::(V++au))[T.length+1]?=Z (dO F):=λau=>by rw[gC1,gL1 (R9 t).1];exact t
 let rD:List (Nat×Nat)->D:=λrow=>.tup (row.map pD)
 refine d3 (λr S=>∃G2 z B l,S=o'::(V ++ .lst (met.map pD) :: .lst ((tT w F met).map rD)::G2)/\r=[Z (.ref 0),Z (webD w),Z (.int g),Z (.ref (T.length+1)),z,p,H,v,u,B,c,Z (.ref (V.length+1)),k,Z (.ref (V.length+2)),l]) ?_ ?_
 ·walk_at"w";refine ed (A _ _) ?_;refine eK (λi r S=>∃G2 z B l,i<=met.length/\S=o'::(V ++ .lst (met.map pD) :: .lst (((tT w F met).take i).map rD)::G2)/\r=[Z (.ref 0),Z (webD w),Z (.int g),Z (.ref (T.length+1)),z,p,H,v,u,B,c,Z (.ref (V.length+1)),k,Z (.ref (V.length+2)),l]) _ 0 _ _ ⟨[],_,_,_,by lia,O,O⟩ ?_ ?_ ?_
  ·rintro i r S ⟨G2,_,_,_,_,rfl,_⟩;exact fq (A _ _)
  ·rintro i dd s r S ⟨G2,z4,z9,I,hi,rfl,rfl⟩;dsimp only at s;rw[gP1]at s;obtain⟨x,L,rfl⟩:=Sb s;have P:=(R9 L).1;have ao:=C.inn x (gM1 L);obtain⟨row,h⟩:∃row,w[x.1]?=some row:=⟨_,gG1 (by rw[hw.len];exact ao.1)⟩;have E:deg w x.1=row.length:=by unfold deg;rw[bH,h];rfl
   have hr4:=hw.le _ row h;rw[bL]at *
   rw[pD];walk_at"w";unfold jK;refine d3 (λr S=>S=o'::(V ++ .lst (met.map pD) :: .lst (((tT w F met).take i).map rD)::(G2++[.lst ((af (deg w x.1)).map λd=>Fp (gK F x d))]))/\r=[Z (.ref 0),Z (webD w),Z (.int g),Z (.ref (T.length+1)),Z (.int (x.1:Nat)),p,H,v,u,Z (.int (x.2:Nat)),c,Z (.ref (V.length+1)),k,Z (.ref (V.length+2)),Z (.ref (V.length+(G2.length+2)+1))]) ?_ ?_
   ·walk_at"w";rw[show webD w = .tup (w.map λrow=>.tup (row.map pD))from rfl];refine hU (i:=x.1) (x:=.tup (row.map pD)) (by rw[gP1,h];rfl) ?_;walk_at"w";rw[lM1];refine⟨eL (by lia),?_⟩;rw[kT,Qy,<- E];refine ji (f:=λj:Nat=>D.int j) (λd=>Fp (gK F x d)) (λr=>∃y,r=[y,Z (.ref (T.length+1)),Z (.int (x.1:Nat)),Z (.int (x.2:Nat))]) O (af (deg w x.1)) _ ⟨_,O⟩ ?_ ?_
    ·rintro d s r ⟨y,rfl⟩;have n1:=(wh hw all ao (aC.mp s)).1;walk_at"w";refine W.of (L1 (gs _) n1) ⟨O,O,_,O⟩
    ·rintro r' _;refine⟨dR (by rw[lM1,cB];lia),?_⟩;walk_at"w"
   rintro r S ⟨rfl,rfl⟩;walk_at"w";refine ja ?_;walk_at"w";refine⟨V.length+2,_,O,gf _ _ _,?_⟩;refine ed xM ?_;refine ji (f:=λd=>Fp (gK F x d)) (λd=>pD (D4 met (gK F x d).1,(gK F x d).2)) (λr=>∃y,r=[y,Z (.ref (V.length+1))]) (fq xM) (af (deg w x.1)) _ ⟨_,O⟩ ?_ ?_
   ·rintro d s r ⟨y,rfl⟩;have av:=cl i d x L (aC.mp s) (.inl P);walk_at"w";refine ja ?_;walk_at"w";refine⟨V.length+1,_,O,A _ _,?_⟩;refine Hs (xs:=[.int (gK F x d).1.1,.int (gK F x d).1.2,.int (gK F x d).2]) (a:=Y) (b:=Z 2) O O O ?_;rw[NS];walk_at"w";refine Kv (e:=(gK F x d).1) (A _ _) (by lia) (mP av).1 ?_;refine hU (i:=2) (xs:=[.int (gK F x d).1.1,.int (gK F x d).1.2,.int (gK F x d).2]) (x:=.int (gK F x d).2) O ?_;walk_at"w";exact⟨O,_,O⟩
   ·rintro r' _;refine⟨dR (by rw[lM1,cB];lia),?_⟩;walk_at"w";refine ed (xs:=(af (deg w x.1)).map λd=>pD (D4 met (gK F x d).1,(gK F x d).2)) ?_ ?_
    ·rw[show∀(a b:Ob),G2++[a,b]=(G2++[a])++[b]from λa b=>by simp];have:=xM (o:=o') (a:=.lst (met.map pD)) (b:=.lst (((tT w F met).take i).map rD)) (V:=V) (G:=G2++[.lst ((af (deg w x.1)).map λd=>Fp (gK F x d))]) (X:=.lst ((af (deg w x.1)).map λd=>pD (D4 met (gK F x d).1,(gK F x d).2)));rw[<- this]
     congr 1
     simp
     try lia
    refine(k8 (gf _ _ _)).mpr ⟨dR (by rw[lM1,aR];lia),?_⟩;refine⟨G2++[.lst ((af (deg w x.1)).map λd=>Fp (gK F x d)),.lst ((af (deg w x.1)).map λd=>pD (D4 met (gK F x d).1,(gK F x d).2))],_,_,_,by lia,?_,O⟩
    ·rw[cD,cZ _ _ (by lia),show V.length+1-V.length=1 by lia,cg];rw[show(tT w F met)[i]?=Z (sw w F met x) by unfold tT;rw[gP1,L];rfl];rw[Option.toList_some,cc];rw[show[sw w F met x].map rD=[.tup ((af (deg w x.1)).map λd=>pD (D4 met (gK F x d).1,(gK F x d).2))] by simp[rD,sw,Function.comp_def]];rfl
  ·rintro r S ⟨G2,z4,z9,I,hi,rfl,rfl⟩;rw[lM1,bL,ca (by unfold tT;rw[lM1];exact nR1 _)];exact⟨O,G2,_,_,_,O,O⟩
 rintro r S ⟨G2,z4,z9,I,rfl,rfl⟩;have hcl:(tT w F met).length=met.length:=by unfold tT;rw[lM1]
 walk_at"w";refine ed (gf _ _ _) ?_;refine ed (A _ _) ?_;refine ji (f:=pD) (λx:Nat×Nat=>D.int (x.1:Nat)) (λr=>∃y0 y1,r=[y0,y1]) (fq (A _ _)) met _ ⟨_,_,O⟩ ?_ ?_
 ·rintro x L r ⟨y0,y1,rfl⟩;rw[pD];walk_at"w";exact⟨_,_,O⟩
 ·rintro r' _;refine⟨dR (by rw[lM1];lia),?_⟩;walk_at"w";refine ed (xs:=met.map λx:Nat×Nat=>D.int (x.1:Nat)) xM ?_;walk_at"w";have e:met.map (λx:Nat×Nat=>D.int (x.1:Nat))=nmD (met.map (·.1)):=by rw[nmD,bu];rfl
  rw[e];refine⟨.tup [webD (tT w F met),.tup (nmD (met.map (·.1)))],o',(dO F::G)++(.lst (met.map pD) :: .lst ((tT w F met).map rD)::(G2++[.lst (nmD (met.map (·.1)))])),?_,?_,K.und,q met.length _ _ o' hp hf (AF hw all C C.nd cl jn) (by rw[lM1]) (J4 hw all C cl) K⟩
  ·rw[<- hV,bE];rfl
  ·rw[D.und,D.unds,eA,D.unds,D.unds,D.und,fy];rfl
theorem NP(h1:1<=a)(b:a<=4):nL (.int 8) (.int a) S=Z (.int ((8/a:Nat):Int),S):=by
 match a,h1,b with
 |1,_,_=>rfl
 |2,_,_=>rfl
 |3,_,_=>rfl
 |4,_,_=>rfl
theorem kr{w:dJ}:eB (webD w) S=Z (.int w.length,S):=by
 unfold webD;rw[hZ,lM1]
theorem NN{d:Nat}(h:d<4):∃a:Nat,([.int 2,.int 2,.int 3,.int 4]:List D)[d]?=Z (.int a)/\1<=a/\a<=4:=by
 match d,h with
 |0,_=>exact⟨2,O,by decide,by decide⟩
 |1,_=>exact⟨2,O,by decide,by decide⟩
 |2,_=>exact⟨3,O,by decide,by decide⟩
 |3,_=>exact⟨4,O,by decide,by decide⟩
theorem NA(h:m<=8/a):m*a<=8:=aD (c8 a h) (Nat.div_mul_le_self 8 a)
structure Au (m:Nat)(w:dJ)(rs:List Nat):Prop where
 web:DM m w
 len:rs.length=m
 fb:∃w0,Fb w0 w rs
theorem Df(ho:fx o n)(hn:n<=2^39)(v:T.all (Ob.und (T.length+1))=M)(q:∀m w rs o',0<m->m<=8->Au m w rs->fx o' (n+300)->Q (.tup [webD w,.tup (nmD rs)],o'::T)):W (dI 1 ge [.ref 0] (o::T)) Q:=by
 refine me O O v ?_;unfold ge;refine iO ?_;unfold k7;generalize j:T++[Ob.lst [.int 2,.int 2,.int 3,.int 4]]=X;have e:X.all (Ob.und (X.length+1))=M:=by rw[<- j];exact Mr v O
 refine d3 (λr S=>∃(cp:Nat) (f:Ob),1<=cp/\cp<=4/\fx f (n+1)/\S=f::X/\r=[Z (.ref 0),Z (.int cp)]) ?_ ?_
 ·walk_at"w";refine fE ho (by lia) (by lia) (by lia) λd f a F=>?_;obtain⟨cp,h1,h2,B⟩:=NN (d:=d) (by lia);walk_at"w";refine j4 (i:=d) (xs:=[.int 2,.int 2,.int 3,.int 4]) (x:=.int cp) (by rw[gC1,dP];rfl) h1 ?_;exact⟨cp,f,h2,B,a,by rw[j],O⟩
 rintro r S ⟨cp,f,h1,u,a,rfl,rfl⟩
 wp_walk using NP h1 u
 have C:1<=8/cp:=Nat.div_pos (by lia) (by lia);refine EY a (by lia) e C (Nat.div_le_self 8 cp) λm w G h E A t=>?_;walk_at"w";refine Gz A h (by lia) u (NA E) (t.more (k:=n+101) (by lia)) (by lia) e λz cw rs y c l p g s b=>?_;refine⟨.tup [webD cw,.tup (nmD rs)],y,[Ob.lst [.int 2,.int 2,.int 3,.int 4]],by rw[j],?_,b.und,q z cw rs y c l ⟨p,g,_,s⟩ (b.more (by lia))⟩;rw[D.und,D.unds,eA,D.unds,D.unds,D.und,fy];rfl
open Classical in
def tf(P:Prop):Bool:=decide P
theorem yT{P:Prop}:tf P=M↔P:=by unfold tf;exact @decide_eq_true_iff P (Classical.propDecidable P)
theorem mz{P:Prop}(h:P):tf P=M:=yT.mpr h
theorem yU{P:Prop}(h:b=M↔P):b=tf P:=by rw[bO,yT];exact h
theorem yS{P:Prop}(h:¬ P):tf P=J:=(yU ⟨λz=>(by cases z),λz=>(h z).elim⟩).symm
theorem M6{P Q:Prop}(h:P↔Q):tf P=tf Q:=yU (yT.trans h)
section
variable{α β:Type}
def isF(k:Nat->α)(r:Nat):Prop:=∀s,s<r->k s≠k r
theorem yi(k:Nat->α)(r:Nat):∃s,s<=r/\k s=k r/\isF k s:=by
 induction r using Nat.strongRecOn with
 |ind r ih=>
  by_cases h:isF k r
  ·exact⟨r,nR1 _,O,h⟩
  ·obtain⟨s,h1,h2⟩:∃s,s<r/\k s=k r:=RD λz=>h λs a e=>z ⟨s,a,e⟩;obtain⟨u,d,b,c⟩:=ih s h1;exact⟨u,by lia,b.trans h2,c⟩
def fs(k:Nat->α)(r:Nat):Nat:=Classical.choose (yi k r)
theorem uV(k:Nat->α)(r:Nat):fs k r<=r:=(R7 (yi k r)).1
theorem uW(k:Nat->α)(r:Nat):k (fs k r)=k r:=(R7 (yi k r)).2.1
theorem wz(k:Nat->α)(r:Nat):isF k (fs k r):=(R7 (yi k r)).2.2
theorem yj{k:Nat->α}{s:Nat}(h:k s=k r)(hf:isF k s):s=fs k r:=by
 rcases b8 s (fs k r)with z|z|z
 ·exact(wz k r s z (h.trans (uW k r).symm)).elim
 ·exact z
 ·exact(hf _ z ((uW k r).trans h.symm)).elim
theorem pp{k:Nat->α}{s:Nat}:fs k r=fs k s↔k r=k s:=by
 constructor
 ·intro h;rw[<- uW k r,h];exact uW k s
 ·intro h;exact yj ((uW k r).trans h) (wz k r)
def cnt(k:Nat->α)(n:Nat):Nat:=((af n).filter λs=>tf (isF k s)).length
def cn(k:Nat->α)(r:Nat):Nat:=cnt k (fs k r)
theorem vj{k:Nat->α}:cnt k (n+1)=cnt k n+if tf (isF k n)=M then 1 else 0:=by
 unfold cnt;rw[c9,cY,lA1]
 congr 1
 cases h:tf (isF k n)with
 |true=>rw[da (by exact h)];rfl
 |false=>rw[db (by rw[h];decide)];rfl
theorem vk{k:Nat->α}{b:Nat}(h:a<=b):cnt k a<=cnt k b:=by
 induction b with
 |zero=>rw[show a=0 by lia];exact nR1 _
 |succ b ih=>
  rcases c7.mp (Nat.lt_succ_of_le h)with z|z
  ·rw[vj];have:=ih (by lia);lia
  ·rw[z];exact nR1 _
theorem wI{k:Nat->α}{b:Nat}(h:a<b)(hf:isF k a):cnt k a<cnt k b:=by
 have h1:=vk (k:=k) (show a+1<=b from h);rw[vj,mz hf,ak O]at h1;lia
theorem Dh{k:Nat->α}{s:Nat}:cn k r=cn k s↔k r=k s:=by
 constructor
 ·intro h;rw[<- pp];rcases b8 (fs k r) (fs k s)with z|z|z
  ·have:=wI z (wz k r);unfold cn at h;lia
  ·exact z
  ·have:=wI z (wz k s);unfold cn at h;lia
 ·intro h;unfold cn;rw[pp.mpr h]
theorem re{k:Nat->α}{k':Nat->β}(h:∀a b,a<m->b<m->(k a=k b↔k' a=k' b))(hr:r<m):isF k r↔isF k' r:=
 ⟨λf s c e=>f s c ((h s r (by lia) hr).mpr e),λf s c e=>f s c ((h s r (by lia) hr).mp e)⟩
theorem CZ{k:Nat->α}{k':Nat->β}(h:∀a b,a<m->b<m->(k a=k b↔k' a=k' b))(hr:r<m):fs k r=fs k' r:=by
 have h1:=uV k r;exact yj ((h _ _ (by lia) hr).mp (uW k r)) ((re h (by lia)).mp (wz k r))
theorem zZ{k:Nat->α}{k':Nat->β}(h:∀a b,a<m->b<m->(k a=k b↔k' a=k' b))(hn:n<=m):cnt k n=cnt k' n:=by
 unfold cnt
 congr 1
 refine List.filter_congr λs c=>?_;exact M6 (re h (by have:=aC.mp c;lia))
theorem vm{k:Nat->α}{k':Nat->β}(h:∀a b,a<m->b<m->(k a=k b↔k' a=k' b))(hr:r<m):cn k r=cn k' r:=by
 unfold cn;have h1:=uV k r;rw[<- CZ h hr];exact zZ h (by lia)
theorem Mh{k:Nat->α}:cn (cn k) r=cn k r:=vm (m:=r+1) (λ_ _ _ _=>Dh) (bB r)
end
def gG(w:dJ)(r:Nat):List (Nat×Nat):=w[r]?.getD []
theorem ke{w:dJ}{row:List (Nat×Nat)}(h:w[r]?=Z row):gG w r=row:=by unfold gG;rw[h];rfl
noncomputable def iU(sg:List Int)(r:Nat):Int:=sg.getD r 0
def I0(c:Nat->Nat)(e:Nat×Nat):Nat×Nat:=(c e.1,e.2)
def lk(w:dJ)(sg:List Int)(c:Nat->Nat)(r:Nat):Nat×Int×List (Nat×Nat):=(c r,iU sg r,(gG w r).map (I0 c))
def col(w:dJ)(sg:List Int):Nat->Nat->Nat
 |0=>λ_=>0
 |n+1=>cn (lk w sg (col w sg n))
def Dr(w:dJ)(R:Nat->Nat->Prop)(r s:Nat):Prop:=(gG w r).length=(gG w s).length /\ ∀(d:Nat) (e e':Nat×Nat),(gG w r)[d]?=Z e->(gG w s)[d]?=Z e'->R e.1 e'.1/\e.2=e'.2
theorem Dr.imp{w:dJ}{R f:Nat->Nat->Prop}{s:Nat}(h:Dr w R r s)(i:∀a b,R a b->f a b):Dr w f r s:=⟨h.1,λd e c h1 h2=>⟨i _ _ (h.2 d e c h1 h2).1,(h.2 d e c h1 h2).2⟩⟩
theorem JA{γ:Type}{w:dJ}{c:Nat->γ}{s:Nat}:(gG w r).map (λe=>(c e.1,e.2))=(gG w s).map (λe=>(c e.1,e.2))↔Dr w (λa b=>c a=c b) r s:=by
 constructor
 ·intro h;refine⟨by have:=congrArg List.length h;rwa [lM1,lM1]at this,λd e e' h1 h2=>?_⟩;have:=congrArg (λl:List (γ×Nat)=>l[d]?) h;simp only[gP1,h1,h2,oP1,Option.some.injEq,R8]at this;exact this
 ·rintro⟨h1,h2⟩;refine bW λd=>?_;rw[gP1,gP1];cases he:(gG w r)[d]? with
  |none=>
   rw[List.getElem?_eq_none_iff]at he;rw[bX (by lia)]
  |some e=>
   have j:=(R9 he).1;obtain⟨e',f⟩:∃e',(gG w s)[d]?=some e':=⟨_,gG1 (by lia)⟩;rw[f];obtain⟨i,g⟩:=h2 d e e' he f;simp only[oP1,i,g]
def RA(w:dJ)(sg:List Int):Nat->Nat->Nat->Prop
 |0=>λ_ _=>True
 |n+1=>λr s=>RA w sg n r s/\iU sg r=iU sg s/\Dr w (RA w sg n) r s
theorem gP{w:dJ}{sg:List Int}:∀{n r s:Nat},col w sg n r=col w sg n s↔RA w sg n r s
 |0,r,s=>⟨λ_=>trivial,λ_=>rfl⟩
 |n+1,r,s=>by
  have ih:=@gP w sg n;rw[col,Dh,lk,lk,R8,R8,RA,ih];refine and_congr_right λ_=>and_congr_right λ_=>?_;exact JA.trans ⟨λh=>h.imp λa b=>ih.mp,λh=>h.imp λa b=>ih.mpr⟩
theorem Dg{w:dJ}{sg:List Int}:∀{n r:Nat},col w sg n r=cn (col w sg n) r
 |0,r=>by
  have:fs (col w sg 0) r=0:=(yj (k:=col w sg 0) (s:=0) (r:=r) O λs a=>absurd a (bw s)).symm;unfold cn;rw[this];rfl
 |n+1,r=>by rw[col,Mh]
def EB(w:dJ)(sg:List Int):Nat->Nat->Nat->Prop
 |0=>λr s=>(gG w r).length=(gG w s).length/\iU sg r=iU sg s
 |n+1=>λr s=>EB w sg n r s/\Dr w (EB w sg n) r s
theorem RA.eb{w:dJ}{sg:List Int}:∀{n r s:Nat},RA w sg (n+1) r s->EB w sg n r s
 |0,r,s,h=>⟨h.2.2.1,h.2.1⟩
 |n+1,r,s,h=>⟨RA.eb h.1,h.2.2.imp λa b=>RA.eb⟩
def Stl(m:Nat)(w:dJ)(sg:List Int)(n:Nat):Prop:=∀r s,r<m->s<m->RA w sg n r s->RA w sg (n+1) r s
theorem Dr.lt{w:dJ}{R j:Nat->Nat->Prop}{s:Nat}(hw:WebJ m w)(h:Dr w R r s)(i:∀a b,a<m->b<m->R a b->j a b):Dr w j r s:=by
 have f:∀{r d:Nat} {e:Nat×Nat},(gG w r)[d]?=Z e->e.1<m:=λ{r d e} c=>by
  unfold gG at c;cases hr:w[r]? with
  |none=>rw[hr]at c;simp at c
  |some row=>rw[hr]at c;exact hw.to r d e ⟨row,hr,c⟩
 exact⟨h.1,λd e g h1 h2=>⟨i _ _ (f h1) (f h2) (h.2 d e g h1 h2).1,(h.2 d e g h1 h2).2⟩⟩
theorem Stl.next{w:dJ}{sg:List Int}(hw:WebJ m w)(h:Stl m w sg n):Stl m w sg (n+1):=λr s b a q=>
 ⟨q,q.2.1,q.2.2.lt hw h⟩
theorem Stl.on{m n:Nat}{w:dJ}{sg:List Int}(hw:WebJ m w)(h:Stl m w sg n):∀k,Stl m w sg (n+k)
 |0=>h
 |k+1=>(h.on hw k).next hw
theorem Stl.up{m n:Nat}{w:dJ}{sg:List Int}(hw:WebJ m w)(h:Stl m w sg n):∀k r s,r<m->s<m->(RA w sg n r s↔RA w sg (n+k) r s)
 |0,r,s,_,_=>Iff.rfl
 |k+1,r,s,hr,hs=>(h.up hw k r s hr hs).trans ⟨λq=>h.on hw k r s hr hs q,λq=>q.1⟩
theorem vh{k:Nat}{w:dJ}{sg:List Int}(h:∀r s,r<m->s<m->(RA w sg n r s↔RA w sg k r s))(hr:r<m):col w sg n r=col w sg k r:=by
 rw[Dg (n:=n),Dg (n:=k)];exact vm (m:=m) (λa b d c=>by rw[gP,gP];exact h a b d c) hr
theorem Et{w:dJ}{sg:List Int}:(∀r,r<m->col w sg (n+1) r=col w sg n r)↔Stl m w sg n:=by
 constructor
 ·intro h r s a b q;rw[<- gP]at q ⊢;rw[h r a,h s b,q]
 ·intro h r a;exact(vh (λr s a b=>⟨λq=>h r s a b q,λq=>q.1⟩) a).symm
theorem yo{p q:Nat->Bool}(h:∀x,p x=M->q x=M):∀l:List Nat,(l.filter p).length<=(l.filter q).length/\((l.filter p).length=(l.filter q).length -> ∀x∈l,q x=M->p x=M)
 |[]=>⟨nR1 _,λ_ x b=>by cases b⟩
 |a::l=>by
  obtain⟨h1,h2⟩:=yo h l;cases hp:p a with
  |true=>
   rw[da hp,da (h a hp),lC1,lC1];refine⟨by lia,λe x b d=>?_⟩;rcases aF.mp b with rfl|b
   ·exact hp
   ·exact h2 (by lia) x b d
  |false=>
   rw[db (by rw[hp];decide)];cases d:q a with
   |true=>
    rw[da d,lC1];exact⟨by lia,λe=>by lia⟩
   |false=>
    rw[db (by rw[d];decide)];refine⟨h1,λe x b c=>?_⟩;rcases aF.mp b with rfl|b
    ·rw[d]at c;cases c
    ·exact h2 e x b c
theorem more{w:dJ}{sg:List Int}(h:¬ Stl m w sg n):cnt (col w sg n) m<cnt (col w sg (n+1)) m:=by
 have c:∀r,isF (col w sg n) r->isF (col w sg (n+1)) r:=λr d s b e=>d s b (by rw[gP]at e ⊢;exact e.1);obtain⟨h1,h2⟩:=yo (p:=λs=>tf (isF (col w sg n) s)) (q:=λs=>tf (isF (col w sg (n+1)) s)) (λx a=>mz (c x (yT.mp a))) (af m);refine Nat.lt_of_le_of_ne h1 λe=>h λr s f b q=>?_;have back:∀x,x<m->isF (col w sg (n+1)) x->isF (col w sg n) x:=λx a d=>yT.mp (h2 e x (aC.mpr a) (mz d))
 -- both have one first place
 have one:∀x,x<m->fs (col w sg (n+1)) x=fs (col w sg n) x:=λx a=>by
  have g:=uV (col w sg (n+1)) x;refine yj ?_ (back _ (by lia) (wz _ x));have:=uW (col w sg (n+1)) x;rw[gP]at this ⊢;exact this.1
 rw[<- gP]at q ⊢;rw[<- pp,one r f,one s b,pp];exact q
theorem Kh(k:Nat->Nat)(m:Nat):cnt k m<=m:=by
 unfold cnt;exact aD (cX ..) (by rw[cB];exact nR1 _)
theorem vY{w:dJ}{sg:List Int}(hm:0<m)(h:∀k,k<n -> ¬ Stl m w sg k):n<m:=by
 have:∀k,k<=n->k+1<=cnt (col w sg k) m:=λk=>by
  induction k with
  |zero=>
   intro _;have:=wI (k:=col w sg 0) hm (λs a=>by lia);lia
  |succ k ih=>
   intro b;have h1:=ih (by lia);have h2:=more (h k (by lia));lia
 have h1:=this n (nR1 _);have h2:=Kh (col w sg n) m;lia
def gv(m:Nat)(w:dJ)(sg:List Int):List Nat:=(af m).map (col w sg m)
theorem Eu{w:dJ}{sg:List Int}(hw:WebJ m w)(h:Stl m w sg n)(hn:n<=m):(af m).map (col w sg n)=gv m w sg:=by
 refine cM λr d=>?_;refine vh (λa b e c=>?_) (aC.mp d);have:=h.up hw (m-n) a b e c
 rwa [show n+(m-n)=m by lia]at this
theorem HV{w:dJ}{sg:List Int}(hm:0<m):∃n,n<m/\Stl m w sg n:=by
 refine RD λz=>?_;have:=vY (w:=w) (sg:=sg) (n:=m) hm λk b a=>z ⟨k,b,a⟩;lia
theorem ss{w:dJ}(hw:WebJ m w)(hr:r<m):∃row,w[r]?=Z row:=⟨_,gG1 (by rw[hw.len];exact hr)⟩
theorem BZ(h:o.und 0=M):o.sh n=o:=by
 have a:∀{κ:Type} (l:List (κ×D)),D.unds 0 (l.map (·.2))=M->(l.map λp=>(p.1,p.2.sh n))=l:=λl=>by
  induction l with
  |nil=>intro _;rfl
  |cons x l ih=>
   intro h;rw[mP1,D.unds,bA1]at h;rw[mP1,ih h.2,Bh h.1]
 cases o with
 |lst xs=>rw[Ob.und]at h;rw[Ob.sh,lE h]
 |dct l=>rw[Ob.und]at h;rw[Ob.sh,a l h]
 |dcT l=>rw[Ob.und]at h;rw[Ob.sh,a l h]
 |dcF l=>rw[Ob.und]at h;rw[Ob.sh,a l h]
 |iset l=>rfl
 |tst l=>rfl
theorem A4(h:S.all (Ob.und 0)=M):S.map (Ob.sh n)=S:=by
 have:S.map (Ob.sh n)=S.map id:=cM λo a=>BZ (bA.mp h o a);rw[this,List.map_id]
theorem Hr{f:FN}{ds:List D}(hn:ds.length=n)(c:D.unds 0 ds=M)(h:W (f ds []) λp=>∃k xs,p.1 = .ref k/\p.2[k]?=Z (.lst xs)/\p.2.all (Ob.und 0)=M /\ ∀G j,(S++G)[j]?=Z (.lst xs)->G.all (Ob.und 0)=M->S.length<=j->Q (.ref j,S++G)):W (dI n f ds S) Q:=by
 obtain⟨⟨d,G⟩,e,k,xs,rfl,b,a,q⟩:=h;refine⟨_,pG e hn c O,?_⟩;dsimp only at b a;rw[A4 a];exact q G _ (by rw[eN];exact b) a (br _ _)
theorem NV(h:S.all (Ob.und 0)=M):S.all (Ob.und S.length)=M:=by
 rw[bA]at *
 exact λo a=>gW (bi _) (h o a)
abbrev iA(sg:List Int):D:=.tup (sg.map D.int)
theorem gA(sg:List Int):(iA sg).und 0=M:=by rw[D.und];exact eD λ_ _=>rfl
abbrev Hq(m:Nat)(c:Nat->Nat):List Nat:=(af m).map c
abbrev tE(m:Nat)(c:Nat->Nat):D:=.tup (nmD (Hq m c))
theorem Mx{c:Nat->Nat}(hr:r<m)(q:Q (.int (c r:Nat),S)):W (dL (tE m c) (.int r) S) Q:=
 hU (i:=r) (x:=.int (c r:Nat)) (by rw[nmD,gP1,gP1,cr hr];rfl) q
theorem DP{sg:List Int}(a:sg.length=m)(hr:r<m)(q:Q (.int (iU sg r),S)):W (dL (iA sg) (.int r) S) Q:=
 hU (i:=r) (x:=.int (iU sg r)) (by rw[gP1,gG1 (by lia)];unfold iU;rw[bH,gG1 (by lia)];rfl) q
abbrev Lk:=Nat×Int×List (Nat×Nat)
def sT(x:Lk):D:=.tup [.int (x.1:Nat),.int x.2.1,.tup (x.2.2.map pD)]
theorem FW(x:Lk):(sT x).und 0=M:=by
 unfold sT;rw[D.und,D.unds,D.unds,D.unds,D.und,eD (λ_ _=>rfl)];rfl
theorem FP{w:dJ}{sg:List Int}{c:Nat->Nat}(hw:WebJ m w)(hm:m<=8)(hs:sg.length=m):W (gB [webD w,iA sg,tE m c] []) λp=>∃k,p.1 = .ref k/\p.2[k]?=Z (.lst ((af m).map λr=>sT (lk w sg c r)))/\p.2.all (Ob.und 0)=M:=by
 unfold gB;refine iO ?_;unfold tK;refine d3 (λr V=>V=[.lst []]/\r=[Z (webD w),Z (iA sg),Z (tE m c),Z (.ref 0),Y,Y,Y]) ?_ ?_
 ·walk_at"w"
  try exact⟨O,trivial⟩
 rintro r V ⟨rfl,rfl⟩;refine d3 (λr V=>∃G g b h,G.all (Ob.und 0)=M/\V = .lst ((af m).map λr=>sT (lk w sg c r))::G/\r=[Z (webD w),Z (iA sg),Z (tE m c),Z (.ref 0),g,b,h]) ?_ ?_
 ·unfold fF;rw[dN];refine rT (xs:=w.map λrow=>.tup (row.map pD)) O ?_;refine eK (λi r V=>∃G g b h,i<=m/\G.all (Ob.und 0)=M/\V = .lst ((af i).map λr=>sT (lk w sg c r))::G/\r=[Z (webD w),Z (iA sg),Z (tE m c),Z (.ref 0),g,b,h]) _ 0 _ _ ⟨[],_,_,_,by lia,O,O,O⟩ (λ_ _ _ _=>rfl) ?_ ?_
  ·rintro i A l r V ⟨G,g,b,h,hi,o,rfl,rfl⟩;rw[gD,gP1]at l;obtain⟨z,v,rfl⟩:=Sb l;obtain⟨row,a,rfl⟩:=Sb v;have j:i<m:=by rw[<- hw.len];exact(R9 a).1
   have y:=hw.le i row a;rw[bL]at *
   walk_at"w";unfold mH;refine d3 (λr V=>V = .lst ((af i).map λr=>sT (lk w sg c r))::(G++[.lst (row.map λe=>pD (I0 c e))])/\r=[Z (webD w),Z (iA sg),Z (tE m c),Z (.ref 0),Z (.int (i:Nat)),Z (.tup (row.map pD)),Z (.tup (row.map λe=>pD (I0 c e)))]) ?_ ?_
   ·walk_at"w";rw[hD];refine ji (f:=pD) (λe=>pD (I0 c e)) (λq=>∃s t,q=[s,t,Z (tE m c)]) O row _ ⟨_,_,O⟩ ?_ ?_
    ·rintro e x q ⟨s,t,rfl⟩;obtain⟨d,u⟩:=bq x;have:=hw.to i d e ⟨row,a,u⟩;rw[pD];walk_at"w";refine Mx this ?_;walk_at"w";exact⟨O,_,_,O⟩
    ·rintro q _;refine⟨dR (by rw[lM1];lia),?_⟩;walk_at"w";refine ed (xs:=row.map λe=>pD (I0 c e)) (by rw[gC1,dP];rfl) ?_
     first|exact⟨rfl,rfl⟩|exact⟨rfl,trivial⟩|rfl
   rintro r V ⟨rfl,rfl⟩;unfold fG;rw[dN];refine ja ?_;walk_at"w";refine⟨0,(af i).map λr=>sT (lk w sg c r),O,O,?_⟩;refine Mx j ?_;walk_at"w";refine DP hs j ?_;walk_at"w";refine(k8 (n:=0) (xs:=(af i).map λr=>sT (lk w sg c r)) O).mpr ⟨dR (by rw[lM1,cB];lia),?_⟩;refine⟨G++[.lst (row.map λe=>pD (I0 c e))],_,_,_,by lia,?_,?_,O⟩
   ·rw[cN,o,bN,Ob.und,eD (λ_ _=>rfl)];rfl
   ·have e:sT (lk w sg c i)=D.tup [D.int (c i:Nat),D.int (iU sg i),D.tup (row.map fun e=>pD (I0 c e))]:=by
     unfold lk;rw[ke a,sT,bu];rfl
    rw[c9,cc,mP1,e];rfl
  ·rintro r V ⟨G,g,b,h,hi,o,rfl,rfl⟩;rw[gO,lM1,bL,hw.len];exact⟨O,G,_,_,_,o,O,O⟩
 rintro r V ⟨G,g,b,h,o,rfl,rfl⟩;walk_at"w";refine⟨0,O,O,?_⟩;rw[bN,o,Ob.und,eD (λ_ _=>FW _)];rfl
def FU(x:Lk):TK:=.tup [.int (x.1:Nat),.int x.2.1,.tup (x.2.2.map KI)]
theorem Hf:∀l:List (Nat×Nat),zC (l.map pD)=Z (l.map KI)
 |[]=>rfl
 |e::l=>by
  rw[mP1,zC,Hf l];rfl
theorem Ho:∀l:List (Nat×Nat),TK.depAll (l.map KI)<=2
 |[]=>by simp[TK.depAll]
 |e::l=>by
  have:=Ho l;rw[mP1,TK.depAll];have:(KI e).dep<=2:=by simp[KI,TK.dep,TK.depAll]
  lia
theorem pb(x:Lk):keyT (sT x)=Z (FU x):=by
 have e:zC [.int (x.1:Nat),.int x.2.1,.tup (x.2.2.map pD)]=Z [.int (x.1:Nat),.int x.2.1,.tup (x.2.2.map KI)]:=by
  simp only[zC,kD,Hf,oP1,oS1]
 unfold sT;rw[keyT,e,oS1,ak]
 ·rfl
 ·have:=Ho x.2.2;simp[TK.dep,TK.depAll];lia
theorem FX{x y:Lk}(h:sT x=sT y):x=y:=by
 obtain⟨a,b,l⟩:=x;obtain⟨g,i,l'⟩:=y;unfold sT at h;injection h with h;injection h with h1 h;injection h with h2 h;injection h with c h;injection h1 with h1;injection h2 with h2;injection c with c;have:l=l':=(List.map_inj_right λx y e=>by
  unfold pD at e;injection e with e;injection e with d e;injection e with f e;injection d with d;injection f with f;exact Prod.ext (by lia) (by lia)).mp c
 dsimp only at h1 h2;rw[this,h2,show a=g by lia]
theorem xU{x y:Lk}(h:FU x=FU y):x=y:=by
 have h1:=(lY (pb x)).1;have h2:=(lY (pb y)).1;exact FX (by rw[<- h1,<- h2,h])
def nF(k:Nat->Lk)(i:Nat):List (TK×D):=((af i).filter λf=>tf (isF k f)).map λf=>(FU (k f),.int (cnt k f:Nat))
theorem nF_len{k:Nat->Lk}:(nF k i).length=cnt k i:=by unfold nF cnt;rw[lM1]
theorem sO{k:Nat->Lk}:nF k (i+1)=nF k i++if tf (isF k i)=M then[(FU (k i),.int (cnt k i:Nat))]else[]:=by
 unfold nF;rw[c9,cY,cc]
 congr 1
 cases h:tf (isF k i)with
 |true=>rw[da (by exact h)];rfl
 |false=>rw[db (by rw[h];decide)];rfl
theorem sP{k:Nat->Lk}:∀{i r:Nat},fs k r<i->dU (nF k i) (FU (k r))=Z (.int (cn k r:Nat))
 |0,r,h=>by lia
 |i+1,r,h=>by
  rw[sO,o9];by_cases hi:fs k r<i
  ·rw[sP hi];rfl
  ·have e:fs k r=i:=by lia
   have c:=wz k r;have b:=uW k r;rw[e]at c b;rw[mz c,ak O];have g:dU (nF k i) (FU (k r))=Y:=by
    refine kq ?_;rw[cO];intro z;obtain⟨p,l,j⟩:=bP.mp z;obtain⟨f,d,rfl⟩:=cf.mp l;have a:=aC.mp (aB.mp d).1;have:=xU (Q4 j);exact c f a (by rw[b];exact this)
   rw[g,Option.none_or,fV,ak (by rw[b])];unfold cn;rw[e]
theorem Ca{k:Nat->Lk}(h:isF k i):((nF k i).any λp=>decide (p.1=FU (k i)))=J:=by
 rw[cO];intro z;obtain⟨p,c,b⟩:=bP.mp z;obtain⟨f,d,rfl⟩:=cf.mp c;have a:=aC.mp (aB.mp d).1;exact h f a (xU (Q4 b))
theorem IV{d:D}{k:TK}(h:S[n]?=Z (dO F))(hk:keyT d=Z k):kx d (.ref n) S=Z (.bl (!(dU F k).isSome),S):=by
 unfold dO at h;by_cases a:F=[]
 ·subst a;rw[ak O]at h;simp only[kx,h,hk];rfl
 ·rw[aj a]at h;simp only[kx,fW,h,hk,oP1]
theorem NE(h:S[n]?=Z (dO F)):rl (.ref n) S=Z (.int (F.length:Nat),S):=by
 unfold dO at h;by_cases a:F=[]
 ·subst a;rw[ak O]at h;simp only[rl,pj,h];rfl
 ·rw[aj a]at h;simp only[rl,h]
theorem IU{k:Nat->Lk}(w:S.all (Ob.und 0)=M)(hn:S[n]?=Z (.lst ((af m).map λr=>sT (k r))))(hm:m<=8)(q:Q (tE m (cn k),S)):W (dI 1 gl [.ref n] S) Q:=by
 refine vo O O ?_;unfold gl;refine iO ?_;unfold pJ;have gn:∀(X:Ob),(S++[X])[n]?=Z (.lst ((af m).map λr=>sT (k r))):=λX=>by rw[gL1 (R9 hn).1];exact hn
 have j:∀(X:Ob),(S++[X])[S.length]?=Z X:=λX=>by rw[dP];rfl
 have st:∀(X au:Ob),(S++[X]).set S.length au=S++[au]:=λX au=>by rw[cZ _ _ (nR1 _),cF];rfl
 refine d3 (λr V=>V=S++[dO (nF k 0)]/\r=[Z (.ref n),Z (.ref S.length),Y]) ?_ ?_
 ·have u:dO (nF k 0) = .dct []:=ak O;rw[u]
  wp_walk using oX
 rintro r V ⟨rfl,rfl⟩;refine d3 (λr V=>∃c,V=S++[dO (nF k m)]/\r=[Z (.ref n),Z (.ref S.length),c]) ?_ ?_
 ·walk_at"w";refine ed (gn _) ?_;refine eK (λi r V=>∃c,i<=m/\V=S++[dO (nF k i)]/\r=[Z (.ref n),Z (.ref S.length),c]) _ 0 _ _ ⟨_,by lia,O,O⟩ ?_ ?_ ?_
  ·rintro i r V ⟨_,_,rfl,_⟩;exact fq (gn _)
  ·rintro i d h r V ⟨c,hi,rfl,rfl⟩;dsimp only at h;have a:=(R9 h).1;rw[lM1,cB]at a;rw[gP1,cr a]at h;cases h;rw[bL]at *
   walk_at"w";unfold lN;have t:=IV (S:=S++[dO (nF k i)]) (d:=sT (k i)) (j _) (pb _)
   wp_walk using t
   by_cases g:isF k i
   ·have b:dU (nF k i) (FU (k i))=Y:=kq (Ca g);rw[b,ak (by rfl)];have v:=NE (S:=S++[dO (nF k i)]) (j _)
    wp_walk using v
    refine wR (F:=nF k i) (j _) (pb _) (by rw[nF_len];have:=vk (k:=k) hi;have A:cnt k m<=m:=(by unfold cnt;exact aD (cX ..) (by rw[cB];exact nR1 _));lia) ?_;rw[st];refine⟨_,a,?_,O⟩;rw[sO,mz g,ak O,nF_len];unfold gU;rw[Ca g,aj (by decide)]
   ·obtain⟨s,o,p⟩:∃s,s<i/\k s=k i:=RD λz=>g λs o e=>z ⟨s,o,e⟩;have l:fs k i<i:=bF (by rw[<- pp.mpr p];exact uV k s) o;rw[sP l,aj (by simp)];refine⟨_,a,?_,O⟩;rw[sO,yS g,aj (by decide),aN]
  ·rintro r V ⟨c,hi,rfl,rfl⟩;rw[lM1,cB,bL];exact⟨O,_,O,O⟩
 rintro r V ⟨c,rfl,rfl⟩;walk_at"w";refine ed (gn _) ?_;refine ji (f:=λr=>sT (k r)) (λr=>D.int (cn k r:Nat)) (λr=>∃x,r=[x,Z (.ref S.length)]) (fq (gn _)) (af m) _ ⟨_,O⟩ ?_ ?_
 ·rintro i hi r ⟨x,rfl⟩;walk_at"w";refine DT (j _) (pb _) (sP (by have:=uV k i;have:=aC.mp hi;lia)) ?_;exact⟨O,O,_,O⟩
 ·rintro y _;refine⟨dR (by rw[lM1,cB];lia),?_⟩;walk_at"w";refine ed (xs:=nmD (Hq m (cn k))) (by first|(rw[eN,nmD,bu];rfl)|simp[nmD]) ?_;have:=CT (d:=tE m (cn k)) (S:=S) (G:=[dO (nF k m),.lst ((af m).map λr=>D.int (cn k r:Nat))]) (by rw[D.und];exact fy _) (NV w)
  first|(rw[this];exact q)|(show Q (gc _ _);rw[this];exact q)
theorem C5{S:Sto}{n:Nat}:∀a b:List Nat,wF (i8 S (n+1)) (nmD a) (nmD b)=Z (tf (a=b))
 |[],[]=>by rw[mz O];rfl
 |[],_::_=>by rw[yS (by simp)];rfl
 |_::_,[]=>by rw[yS (by simp)];rfl
 |x::a,y::b=>by
  have c:i8 S (n+1) (.int x) (.int y)=Z ((x:Int) == (y:Int)):=rfl;show wF _ (.int x::nmD a) (.int y::nmD b)=_;rw[wF,c,C5 a b,oS1];refine congrArg Z (yU ?_);rw[bA1,RW,yT,List.cons.injEq];constructor
  ·rintro⟨h1,h2⟩;exact⟨by lia,h2⟩
  ·rintro⟨h1,h2⟩;exact⟨by lia,h2⟩
theorem J9{a b:List Nat}:i8 S (n+2) (.tup (nmD a)) (.tup (nmD b))=Z (tf (a=b)):=by
 rw[show n+2=n+1+1 from rfl,i8];simp only[iD,C5 (S:=S) (n:=n) a b];simp
theorem B8{a b:List Nat}:ww (.tup (nmD a)) (.tup (nmD b)) S=Z (.bl (!tf (a=b)),S):=by
 show(i8 S d8 _ _).map _=_;rw[show d8=58+2 from rfl,J9];rfl
theorem Mj{c c':Nat->Nat}:Hq m c=Hq m c' ↔ ∀r,r<m->c r=c' r:=by
 unfold Hq;rw[List.map_inj_left];exact⟨λh r a=>h r (aC.mpr a),λh r a=>h r (aC.mp a)⟩
theorem Ku{x:Str}{g:FN}{a:FA}{r:Ev}(h:r[i]?=Z (Z (.fn x)))(q:W (mN g a r S) Q):W (uH i x g a r S) Q:=by
 unfold uH;rw[h];dsimp only;rw[ak O];exact q
theorem xz{n:Nat}{w:dJ}{sg:List Int}{c:Nat->Nat}{d:Option D}(hw:WebJ m w)(hm:m<=8)(hs:sg.length=m)(f:S.all (Ob.und 0)=M)(q:∀G,(S++G).all (Ob.und 0)=M->Q (tE m (cn (lk w sg c)),S++G)):W (uH 2 "numbered" (dI 1 gl) (dG (mN (dI 3 gB) (dG (mV 0) (dG (mV 1) (dG (mV 3) dH)))) dH) [Z (webD w),Z (iA sg),Z (.fn "numbered"),Z (tE m c),d] S) Q:=by
 refine Ku O ?_;simp(implicitDefEqProofs:=J) only[mN,dG,mV,dH,cS,gC1,oS1,dN,dV];refine Hr O (by rw[D.unds,eA,D.unds,gA,D.unds,D.und,fy];rfl) ((FP (c:=c) hw hm hs).mono ?_);rintro p ⟨k,h1,h2,e⟩;refine⟨k,_,h1,h2,e,λG j h g b=>?_⟩;have a:(S++G).all (Ob.und 0)=M:=by rw[cN,f,g];rfl
 exact IU a h hm (q G a)
theorem zg{w:dJ}{sg:List Int}(hw:WebJ m w)(d:0<m)(hm:m<=8)(hs:sg.length=m)(q:Q (.tup (nmD (gv m w sg)),S)):W (dI 3 i4 [webD w,iA sg,.fn "numbered"] S) Q:=by
 refine fD O (by rw[D.unds,eA,D.unds,gA];rfl) ?_;unfold i4;refine iO ?_;unfold rO;refine d3 (λr V=>V.all (Ob.und 0)=M/\r=[Z (webD w),Z (iA sg),Z (.fn "numbered"),Z (tE m (col w sg 0)),Y]) ?_ ?_
 ·walk_at"w";rw[show webD w = .tup (w.map λrow=>.tup (row.map pD))from rfl,hD];refine ji (f:=λrow:List (Nat×Nat)=>D.tup (row.map pD)) (λ_=>.int 0) (λr=>∃x,r=[x]) O w _ ⟨_,O⟩ ?_ ?_
  ·rintro row z r ⟨x,rfl⟩;walk_at"w";exact⟨_,O⟩
  ·rintro s _;refine ⟨dR (by rw [lM1,hw.len];lia),?_⟩;walk_at"w";refine ed (xs:=w.map fun _=>D.int 0) rfl ?_;have e:(w.map fun _=>D.int 0)=nmD (Hq m (col w sg 0)):=by
    have h1:(w.map λ_=>D.int 0)=aP m (D.int 0):=by rw[List.map_const',hw.len]
    have h2:nmD (Hq m (col w sg 0))=aP m (D.int 0):=by
     unfold nmD Hq;rw[bu];have:((λi:Nat=>D.int i)∘col w sg 0)=λ_=>D.int 0:=rfl;rw[this,List.map_const',cB]
    rw[h1,h2]
   rw[e];refine⟨?_,O⟩;rw[bN,Ob.und,fy];rfl
 rintro r V ⟨o,rfl⟩;refine d3 (λr V=>V.all (Ob.und 0)=M/\r=[Z (webD w),Z (iA sg),Z (.fn "numbered"),Z (tE m (col w sg 0)),Z (tE m (col w sg 1))]) ?_ ?_
 ·unfold dS;rw[dN];refine xz (n:=0) hw hm hs o λG p=>?_;exact W.of O ⟨O,p,O⟩
 rintro r V ⟨o,rfl⟩;refine d3 (λr V=>r[3]?=Z (Z (.tup (nmD (gv m w sg))))) ?_ ?_
 ·refine tV (λk r V=>(∀j,j<k -> ¬ Stl m w sg j)/\V.all (Ob.und 0)=M/\r=[Z (webD w),Z (iA sg),Z (.fn "numbered"),Z (tE m (col w sg k)),Z (tE m (col w sg (k+1)))]) 8 ?_ 100000 0 _ _ (by lia) ⟨λj h=>by lia,o,O⟩;rintro k r V ⟨l,o,rfl⟩;unfold nf
  wp_walk using B8
  have g:=(Mj (m:=m) (c:=col w sg (k+1)) (c':=col w sg k)).trans Et;by_cases a:Stl m w sg k
  ·rw[mz (g.mpr a),aj (by decide)];have v:=vY d l;show Z (Z (tE m (col w sg k)))=_;rw[<- Eu hw a (by lia)]
  ·rw [yS (fun h=>a (g.mp h)),if_pos (show (!false)=true from rfl)];have b:∀ j,j<k+1 -> ¬ Stl m w sg j:=fun j y=>by
    rcases c7.mp y with h|rfl
    ·exact l j h
    ·exact a
   have v:=vY d b;refine⟨by lia,?_⟩;unfold nb;refine d3 (λs t=>t=V/\s=[Z (webD w),Z (iA sg),Z (.fn "numbered"),Z (tE m (col w sg (k+1))),Z (tE m (col w sg (k+1)))]) ?_ ?_
   ·walk_at"w"
   rintro s t ⟨rfl,rfl⟩;unfold dS;rw[dN];refine xz (n:=0) hw hm hs o λG p=>?_;exact W.of O ⟨O,b,p,O⟩
 rintro r V u;unfold eh;rw[dN];unfold mV;rw[u,dV];exact dV.mpr ⟨by rw[D.und];exact fy _,q⟩
theorem nr{w:dJ}{sg:List Int}(hw:WebJ m w)(a:0<m)(hm:m<=8)(hs:sg.length=m)(q:Q (.tup (nmD (gv m w sg)),S)):W (dI 2 fK [webD w,iA sg] S) Q:=by
 refine fD O (by rw[D.unds,eA,D.unds,gA];rfl) ?_;unfold fK;refine iO ?_;unfold nv;walk_at"w";refine zg hw a hm hs ?_;exact⟨by rw[D.und];exact fy _,q⟩
noncomputable def Bj(ws cs:List Nat)(b:Bool)(r:Nat):Int:=(if cs.contains r then 1 else 0)+(if(b&&ws.contains r)=M then 2 else 0)
def sgL(m:Nat)(ws cs:List Nat)(b:Bool):List Int:=(af m).map (Bj ws cs b)
theorem nP:(sgL m ws cs b).length=m:=by unfold sgL;rw[lM1,cB]
def ot(ws cs:List Nat):D:=.tup [.tup (nmD ws),.tup (nmD cs)]
theorem mD:(ot ws cs).und 0=M:=by unfold ot;rw[D.und,D.unds,D.unds,D.und,D.und,fy,fy];rfl
theorem tF{w:dJ}(hw:WebJ m w)(hm:m<=8)(q:Q (iA (sgL m ws cs J),S)):W (dI 2 eJ [webD w,.tup (nmD cs)] S) Q:=by
 refine fD O (by rw[D.unds,eA,D.unds,D.und,fy];rfl) ?_;unfold eJ;refine iO ?_;unfold k4
 wp_walk using kr
 rw[hw.len];refine⟨eL (by lia),?_⟩;rw[kT,Qy];refine ji (f:=λi:Nat=>D.int i) (λr=>D.int (Bj ws cs J r)) (λr=>∃x,r=[x,Z (.tup (nmD cs))]) O (af m) _ ⟨_,O⟩ ?_ ?_
 ·rintro r b a ⟨x,rfl⟩
  wp_walk using CD
  unfold Bj;cases cs.contains r with
  |true=>exact⟨O,_,O⟩
  |false=>exact⟨O,_,O⟩
 ·rintro a _;refine⟨dR (by rw[lM1,cB];lia),?_⟩;walk_at"w";have e:((af m).map λr=>D.int (Bj ws cs J r))=(sgL m ws cs J).map D.int:=by unfold sgL;rw[bu];rfl
  rw[e];refine ed (xs:=(sgL m ws cs J).map D.int) O ?_;exact⟨gA _,q⟩
theorem DA{w:dJ}(hw:WebJ m w)(hm:m<=8)(q:Q (iA (sgL m ws cs M),S)):W (dI 2 fL [webD w,ot ws cs] S) Q:=by
 refine fD O (by rw[D.unds,eA,D.unds,mD];rfl) ?_;unfold fL;refine iO ?_;unfold nw;refine d3 (λr V=>V=[]/\r=[Z (webD w),Z (ot ws cs),Z (.tup (nmD ws)),Z (.tup (nmD cs)),Y]) ?_ ?_
 ·unfold ot;walk_at"w"
 rintro r V ⟨rfl,rfl⟩;refine d3 (λr V=>V=[]/\r=[Z (webD w),Z (ot ws cs),Z (.tup (nmD ws)),Z (.tup (nmD cs)),Z (iA (sgL m ws cs J))]) ?_ ?_
 ·walk_at"w";refine tF (ws:=ws) hw hm ?_
  first|exact⟨rfl,rfl⟩|exact⟨rfl,trivial⟩|rfl
 rintro r V ⟨rfl,rfl⟩;walk_at"w";refine rT (xs:=(sgL m ws cs J).map D.int) O ?_;have d:u8 0 ((sgL m ws cs J).map D.int)=(af m).map λr=>D.tup [.int (r:Nat),.int (Bj ws cs J r)]:=by
  refine bW λi=>?_;rw[gD,gP1,gP1];unfold sgL;rw[gP1];by_cases h:i<m
  ·rw[cr h,bL];rfl
  ·rw[bX (by rw[cB];lia)];rfl
 rw[d];refine ji (f:=λr:Nat=>D.tup [.int (r:Nat),.int (Bj ws cs J r)]) (λr=>D.int (Bj ws cs M r)) (λr=>∃a b,r=[a,b,Z (.tup (nmD ws))]) O (af m) _ ⟨_,_,O⟩ ?_ ?_
 ·rintro r g c ⟨a,b,rfl⟩
  wp_walk using CD
  unfold Bj;cases ws.contains r with
  |true=>
   cases cs.contains r with
   |true=>exact⟨O,_,_,O⟩
   |false=>exact⟨O,_,_,O⟩
  |false=>exact⟨O,_,_,O⟩
 ·rintro c _;refine⟨dR (by rw[lM1,cB];lia),?_⟩;walk_at"w";have e:((af m).map λr=>D.int (Bj ws cs M r))=(sgL m ws cs M).map D.int:=by unfold sgL;rw[bu];rfl
  rw[e];refine ed (xs:=(sgL m ws cs M).map D.int) O ?_;exact⟨gA _,q⟩
theorem pA:∀(ns acc:List Int),acc.Nodup->((ns.foldl RH acc).length<=acc.length+ns.length/\((ns.foldl RH acc).length=acc.length+ns.length↔(acc++ns).Nodup))
 |[],acc,h=>by simp[h]
 |n::ns,acc,h=>by
  rw[b4];by_cases c:n∈acc
  ·have e:RH acc n=acc:=by
    unfold RH;rw[ak (bP.mpr ⟨n,c,by simp⟩)]
   rw[e];obtain⟨h1,h2⟩:=pA ns acc h;rw[lC1];refine⟨by lia,⟨λz=>by lia,λz=>?_⟩⟩;rw[bx]at z;exact(z.2.2 n c n mS1 O).elim
  ·have e:RH acc n=acc++[n]:=by
    unfold RH;rw[aj (by rw[bP];rintro⟨x,i,d⟩;exact c (by rw[<- RW.mp d];exact i))]
   rw[e];have hnd:(acc++[n]).Nodup:=by
    rw[bx];exact⟨h,by simp,λa g b f z=>by rw[cv]at f;subst f;subst z;exact c g⟩
   obtain⟨h1,h2⟩:=pA ns (acc++[n]) hnd;rw[lA1,aY,bE,List.singleton_append]at *
   rw[lC1];refine⟨by lia,?_⟩;rw[<- h2];constructor<;>intro z<;>lia
theorem tX:(rs.map λ(r:Nat)=>(r:Int)).Nodup↔rs.Nodup:=by
 unfold List.Nodup;rw[cR];exact⟨λh=>h.imp λz e=>z (by rw[e]),λh=>h.imp λz e=>z (by lia)⟩
theorem AL(a:rs.length<=100)(q:Q (.bl (tf rs.Nodup),S)):W (dI 1 eT [.tup (nmD rs)] S) Q:=by
 refine fD O (by rw[D.unds,D.und,fy];rfl) ?_;unfold eT;refine iO ?_;unfold jp;have e:iH (.tup (nmD rs)) []=Z (.ref 0,[.iset (ddI (rs.map λ(r:Nat)=>(r:Int)))]):=by
  unfold iH;rw[iD];dsimp only;rw[yc,oS1,ak (by rw[lM1];unfold RI;lia)];rfl
 wp_walk using e
 refine wS O ?_;walk_at"w";refine⟨O,?_⟩;have:((((ddI (rs.map λ(r:Nat)=>(r:Int))).length:Nat):Int) == (((nmD rs).length:Nat):Int))=tf rs.Nodup:=yU (by
  have:=(pA (rs.map λ(r:Nat)=>(r:Int)) [] bp).2;rw[bf,bL,lM1,cP,tX]at this;rw[RW,ej,<- this];unfold ddI;lia)
 rw[this];exact q
theorem uI{c:List (Nat×List D)}{g:FG}{b:FS}{Q:Fl×Ev×Sto->Prop}(I:Nat->Ev->Sto->Prop):∀ (items:List D) (k:Nat) (r:Ev) (S:Sto),I k r S ->
  (∀i r S,I i r S->oR S c=M) ->
  (∀i d,items[i]?=Z d -> ∀r S,I (k+i) r S->W (g d r S) λp=>W (b p.1 p.2) λq=>(q.1 = .nx/\I (k+i+1) q.2.1 q.2.2) \/ ∃v,q.1 = .rt v/\Q (.rt v,q.2)) ->
  (∀r S,I (k+items.length) r S->Q (.nx,r,S))->W (jt c g b items r S) Q:=by
 intro items
 induction items with
 |nil=>intro k r S hi a _ j;rw[jt];dsimp only;rw[ak (a _ _ _ hi),dV];exact j r S (by simpa using hi)
 |cons d ds ih=>
  intro k r S hi a l j;rw[jt];dsimp only;rw[ak (a _ _ _ hi),dN];obtain⟨p,m,⟨f,n,u⟩,s,h⟩:=l 0 d O r S (by simpa using hi);refine⟨p,m,?_⟩;dsimp only;rw[dN];refine⟨_,s,?_⟩;dsimp only at h ⊢;rcases h with⟨rfl,e⟩|⟨v,rfl,t⟩
  ·exact ih (k+1) n u e a (fun i d o r S e=>by
    have:=l (i+1) d o r S (by rw[show k+(i+1)=k+1+i by lia];exact e);rw[show k+(i+1)+1=k+1+i+1 by lia]at this;exact this) λr S e=>j r S (by rw[lC1,show k+(ds.length+1)=k+1+ds.length by lia];exact e)
  ·exact dV.mpr t
theorem Lc{a b:FS}{r:Ev}{Q:Fl×Ev×Sto->Prop}(h:W (a r S) λp=>(p.1 = .nx/\W (b p.2.1 p.2.2) Q) \/ ∃v,p.1 = .rt v/\Q (.rt v,p.2)):W (dQ a b r S) Q:=by
 obtain⟨⟨f,d,c⟩,e,h⟩:=h;unfold dQ;rw[e];dsimp only at h;rcases h with⟨rfl,h⟩|⟨v,rfl,h⟩
 ·exact h
 ·exact dV.mpr h
theorem JY{c:FT}{m:FE}{b:FS}{r:Ev}{Q:Fl×Ev×Sto->Prop}(C:Bool×Sto->Prop)(h1:W (c r S) C)(h2:∀V,C (M,V)->W (m r V) λp=>Q (.rt p.1,r,p.2))(d:∀V,C (J,V)->W (b r V) Q):W (dQ (ft c (eh m) kW) b r S) Q:=by
 obtain⟨⟨t,V⟩,e,a⟩:=h1;unfold dQ ft;simp only[e,oS1];cases t with
 |true=>
  rw[ak O];unfold eh;rw[dN,dN];exact(h2 V a).mono λp f=>dV.mpr (dV.mpr f)
 |false=>
  rw[aj (by decide)];exact d V a
theorem tO{T:Ty}{m:FE}{r:Ev}:W (sQ T m r S) Q↔W (m r S) λp=>W (uP p.2 T p.1) λb=>Q (.bl b,p.2):=by
 unfold sQ;rw[dN];simp only[j3]
theorem CA{T:Ty}{xs:List D}:uP S T (.tup xs)=Z (decide (T = .tuple)):=rfl
theorem JT{T:Ty}{i:Int}:uP S T (.int i)=Z (decide (T = .int)):=rfl
def cw(cl ws:List Nat)(i:Nat):Nat:=cl.getD (ws.getD i 0) 0
def alD(i j:Nat)(cl:List Nat):D:=.tup [.str "alike",.int (i:Nat),.int (j:Nat),.tup (nmD cl)]
inductive Al (cl ws:List Nat):D->Prop
 |yes (i j:Nat) (h1:i<j) (h2:j<ws.length) (h3:cw cl ws i=cw cl ws j) (h4:∀i' j',i'<j'->j'<ws.length->(i'<i\/(i'=i/\j'<j))->cw cl ws i'≠cw cl ws j'):Al cl ws (alD i j cl)
 |no (h:∀i j,i<j->j<ws.length->cw cl ws i≠cw cl ws j):Al cl ws .non
theorem Al.und{a:List Nat}{d:D}(h:Al a ws d):d.und 0=M:=by
 cases h with
 |no _=>rfl
 |yes i j _ _ _ _=>unfold alD;rw[D.und,D.unds,D.unds,D.unds,D.unds,D.und,D.und,D.und,D.und,fy];rfl
theorem vy(hi:i<rs.length)(q:Q (.int (rs.getD i 0:Nat),S)):W (dL (.tup (nmD rs)) (.int i) S) Q:=
 hU (i:=i) (x:=.int (rs.getD i 0:Nat)) (by rw[nmD,gP1,bH,gG1 hi];rfl) q
theorem kw(hm:0<m)(h:∀x∈rs,x<m):rs.getD i 0<m:=by
 rw[bH];cases e:rs[i]? with
 |none=>exact hm
 |some x=>exact h x (gM1 e)
theorem md{w:dJ}{sg:List Int}:(gv m w sg).length=m:=by unfold gv;rw[lM1,cB]
theorem Kq{b:Nat}:((a:Int) == (b:Int))=tf (a=b):=yU (by rw[RW];lia)
theorem GO{w:dJ}(hw:WebJ m w)(g:0<m)(hm:m<=8)(s:∀x∈ws,x<m)(A:ws.length<=20)(q:∀d,Al (gv m w (sgL m ws cs J)) ws d->Q (d,S)):W (dI 2 lW [webD w,ot ws cs] S) Q:=by
 refine fD O (by rw[D.unds,eA,D.unds,mD];rfl) ?_;unfold lW;refine iO ?_;unfold yE;generalize v:gv m w (sgL m ws cs J)=cl at *
 have f:cl.length=m:=by rw[<- v];exact md
 refine d3 (λr V=>V=[]/\r=[Z (webD w),Z (ot ws cs),Z (.tup (nmD ws)),Z (.tup (nmD cs)),Y,Y,Y]) ?_ ?_
 ·unfold ot;walk_at"w"
 rintro r V ⟨rfl,rfl⟩;refine d3 (λr V=>V=[]/\r=[Z (webD w),Z (ot ws cs),Z (.tup (nmD ws)),Z (.tup (nmD cs)),Z (.tup (nmD cl)),Y,Y]) ?_ ?_
 ·walk_at"w";refine tF (ws:=ws) hw hm ?_;walk_at"w";refine nr hw g hm nP ?_;rw[v]
  first|exact⟨rfl,rfl⟩|exact⟨rfl,trivial⟩|rfl
 rintro r V ⟨rfl,rfl⟩;refine Lc ?_;walk_at"w";rw[ej];refine⟨eL (by lia),?_⟩;rw[Qy];refine uI (λi r V=>∃z n,i<=ws.length/\(∀c a,c<a->a<ws.length->c<i->cw cl ws c≠cw cl ws a)/\V=[]/\r=[Z (webD w),Z (ot ws cs),Z (.tup (nmD ws)),Z (.tup (nmD cs)),Z (.tup (nmD cl)),z,n]) _ 0 _ _ ⟨_,_,by lia,λc a _ _ h=>by lia,O,O⟩ (λ_ _ _ _=>rfl) ?_ ?_
 ·rintro i d l r V ⟨z,n,hi,b,rfl,rfl⟩;have p:=(R9 l).1;rw[eo]at p;rw[kT,gP1,cr p]at l;cases l;rw[bL]at *
  walk_at"w";unfold qB;unfold fF;rw[dN];walk_at"w";rw[ej];refine⟨Dv (by lia) (by lia),eL (by lia),?_⟩;have B:fT ((i:Int)+1) (((ws.length:Nat):Int)-((i:Int)+1)).toNat=(af (ws.length-(i+1))).map λk:Nat=>D.int ((i+1+k:Nat):Int):=by
   rw[nU,show(((ws.length:Nat):Int)-((i:Int)+1)).toNat=ws.length-(i+1) by lia];refine cM λk _=>?_
   push_cast;rfl
  rw[B];refine uI (λk r V=>∃n,(∀a,i<a->a<i+1+k->cw cl ws i≠cw cl ws a)/\V=[]/\r=[Z (webD w),Z (ot ws cs),Z (.tup (nmD ws)),Z (.tup (nmD cs)),Z (.tup (nmD cl)),Z (.int (i:Nat)),n]) _ 0 _ _ ⟨_,λa h h'=>by lia,O,O⟩ (λ_ _ _ _=>rfl) ?_ ?_
  ·rintro k d l r V ⟨n,u,rfl,rfl⟩;have t:=(R9 l).1;rw[lM1,cB]at t;rw[gP1,cr t]at l;cases l;rw[bL]at *
   walk_at"w";unfold qC;walk_at"w";refine vy (by lia) ?_;refine vy (by rw[f];exact kw g s) ?_;refine vy (by lia) ?_;refine vy (by rw[f];exact kw g s) ?_;walk_at"w";rw[show((((cl.getD (ws.getD i 0) 0:Nat):Int) == ((cl.getD (ws.getD (i+1+k) 0) 0:Nat):Int)))=tf (cw cl ws i=cw cl ws (i+1+k))from Kq];by_cases y:cw cl ws i=cw cl ws (i+1+k)
   ·rw [mz y];walk_at"w";have e:Al cl ws (alD i (i+1+k) cl):=.yes i (i+1+k) (by lia) (by lia) y fun c a h1 h2 o=>by
     rcases o with o|⟨rfl,o⟩
     ·exact b c a h1 h2 o
     ·exact u a h1 o
    exact .inr ⟨_,O,.inr ⟨_,O,.inr ⟨_,O,e.und,q _ e⟩⟩⟩
   ·rw[yS y];walk_at"w";refine .inl ⟨_,λa h1 h2=>?_,O⟩;rcases(show a<i+1+k\/a=i+1+k by lia)with h|rfl
    ·exact u a h1 h
    ·exact y
  ·rintro r V ⟨n,u,rfl,rfl⟩;rw[lM1,cB,bL]at u;refine .inl ⟨O,_,_,by lia,λc a h1 h2 o=>?_,O,O⟩;rcases(show c<i\/c=i by lia)with h|rfl
   ·exact b c a h1 h2 h
   ·exact u a h1 (by lia)
 ·rintro r V ⟨z,n,hi,b,rfl,rfl⟩;rw[eo,bL]at b;refine .inl ⟨O,?_⟩
  try walk_at"w"
  have e:Al cl ws .non:=.no λi j h1 h2=>b i j h1 h2 (by lia);exact⟨O,q _ e⟩
def Kg(cl:List Nat):D:=.tup [.str "colours",.tup (nmD cl)]
theorem Kf{a:List Nat}:(Kg a).und 0=M:=by unfold Kg;rw[D.und,D.unds,D.unds,D.und,D.und,fy];rfl
inductive Nv (m:Nat)(w:dJ)(ws cs:List Nat)(b:Bool):D->Prop
 |co (h:¬ (gv m w (sgL m ws cs true)).Nodup):Nv m w ws cs b (Kg (gv m w (sgL m ws cs true)))
 |al (d:D) (h:(gv m w (sgL m ws cs true)).Nodup) (hb:b=true) (hd:Al (gv m w (sgL m ws cs false)) ws d):Nv m w ws cs b d
 |no (h:(gv m w (sgL m ws cs true)).Nodup) (hb:b=false):Nv m w ws cs b .non
theorem Fn{w:dJ}(hw:WebJ m w)(c:0<m)(hm:m<=8)(h:∀x∈ws,x<m)(g:ws.length<=20)(q:∀d,Nv m w ws cs b d->Q (d,S)):W (dI 3 kn [webD w,ot ws cs,.bl b] S) Q:=by
 refine fD O (by rw[D.unds,eA,D.unds,mD];rfl) ?_;unfold kn;refine iO ?_;unfold yB;refine d3 (λr V=>V=[]/\r=[Z (webD w),Z (ot ws cs),Z (.bl b),Z (.tup (nmD (gv m w (sgL m ws cs M))))]) ?_ ?_
 ·walk_at"w";refine DA hw hm ?_;walk_at"w";refine nr hw c hm nP ?_
  first|exact⟨rfl,rfl⟩|exact⟨rfl,trivial⟩|rfl
 rintro r V ⟨rfl,rfl⟩;have k:(gv m w (sgL m ws cs M)).length=m:=md;refine JY (λt=>t=(!tf (gv m w (sgL m ws cs M)).Nodup,[])) ?_ (λV e=>?_) λV e=>?_
 ·walk_at"w";refine AL (by lia) ?_;walk_at"w"
 ·injection e with a i;subst i;have f:¬ (gv m w (sgL m ws cs M)).Nodup:=λz=>by rw[mz z]at a;cases a
  walk_at"w";exact⟨Kf,q _ (.co f)⟩
 ·injection e with a i;subst i;have f:(gv m w (sgL m ws cs M)).Nodup:=RD λz=>by rw[yS z]at a;cases a
  cases b with
  |true=>
   walk_at"w";refine GO (cs:=cs) hw c hm h g λd j=>?_;exact⟨j.und,q d (.al d f O j)⟩
  |false=>
   walk_at"w";exact⟨O,q _ (.no f O)⟩
theorem De(xs:List Int)(x:Int):ddI (xs++[x])=RH (ddI xs) x:=by unfold ddI;rw[ci];rfl
theorem yu{y:Int}:∀(xs acc:List Int),y∈xs.foldl RH acc↔y∈acc\/y∈xs
 |[],acc=>by simp
 |x::xs,acc=>by
  rw[b4,yu xs];unfold RH;split
  ·rename_i h;obtain⟨z,a,e⟩:=bP.mp h;have e:=RW.mp e;subst e;rw[aF];exact⟨λh=>h.elim .inl λh=>.inr (.inr h),λh=>h.elim .inl λh=>h.elim (λe=>.inl (e ▸ a)) .inr⟩
  ·rw[aG,cv,aF,or_assoc]
theorem yt{y:TK}:∀(xs acc:List TK),y∈xs.foldl kG acc↔y∈acc\/y∈xs
 |[],acc=>by simp
 |x::xs,acc=>by
  rw[b4,yt xs];unfold kG;split
  ·rename_i h;rw[aF];exact⟨λh=>h.elim .inl λh=>.inr (.inr h),λq=>q.elim .inl λq=>q.elim (λe=>.inl (e ▸ h)) .inr⟩
  ·rw[aG,cv,aF,or_assoc]
theorem Gx(xs:List Int)(x:Int):(ddI (xs++[x])).length=(ddI xs).length+if x∈xs then 0 else 1:=by
 rw[De];unfold RH;have a:x∈ddI xs↔x∈xs:=by unfold ddI;rw[yu];simp
 by_cases h:x∈xs
 ·rw[ak h,ak (bP.mpr ⟨x,a.mpr h,by simp⟩)];rfl
 ·rw[aj h,aj λz=>?_,lA1];rfl;obtain⟨y,b,e⟩:=bP.mp z;have e:=RW.mp e;subst e;exact h (a.mp b)
theorem Gw(xs:List TK)(x:TK):(ddK (xs++[x])).length=(ddK xs).length+if x∈xs then 0 else 1:=by
 have e:ddK (xs++[x])=kG (ddK xs) x:=by unfold ddK;rw[ci];rfl
 rw[e];unfold kG;have a:x∈ddK xs↔x∈xs:=by unfold ddK;rw[yt];simp
 by_cases h:x∈xs
 ·rw[ak h,ak (a.mpr h)];rfl
 ·rw[aj h,aj λz=>h (a.mp z),lA1];rfl
theorem mI{α:Type}{f:Nat->α}{x:α}:x∈(af i).map f ↔ ∃j,j<i/\f j=x:=by
 rw[cf];exact⟨λ⟨j,h,e⟩=>⟨j,aC.mp h,e⟩,λ⟨j,h,e⟩=>⟨j,aC.mpr h,e⟩⟩
theorem yH{f:Nat->TK}{g:Nat->Int}(h:∀ i j,f i=f j->g i=g j):∀ m:Nat,(ddI ((List.range m).map g)).length<=(ddK ((List.range m).map f)).length /\
  ((ddK ((af m).map f)).length=(ddI ((af m).map g)).length ↔ ∀i,i<m->(∃j,j<i/\g j=g i) -> ∃j,j<i/\f j=f i)
 |0=>⟨nR1 _,λ_ i hi=>absurd hi (bw _),λ_=>rfl⟩
 |m + 1=>by
  obtain⟨h1,h2⟩:=yH h m;rw[c9,cc,cc,List.map_singleton,List.map_singleton,Gx,Gw];by_cases b:f m∈(af m).map f
  ·have a:g m∈(List.range m).map g:=by
    obtain⟨j,d,e⟩:=mI.mp b;exact mI.mpr ⟨j,d,h _ _ e⟩
   rw[ak b,ak a];refine⟨h1,h2.trans ⟨λq i hi c=>?_,λq i hi=>q i (by lia)⟩⟩;rcases bS i m with z|z
   ·exact q i z c
   ·have:i=m:=by lia
    subst this;exact mI.mp b
  ·rw[aj b];by_cases a:g m∈(af m).map g
   ·rw[ak a];refine⟨by lia,λq=>absurd q (by lia),λq=>?_⟩;exact absurd (mI.mpr (q m (bB m) (mI.mp a))) b
   ·rw[aj a];refine⟨by lia,⟨λq i hi c=>?_,λq=>?_⟩⟩
    ·rcases bS i m with z|z
     ·exact h2.mp (by lia) i z c
     ·have:i=m:=by lia
      subst this;exact absurd (mI.mpr c) a
    ·rw[h2.mpr λi hi=>q i (by lia)]
theorem wB{α β:Type}{f:Nat->α}{g:Nat->β}(h:∀i j,f i=f j->g i=g j):(∀i,i<m->(∃j,j<i/\g j=g i) -> ∃j,j<i/\f j=f i) ↔ ∀i j,i<m->j<m->g i=g j->f i=f j:=by
 constructor
 ·intro q;have a:∀ n i,i<n->i<m -> ∀ j,j<i->g j=g i->f j=f i:=by
   intro n
   induction n with
   |zero=>intro i hi;exact absurd hi (bw _)
   |succ n ih=>
    intro i hi d j c e;obtain⟨k,l,b⟩:=q i d ⟨j,c,e⟩;rcases b8 k j with z|z|z
    ·exact(ih j (by lia) (by lia) k z ((h _ _ b).trans e.symm)).symm.trans b
    ·rw[<- z];exact b
    ·exact(ih k (by lia) (by lia) j z (e.trans (h _ _ b).symm)).trans b
  intro i j hi c e;rcases b8 i j with z|z|z
  ·exact a (j+1) j (by lia) c i z e
  ·rw[z]
  ·exact(a (i+1) i (by lia) hi j z e.symm).symm
 ·rintro q i hi ⟨j,c,e⟩;exact⟨j,c,q j i (by lia) hi e⟩
abbrev KH:=Int×Int×List (Int×Nat)
def zD(e:Int×Nat):D:=.tup [.int e.1,.int (e.2:Nat)]
def zT(e:Int×Nat):TK:=.tup [.int e.1,.int (e.2:Nat)]
def D2(ts:List Int)(e:Nat×Nat):Int×Nat:=(iU ts e.1,e.2)
def qT(w:dJ)(sg ts:List Int)(r:Nat):KH:=(iU ts r,iU sg r,(gG w r).map (D2 ts))
def lX(x:KH):D:=.tup [.int x.1,.int x.2.1,.tup (x.2.2.map zD)]
def nH(x:KH):TK:=.tup [.int x.1,.int x.2.1,.tup (x.2.2.map zT)]
theorem FR(x:KH):(lX x).und 0=M:=by
 unfold lX;rw[D.und,D.unds,D.unds,D.unds,D.und,Mi.eD (λ_ _=>rfl)];rfl
theorem He:∀l:List (Int×Nat),zC (l.map zD)=Z (l.map zT)
 |[]=>rfl
 |e::l=>by rw[mP1,zC,He l];rfl
theorem Hn:∀l:List (Int×Nat),TK.depAll (l.map zT)<=2
 |[]=>by decide
 |e::l=>by
  have:=Hn l;rw[mP1,TK.depAll];have:(zT e).dep=1:=rfl;lia
theorem LS(x:KH):keyT (lX x)=Z (nH x):=by
 have e:zC [.int x.1,.int x.2.1,.tup (x.2.2.map zD)]=Z [.int x.1,.int x.2.1,.tup (x.2.2.map zT)]:=by
  simp only[zC,kD,He,oP1,oS1]
 unfold lX;rw[keyT,e,oS1,ak]
 ·rfl
 ·have:=Hn x.2.2;simp[TK.dep,TK.depAll];lia
theorem Ay:∀{a b:List (Int×Nat)},a.map zT=b.map zT->a=b
 |[],[],_=>rfl
 |[],_::_,h=>by cases h
 |_::_,[],h=>by cases h
 |x::a,y::b,h=>by
  rw[mP1,mP1]at h;injection h with h1 h2;unfold zT at h1;injection h1 with h1;injection h1 with c h1;injection h1 with d h1;injection c with c;injection d with d;rw[Ay h2,show x=y from Prod.ext c (by lia)]
theorem uK{x y:KH}(h:nH x=nH y):x=y:=by
 unfold nH at h;injection h with h;injection h with a h;injection h with b h;injection h with c h;injection a with a;injection b with b;injection c with c;exact Prod.ext a (Prod.ext b (Ay c))
def Fit(m:Nat)(w:dJ)(sg ts:List Int):Prop:=∀i j,i<m->j<m->iU ts i=iU ts j->qT w sg ts i=qT w sg ts j
theorem Gu(m:Nat)(w:dJ)(sg ts:List Int):(ddK ((af m).map λr=>nH (qT w sg ts r))).length=(ddI ((af m).map (iU ts))).length↔Fit m w sg ts:=by
 have h:∀i j,nH (qT w sg ts i)=nH (qT w sg ts j)->iU ts i=iU ts j:=λi j e=>by
  have:=uK e;exact congrArg (·.1) this
 rw[(yH (f:=λr=>nH (qT w sg ts r)) h m).2,wB h];exact⟨λq i j hi a e=>uK (q i j hi a e),λq i j hi a e=>congrArg nH (q i j hi a e)⟩
theorem xZ(f:Nat->KH):∀l:List Nat,q3 (l.map λr=>lX (f r))=Z (l.map λr=>nH (f r))
 |[]=>rfl
 |r::l=>by rw[mP1,q3,LS,oS1,xZ f l];rfl
theorem ED{ts:List Int}(h:ts.length=m):(af m).map (iU ts)=ts:=by
 subst h;apply bW;intro i;rw[gP1];by_cases hi:i<ts.length
 ·rw[cr hi,gG1 hi];unfold iU;rw[oP1,bH,gG1 hi];rfl
 ·rw[bX (by simpa using hi),bX (by lia)];rfl
theorem Cv{w:dJ}{sg a:List Int}(hw:WebJ m w)(hm:m<=8)(hs:sg.length=m)(ht:a.length=m):W (gB [webD w,iA sg,iA a] []) λp=>∃k,p.1 = .ref k/\p.2[k]?=Z (.lst ((af m).map λr=>lX (qT w sg a r)))/\p.2.all (Ob.und 0)=M:=by
 unfold gB;refine iO ?_;unfold tK;refine d3 (λr V=>V=[.lst []]/\r=[Z (webD w),Z (iA sg),Z (iA a),Z (.ref 0),Y,Y,Y]) ?_ ?_
 ·walk_at"w"
  try exact⟨O,trivial⟩
 rintro r V ⟨rfl,rfl⟩;refine d3 (λr V=>∃G g c h,G.all (Ob.und 0)=M/\V = .lst ((af m).map λr=>lX (qT w sg a r))::G/\r=[Z (webD w),Z (iA sg),Z (iA a),Z (.ref 0),g,c,h]) ?_ ?_
 ·unfold fF;rw[dN];refine rT (xs:=w.map λrow=>.tup (row.map pD)) O ?_;refine eK (λi r V=>∃G g c h,i<=m/\G.all (Ob.und 0)=M/\V = .lst ((af i).map λr=>lX (qT w sg a r))::G/\r=[Z (webD w),Z (iA sg),Z (iA a),Z (.ref 0),g,c,h]) _ 0 _ _ ⟨[],_,_,_,by lia,O,O,O⟩ (λ_ _ _ _=>rfl) ?_ ?_
  ·rintro i A l r V ⟨G,g,c,h,hi,o,rfl,rfl⟩;rw[gD,gP1]at l;obtain⟨z,v,rfl⟩:=Sb l;obtain⟨row,b,rfl⟩:=Sb v;have j:i<m:=by rw[<- hw.len];exact(R9 b).1
   have y:=hw.le i row b;rw[bL]at *
   walk_at"w";unfold mH;refine d3 (λr V=>V = .lst ((af i).map λr=>lX (qT w sg a r))::(G++[.lst (row.map λe=>zD (D2 a e))])/\r=[Z (webD w),Z (iA sg),Z (iA a),Z (.ref 0),Z (.int (i:Nat)),Z (.tup (row.map pD)),Z (.tup (row.map λe=>zD (D2 a e)))]) ?_ ?_
   ·walk_at"w";rw[hD];refine ji (f:=pD) (λe=>zD (D2 a e)) (λq=>∃s t,q=[s,t,Z (iA a)]) O row _ ⟨_,_,O⟩ ?_ ?_
    ·rintro e x q ⟨s,t,rfl⟩;obtain⟨d,u⟩:=bq x;have:=hw.to i d e ⟨row,b,u⟩;rw[pD];walk_at"w";refine DP ht this ?_;walk_at"w";exact⟨O,_,_,O⟩
    ·rintro q _;refine⟨dR (by rw[lM1];lia),?_⟩;walk_at"w";refine ed (xs:=row.map λe=>zD (D2 a e)) (by rw[gC1,dP];rfl) ?_
     first|exact⟨rfl,rfl⟩|exact⟨rfl,trivial⟩|rfl
   rintro r V ⟨rfl,rfl⟩;unfold fG;rw[dN];refine ja ?_;walk_at"w";refine⟨0,(af i).map λr=>lX (qT w sg a r),O,O,?_⟩;refine DP ht j ?_;walk_at"w";refine DP hs j ?_;walk_at"w";refine(k8 (n:=0) (xs:=(af i).map λr=>lX (qT w sg a r)) O).mpr ⟨dR (by rw[lM1,cB];lia),?_⟩;refine⟨G++[.lst (row.map λe=>zD (D2 a e))],_,_,_,by lia,?_,?_,O⟩
   ·rw[cN,o,bN,Ob.und,Mi.eD (λ_ _=>rfl)];rfl
   ·have e:lX (qT w sg a i)=D.tup [D.int (iU a i),D.int (iU sg i),D.tup (row.map fun e=>zD (D2 a e))]:=by
     unfold qT;rw[ke b,lX,bu];rfl
    rw[c9,cc,mP1,e];rfl
  ·rintro r V ⟨G,g,c,h,hi,o,rfl,rfl⟩;rw[gO,lM1,bL,hw.len];exact⟨O,G,_,_,_,o,O,O⟩
 rintro r V ⟨G,g,c,h,o,rfl,rfl⟩;walk_at"w";refine⟨0,O,O,?_⟩;rw[bN,o,Ob.und,Mi.eD (λ_ _=>FR _)];rfl
theorem JS{T:Ty}{x:Str}:uP S T (.str x)=Z (decide (T = .str)):=rfl
theorem xg{xs:List D}(a:D.unds 0 xs=M)(h:xs.length=m)(q:Q (.bl M,S)):W (dI 2 eI [.tup xs,.int m] S) Q:=by
 refine fD O (by rw[D.unds,D.und,a];rfl) ?_;unfold eI;refine iO ?_;unfold iM
 wp_walk using tO,CA,hZ
 rw[h];simp;exact⟨O,q⟩
theorem Fm{xs:List D}(a:D.unds 0 xs=M)(h:xs.length≠m)(q:Q (.bl J,S)):W (dI 2 eI [.tup xs,.int m] S) Q:=by
 refine fD O (by rw[D.unds,D.und,a];rfl) ?_;unfold eI;refine iO ?_;unfold iM
 wp_walk using tO,CA,hZ
 have e:((xs.length:Int) == (m:Int))=J:=by simp;lia
 rw[e];exact⟨O,q⟩
theorem w6{i:Int}(q:Q (.bl M,S)):W (dI 1 gm [.int i] S) Q:=by
 refine fD O O ?_;unfold gm;refine iO ?_;unfold pK
 wp_walk using tO,JT
 simp only[reduceCtorEq,decide_false,decide_true];walk_at"w";exact⟨O,q⟩
theorem Kz{xs:List D}(h:S[n]?=Z (.lst (xs.map λ_=>D.bl M)))(q:Q (.bl M,S)):W (qc (.ref n) S) Q:=by
 refine W.of ?_ q;unfold qc;rw[fR h,oS1];dsimp only;rw[pP (f:=λ_=>M)];simp
theorem yb:∀ns:List Int,jj (ns.map D.int)=Z ns
 |[]=>rfl
 |n::ns=>by
  have:=yb ns;rw[mP1];simp only[jj,this];rfl
theorem t8{ns:List Int}(a:ns.length<=100):iH (iA ns) S=Z (.ref S.length,S++[.iset (ddI ns)]):=by
 unfold iH;rw[iD];dsimp only;rw[yb,oS1,ak (by unfold RI;lia)]
theorem ND{w:dJ}{sg a:List Int}(hm:m<=8)(h:S[n]?=Z (.lst ((af m).map λr=>lX (qT w sg a r)))):jT (.ref n) S=Z (.int ((ddK ((af m).map λr=>nH (qT w sg a r))).length:Nat),S):=by
 unfold jT;rw[fR h];dsimp only;rw[xZ,oS1,ak (by rw[lM1,cB];lia)]
theorem ya{w:dJ}{sg a:List Int}(hw:WebJ m w)(hm:m<=8)(hs:sg.length=m)(ht:a.length=m)(q:Q (.bl (tf (Fit m w sg a)),S)):W (dI 3 eX [webD w,iA sg,iA a] S) Q:=by
 refine fD O (by rw[D.unds,D.unds,D.unds,eA,gA,gA];rfl) ?_;unfold eX;refine iO ?_;unfold jX;refine d3 (λr V=>∃G,V=G/\r=[Z (webD w),Z (iA sg),Z (iA a)]) ?_ ?_
 ·have c:eB (webD w) []=Z (.int (m:Nat),[]):=by rw[webD,hZ,lM1,hw.len]
  wp_walk using c
  refine xg (eD λ_ _=>rfl) (by rw[lM1];exact ht) ?_;walk_at"w";rw[hD];refine ji (f:=D.int) (λ_=>D.bl M) (λr=>∃x,r=[x]) O a _ ⟨_,O⟩ ?_ ?_
  ·rintro i hi r ⟨x,rfl⟩;walk_at"w";refine w6 ?_;exact⟨O,O,_,O⟩
  ·rintro s _;refine⟨dR (by rw[lM1];lia),?_⟩;refine Kz (xs:=a.map D.int) (by rw[bu];rfl) ?_;walk_at"w";exact⟨_,O,trivial⟩
 rintro r V ⟨G,rfl,rfl⟩;have l:=Cv hw hm hs ht;walk_at"w";refine Hr O (by rw[D.unds,D.unds,D.unds,eA,gA,gA];rfl) ?_;refine l.mono ?_;rintro⟨d,V⟩ ⟨k,h1,h2,e⟩;refine⟨k,_,h1,h2,e,λG j n p o=>?_⟩;have b:=ND hm n
 wp_walk using b
 rw[t8 (by lia),dV];dsimp only;refine wS (by rw[dP];rfl) ?_;walk_at"w";refine⟨O,?_⟩;have g:((((ddK ((af m).map λr=>nH (qT w sg a r))).length:Nat):Int) == (((ddI a).length:Nat):Int))=tf (Fit m w sg a):=yU (by
  rw[RW,<- Gu,ED ht];exact⟨λh=>by exact_mod_cast h,λh=>by rw[h]⟩)
 rw[g];exact q
theorem sv{w:dJ}{d:Nat}{e:Nat×Nat}(h:(gG w r)[d]?=Z e):At w r d e:=by
 unfold gG at h;cases hr:w[r]? with
 |none=>rw[hr]at h;simp at h
 |some row=>rw[hr]at h;exact⟨row,hr,h⟩
theorem Hh{sg:List Int}(a:sg.length=m)(hr:r<m):dL (iA sg) (.int r) S=Z (.int (iU sg r),S):=by
 obtain⟨p,e,rfl⟩:=DP (Q:=λp=>p=(.int (iU sg r),S)) a hr O;exact e
theorem Hg{xs:List D}{x:D}(hx:xs[i]?=Z x):dL (.tup xs) (.int i) S=Z (x,S):=by
 obtain⟨p,e,rfl⟩:=hU (Q:=λp=>p=(x,S)) hx O;exact e
theorem su{w:dJ}(hw:WebJ m w){d:Nat}{e:Nat×Nat}(he:(gG w r)[d]?=Z e):e.1<m:=hw.to r d e (sv he)
def El(w:dJ)(ts:List Int)(i b:Nat):Prop:=∀p∈(gG w i).zip (gG w b),iU ts p.1.1=iU ts p.2.1/\p.1.2=p.2.2
theorem sS{w:dJ}{sg d:List Int}{b:Nat}:qT w sg d i=qT w sg d b↔iU d i=iU d b/\iU sg i=iU sg b/\(gG w i).length=(gG w b).length/\El w d i b:=by
 have e:∀a c:List (Nat×Nat),a.map (D2 d)=c.map (D2 d)↔a.length=c.length /\ ∀p∈a.zip c,iU d p.1.1=iU d p.2.1/\p.1.2=p.2.2:=λa=>by
  induction a with
  |nil=>intro c;cases c<;>simp
  |cons x a ih=>
   intro c;cases c with
   |nil=>simp
   |cons y c=>
    rw[mP1,mP1,List.cons.injEq,ih c,bR,lC1,lC1];unfold D2;rw[R8];constructor
    ·rintro⟨⟨h1,h2⟩,h,g⟩;refine⟨by lia,λp f=>?_⟩;rcases aF.mp f with z|z
     ·subst z;exact⟨h1,h2⟩
     ·exact g p z
    ·rintro⟨h1,h2⟩;exact⟨h2 (x,y) mS1,by lia,λp f=>h2 p (mC1 _ f)⟩
 unfold qT El;rw[R8,R8,e]
def KO(ts:List Int):D:=.tup [.str "colours",iA ts]
def D6(i j:Nat)(ts:List Int):D:=.tup [.str "alike",.int (i:Nat),.int (j:Nat),iA ts]
theorem GA{a:List Int}:(KO a).und 0=M:=by unfold KO;rw[D.und,D.unds,D.unds,gA];rfl
theorem yI{a:List Int}:(D6 i j a).und 0=M:=by unfold D6;rw[D.und,D.unds,D.unds,D.unds,D.unds,gA];rfl
def vC(m:Nat)(w:dJ)(ws cs:List Nat)(ts:List Int):Bool:=tf (Fit m w (sgL m ws cs M) ts)&&decide ((ddI ts).length<m)
def vA(m:Nat)(w:dJ)(ws cs:List Nat)(b:Bool)(i j:Nat)(ts:List Int):Bool:=b&&(tf (Fit m w (sgL m ws cs J) ts)&&(decide (i<j)&&iU ts (ws.getD i 0) == iU ts (ws.getD j 0)))
theorem KU{a:List Int}(e:a.length<=100)(q:Q (.bl (!decide ((ddI a).length<a.length)),S)):W (dI 1 eT [iA a] S) Q:=by
 refine fD O (by rw[D.unds,gA];rfl) ?_;unfold eT;refine iO ?_;unfold jp;have c:=t8 (ns:=a) (S:=[]) e
 wp_walk using c
 refine wS O ?_;walk_at"w";rw[lM1];refine⟨O,?_⟩;have b:=(pA a [] bp).1;have d:((((ddI a).length:Nat):Int) == ((a.length:Nat):Int)) = !decide ((ddI a).length<a.length):=by
  have:(ddI a).length<=a.length:=by simpa[ddI]using b
  rw[bO];simp;lia
 rw[d];exact q
theorem wt{x y:Str}{ds:List D}(c:D.unds 0 ds=M)(q:Q (.bl (decide (ds.length+1=n/\x=y)),S)):W (dI 3 gr [.tup (.str x::ds),.str y,.int n] S) Q:=by
 have a:D.unds 0 (.str x::ds)=M:=by rw[D.unds,c];rfl
 refine fD O (by rw[D.unds,D.und,a];rfl) ?_;unfold gr;refine iO ?_;unfold nt;have b:∀S,dL (.tup (.str x::ds)) (.int 0) S=Z (.str x,S):=λS=>Hg (i:=0) O;walk_at"w";by_cases h:ds.length+1=n
 ·refine xg a (by rw[lC1];exact h) ?_
  wp_walk using tO,b,JS
  have e:decide (ds.length+1=n/\x=y)=(x == y):=by rw[bO];simp[h]
  rw[e]at q;exact⟨O,q⟩
 ·refine Fm a (by rw[lC1];exact h) ?_;walk_at"w";have e:decide (ds.length+1=n/\x=y)=J:=by simp[h]
  rw[e]at q;exact⟨O,q⟩
theorem Be{w:dJ}{a:List Int}(hw:WebJ m w)(hm:m<=8)(ht:a.length=m)(q:Q (.bl (vC m w ws cs a),S)):W (dI 4 d2 [webD w,ot ws cs,.bl b,KO a] S) Q:=by
 refine fD O (by rw[D.unds,D.unds,D.unds,D.unds,eA,mD,GA];rfl) ?_;unfold d2;refine iO ?_;unfold iL;have c:∀S,dL (KO a) (.int 1) S=Z (iA a,S):=λS=>Hg (i:=1) O;walk_at"w";refine wt (x:="colours") (y:="colours") (n:=2) (ds:=[iA a]) (by rw[D.unds,gA];rfl) ?_;walk_at"w";refine DA hw hm ?_
 wp_walk using c
 refine ya hw hm nP ht ?_;unfold vC at q;cases hf:tf (Fit m w (sgL m ws cs M) a)with
 |false=>
  rw[hf]at q;walk_at"w";exact⟨O,q⟩
 |true=>
  rw[hf]at q
  wp_walk using c
  refine KU (by lia) ?_;walk_at"w";rw[ht];refine⟨O,?_⟩;simpa using q
theorem n6(q:Q (.bl (decide (i<n)),S)):W (dI 2 gI [.int i,.int n] S) Q:=by
 refine fD O O ?_;unfold gI;refine iO ?_;unfold pL;walk_at"w";refine w6 ?_;walk_at"w";unfold LO;walk_at"w";rw[ah (show(0:Int)<=(i:Int) by lia)];walk_at"w";refine⟨O,?_⟩;have:decide ((i:Int)<(n:Int))=decide (i<n):=by rw[bO];simp
 rw[this];exact q
theorem yK(hi:i<rs.length):dL (.tup (nmD rs)) (.int i) S=Z (.int (rs.getD i 0:Nat),S):=by
 obtain⟨p,e,rfl⟩:=vy (rs:=rs) (Q:=λp=>p=(.int (rs.getD i 0:Nat),S)) hi O;exact e
theorem Bo{w:dJ}{a:List Int}(hw:WebJ m w)(c:0<m)(hm:m<=8)(ht:a.length=m)(d:∀x∈ws,x<m)(hi:i<ws.length)(e:j<ws.length)(q:Q (.bl (vA m w ws cs M i j a),S)):W (dI 3 f0 [webD w,ot ws cs,D6 i j a] S) Q:=by
 refine fD O (by rw[D.unds,D.unds,D.unds,eA,mD,yI];rfl) ?_;unfold f0;refine iO ?_;unfold k0;refine d3 (λr V=>V=[]/\r=[Z (webD w),Z (ot ws cs),Z (D6 i j a),Z (.tup (nmD ws)),Z (.tup (nmD cs)),Y,Y,Y,Y]) ?_ ?_
 ·unfold ot;walk_at"w"
 rintro r V ⟨rfl,rfl⟩;refine d3 (λr V=>V=[]/\r=[Z (webD w),Z (ot ws cs),Z (D6 i j a),Z (.tup (nmD ws)),Z (.tup (nmD cs)),Z (.str "alike"),Z (.int (i:Nat)),Z (.int (j:Nat)),Z (iA a)]) ?_ ?_
 ·unfold D6;walk_at"w"
 rintro r V ⟨rfl,rfl⟩;have f:∀S,eB (.tup (nmD ws)) S=Z (.int (ws.length:Nat),S):=λS=>by rw[hZ,ej]
 unfold vA at q;by_cases b:i<j
 ·refine d3 (λr V=>V=[]/\r=[Z (webD w),Z (ot ws cs),Z (D6 i j a),Z (.tup (nmD ws)),Z (.tup (nmD cs)),Z (.str "alike"),Z (.int (i:Nat)),Z (.int (j:Nat)),Z (iA a)]) ?_ ?_
  ·walk_at"w";rw[ej];refine n6 ?_;rw[ah e];walk_at"w";refine n6 ?_;rw[ah b];walk_at"w"
  rintro r V ⟨rfl,rfl⟩;walk_at"w";refine tF (ws:=ws) hw hm ?_;refine ya hw hm nP ht ?_;cases hf:tf (Fit m w (sgL m ws cs J) a)with
  |false=>
   rw[hf]at q;walk_at"w";exact⟨O,q⟩
  |true=>
   rw[hf,ah b]at q;have a1:=yK (S:=([]:Sto)) hi;have a2:=yK (S:=([]:Sto)) e;have b1:=Hh (S:=([]:Sto)) ht (kw (i:=i) c d);have b2:=Hh (S:=([]:Sto)) ht (kw (i:=j) c d)
   wp_walk using a1,a2,b1,b2
   exact⟨O,q⟩
 ·unfold dQ;rw[dN];walk_at"w";rw[ej];refine n6 ?_;rw[ah e];walk_at"w";refine n6 ?_;rw[ai b]at q ⊢;walk_at"w";refine⟨O,?_⟩;simpa using q
theorem Bf{w:dJ}{a:List Int}(hw:WebJ m w)(d:0<m)(hm:m<=8)(ht:a.length=m)(e:∀x∈ws,x<m)(hi:i<ws.length)(f:j<ws.length)(q:Q (.bl (vA m w ws cs b i j a),S)):W (dI 4 d2 [webD w,ot ws cs,.bl b,D6 i j a] S) Q:=by
 refine fD O (by rw[D.unds,D.unds,D.unds,D.unds,eA,mD,yI];rfl) ?_;have c:D.unds 0 [.int (i:Nat),.int (j:Nat),iA a]=M:=by rw[D.unds,D.unds,D.unds,gA];rfl
 unfold d2;refine iO ?_;unfold iL;walk_at"w";refine wt (x:="alike") (y:="colours") (n:=2) (ds:=[.int (i:Nat),.int (j:Nat),iA a]) c ?_;walk_at"w";cases b with
 |false=>
  walk_at"w";exact⟨O,q⟩
 |true=>
  walk_at"w";refine wt (x:="alike") (y:="alike") (n:=4) (ds:=[.int (i:Nat),.int (j:Nat),iA a]) c ?_;walk_at"w";refine Bo hw d hm ht e hi f ?_;exact⟨O,q⟩
structure DL (m:Nat)(w:dJ):Prop where
 len:w.length=m
 le:∀row∈w,row.length<=4
 to:∀row∈w,∀e∈row,∃r,w[e.1]?=some r/\e.2<r.length
theorem BH{items:List D}{k:Int}{g:Option D}{Q:List D×Ev×Sto->Prop}(ho:fx o n)(hn:n+items.length<=2^50)(hk:0<k)(f:k<1073741824)(h:∀xs o' m,fx o' (n+items.length)->xs.Sublist items->Q (xs,[m,some (.ref 0)],o'::T)):
  W (fc [] (gN 0) (mB (m2 (b2 gEq) (mN (dI 2 dM) (dG (mV 1) (dG (mC (D.int k)) dH))) (mC (D.int (0))))) (eg (mV 0)) items [g,Z (.ref 0)] (o::T)) Q:=by
 refine iF (λi c r S=>∃o x,S=o::T/\r=[x,Z (.ref 0)]/\fx o (n+i)/\i<=items.length/\c.Sublist (items.take i)) items 0 [] _ _ ⟨o,g,O,O,by simpa using ho,by lia,by simp⟩ (λ_ _ _ _ _=>rfl) ?_ ?_
 ·rintro i d j c r S ⟨o,x,rfl,rfl,ho,hi,a⟩;have p:i<items.length:=(R9 j).1;have l:items.take (i+1)=items.take i++[d]:=by rw[cg,j];rfl
  walk_at"w";refine fE ho (by lia) hk f λe o' b q=>?_;walk_at"w";split
  ·exact⟨o',Z d,O,O,b.more (by lia),by lia,by rw[bL,l];simp at a;exact a.append (List.Sublist.refl _)⟩
  ·exact⟨o',Z d,O,O,b.more (by lia),by lia,by rw[bL,l];simp at a;exact a.trans (List.sublist_append_left _ _)⟩
 ·rintro xs r S ⟨o,x,rfl,rfl,ho,_,a⟩;refine h _ _ _ (by simpa using ho) (by simpa using a)
theorem Ht{w:dJ}{row:List (Nat×Nat)}(h:w[i]?=Z row)(q:Q (.tup (row.map pD),S)):W (dL (webD w) (.int i) S) Q:=
 hU (x:=.tup (row.map pD)) (by rw[gP1,h];rfl) q
noncomputable def crowd(ws:List Wk)(rm:Nat):Nat:=(ws.filter λu=>u.1 == rm).length
def Bn(a b c d:Bool)(ws:List Wk)(cs:List Nat)(u:Wk)(row:List (Nat×Nat)):D:=
 vW a b c d u.2.1 (if cs.contains u.1 then 1 else 0) row.length (if 1<crowd ws u.1 then 1 else 0)
theorem zQ{ws:List Wk}{c:Option D}{Q:List D×Ev×Sto->Prop}(h:∀ b,Q ((ws.filter fun u=>u.1 == a).map gz,b,S)):
  W (fc [] (gN 0) (mB (m2 (b2 gEq) (m2 (b2 dL) (mV 0) (mC (D.int (0)))) (mV 1))) (eg (mV 0)) (fv ws) [c,Z (.int a)] S) Q:=by
 refine iI (λu:Wk=>u.1 == a) gz (λr=>∃x,r=[x,Z (.int a)]) O ws _ ⟨_,O⟩ ?_ λb _=>h b;rintro u d r ⟨x,rfl⟩;walk_at"w";refine hU (i:=0) O ?_;walk_at"w";refine⟨?_,⟨_,O⟩,λ_=>trivial⟩;rw[bO,RW,RW];lia
theorem Mc {w x y z:D}{r:Ev}{m1 m2 b a:FE}(h1:m1 r S=some (w,S))(h2:m2 r S=some (x,S))(d:b r S=some (y,S))(c:a r S=some (z,S))
  (q:Q (.ref S.length,S++[.dct [(.inr "came",w),(.inr "chalk",x),(.inr "doors",y),(.inr "others",z)]])):
  W (xR [(mC (.str "came"),m1),(mC (.str "chalk"),m2),(mC (.str "doors"),b),(mC (.str "others"),a)] r S) Q:=by
 refine W.of ?_ q;simp only[xR,FK,mC,h1,h2,d,c,oS1,oP1,x0,nI];rfl
theorem F9 {w x y z:D}(h:S[n]? = some (.dct [(.inr "came",w),(.inr "chalk",x),(.inr "doors",y),(.inr "others",z)])):
  dL (.ref n) (.str "came") S=Z (w,S)/\dL (.ref n) (.str "chalk") S=Z (x,S)/\dL (.ref n) (.str "doors") S=Z (y,S)/\dL (.ref n) (.str "others") S=Z (z,S):=by
 refine⟨?_,?_,?_,?_⟩<;>(simp only[dL,h,mS,nI,oS1];rfl)
def wC:Nat->D
 |0=>.str "came" |1=>.str "chalk" |2=>.str "doors" |_=>.str "others"
def Hc:Nat->D
 |0=>.int 5|1=>.int 2|2=>.int 5|_=>.int 2
noncomputable def kR(a b c d:Bool)(w x y z:Int):Nat->D
 |0=>if a then .int w else .non
 |1=>if b then .int x else .non
 |2=>if c then .int y else .non
 |_=>if d then .int z else .non
theorem BQ {a c d:Bool}{w x y z:Int}(h:S[n]? = some (.dct [(.inr "came",.int w),(.inr "chalk",.int x),(.inr "doors",.int y),(.inr "others",.int z)]))(hi:i∈[0,1,2,3]){r:Ev}{f g:Nat}
  (h1:r[f]?=Z (Z (wC i))) (h2:r[g]?=Z (Z (.tup (gg a b c d)))) (e:r[j]?=Z (Z (.ref n))):
  uG (mB (m2 (b2 jl) (mV f) (mV g))) (m2 (b2 dL) (mV j) (mV f)) (mC D.non) r S=Z (kR a b c d w x y z i,S):=by
 obtain⟨k,o,l,m⟩:=F9 h;simp only[aF,bI,Rt]at hi;rcases hi with rfl|rfl|rfl|rfl
 ·cases a<;>simp only[uG,mB,m2,b2,mV,h1,h2,e,wC,oS1,Gf,k,kR,mC]<;>rfl
 ·cases b<;>simp only[uG,mB,m2,b2,mV,h1,h2,e,wC,oS1,CG,o,kR,mC]<;>rfl
 ·cases c<;>simp only[uG,mB,m2,b2,mV,h1,h2,e,wC,oS1,CF,l,kR,mC]<;>rfl
 ·cases d<;>simp only[uG,mB,m2,b2,mV,h1,h2,e,wC,oS1,zL,m,kR,mC]<;>rfl
theorem EA{w:dJ}{ws:List Wk}{a c d:Bool}{k:Nat}{u:Wk}{row:List (Nat×Nat)}(n:ws[k]? = Z u)(hr:w[u.1]? = Z row)(o:ws.length<=1000)(q:Q (Bn a b c d ws cs u row,S)):W (dI 4 iy [webD w,.tup (gg a b c d),eE ws cs,.int k] S) Q:=by
 refine fD O (by simp[D.unds,eA,ic];rw[D.und];exact⟨u5 a b c d,O⟩) ?_;unfold iy;refine iO ?_;unfold pI;refine d3 (λr S=>S=[]/\r=[Z (webD w),Z (.tup (gg a b c d)),Z (eE ws cs),Z (.int k),Z (.tup (fv ws)),Z (.tup (nmD cs)),Y,Y,Y,Y,Y]) ?_ ?_
 ·rw[eE];walk_at"w"
 rintro r S ⟨rfl,rfl⟩;refine d3 (λr S=>S=[]/\r=[Z (webD w),Z (.tup (gg a b c d)),Z (eE ws cs),Z (.int k),Z (.tup (fv ws)),Z (.tup (nmD cs)),Z (.int u.1),Z (.int u.2.1),Z (.int u.2.2),Y,Y]) ?_ ?_
 ·walk_at"w";refine hU (i:=k) (x:=gz u) (by rw[fv,gP1,n];rfl) ?_;rw[gz];walk_at"w"
 rintro r S ⟨rfl,rfl⟩;refine d3 (λr S=>S=[.lst ((ws.filter λv=>v.1 == u.1).map gz)]/\r=[Z (webD w),Z (.tup (gg a b c d)),Z (eE ws cs),Z (.int k),Z (.tup (fv ws)),Z (.tup (nmD cs)),Z (.int u.1),Z (.int u.2.1),Z (.int u.2.2),Z (.ref 0),Y]) ?_ ?_
 ·walk_at"w";rw[hD];refine zQ λg=>?_;walk_at"w";have:=cX (λv:Wk=>v.1 == u.1) ws;have h2:((ws.filter λv:Wk=>v.1 == u.1).map gz).length<=100000:=by rw[lM1];lia
  exact⟨dR h2,trivial⟩
 rintro r S ⟨rfl,rfl⟩;generalize m:[Ob.lst ((ws.filter λv=>v.1 == u.1).map gz)]=S1;have f:S1[0]?=Z (Ob.lst ((ws.filter λv=>v.1 == u.1).map gz)):=by rw[<- m];rfl
 refine d3 (λr S=>S=S1++[.dct [(.inr "came",.int u.2.1),(.inr "chalk",.int (if cs.contains u.1 then 1 else 0)),(.inr "doors",.int row.length),(.inr "others",.int (if 1<crowd ws u.1 then 1 else 0))]]/\r=[Z (webD w),Z (.tup (gg a b c d)),Z (eE ws cs),Z (.int k),Z (.tup (fv ws)),Z (.tup (nmD cs)),Z (.int u.1),Z (.int u.2.1),Z (.int u.2.2),Z (.ref 0),Z (.ref S1.length)]) ?_ ?_
 ·unfold dS;rw[dN];have hc:(List.map gz (ws.filter λv=>v.1 == u.1)).length=crowd ws u.1:=by rw[lM1];rfl
  refine Mc (w:=.int u.2.1) (x:=.int (if cs.contains u.1 then 1 else 0)) (y:=.int row.length) (z:=.int (if 1<crowd ws u.1 then 1 else 0)) O ?_ ?_ ?_ ?_
  ·simp only[uG,mB,m2,b2,mV,gC1,cS,oS1,CD,mC];split<;>rfl
  ·have:W (dL (webD w) (.int u.1) S1) λp=>p=(.tup (row.map pD),S1):=Ht hr O;obtain⟨p,e,rfl⟩:=this;simp only[mN,dG,dH,m2,b1,b2,mV,gC1,cS,oS1,e,hZ,lM1]
  ·simp only[uG,mB,mN,dG,dH,m2,b1,b2,mV,mC,gC1,cS,oS1,eB,fR f,oP1,jm,hc];by_cases h1:1<crowd ws u.1
   ·rw[ak h1,ak (by rw[am];lia)]
   ·rw[aj h1,aj (by rw[am];lia)]
  ·walk_at"w"
 rintro r S ⟨rfl,rfl⟩;generalize l:S1++[Ob.dct [(.inr "came",.int u.2.1),(.inr "chalk",.int (if cs.contains u.1 then 1 else 0)),(.inr "doors",.int row.length),(.inr "others",.int (if 1<crowd ws u.1 then 1 else 0))]]=S2;have j:S2[S1.length]?=Z (Ob.dct [(.inr "came",.int u.2.1),(.inr "chalk",.int (if cs.contains u.1 then 1 else 0)),(.inr "doors",.int row.length),(.inr "others",.int (if 1<crowd ws u.1 then 1 else 0))]):=by rw[<- l,dP];rfl
 walk_at"w";have h:jo = .tup ([0,1,2,3].map λi:Nat=>D.tup [wC i,Hc i]):=rfl;rw[h,hD];refine ji (kR a b c d u.2.1 (if cs.contains u.1 then 1 else 0) row.length (if 1<crowd ws u.1 then 1 else 0)) (λr=>∃x y,r=[x,y,Z (.tup (gg a b c d)),Z (.ref S1.length)]) O _ _ ⟨_,_,O⟩ ?_ ?_
 ·rintro i hi r ⟨x,y,rfl⟩;refine⟨([Z (wC i),Z (Hc i),Z (.tup (gg a b c d)),Z (.ref S1.length)],S2),O,?_⟩;refine⟨(M,S2),O,O,?_⟩;exact⟨_,BQ j hi O O O,O,O,_,_,O⟩
 ·rintro g _;walk_at"w";refine ed (xs:=[kR a b c d u.2.1 (if cs.contains u.1 then 1 else 0) row.length (if 1<crowd ws u.1 then 1 else 0) 0,kR a b c d u.2.1 (if cs.contains u.1 then 1 else 0) row.length (if 1<crowd ws u.1 then 1 else 0) 1,kR a b c d u.2.1 (if cs.contains u.1 then 1 else 0) row.length (if 1<crowd ws u.1 then 1 else 0) 2,kR a b c d u.2.1 (if cs.contains u.1 then 1 else 0) row.length (if 1<crowd ws u.1 then 1 else 0) 3]) (by rw[dP];rfl) ?_;exact⟨y3,q⟩
noncomputable def pt(b:Bool)(x:Nat):D:=if b=M then .int x else .non
def Of(a b c d:Bool)(x y z w:Nat):D:=.tup [pt a x,pt b y,pt c z,pt d w]
def ri:List D:=[.str "leave",.str "mark",.str "wipe"]
def qq:List D:=[.non,.int 0,.int 1,.int 2,.int 3]
structure mx (x:D):Prop where
 is:∃m h t,x = .tup [.int (m:Nat),h,t]/\m<4000/\h∈ri/\t∈qq
theorem mx.und{x:D}(h:mx x):x.und 0=M:=by
 obtain⟨m,x,t,rfl,_,h1,h2⟩:=h.is;have a:x.und 0=M:=by simp[ri]at h1;rcases h1 with z|z|z<;>subst z<;>rfl
 have b:t.und 0=M:=by simp[qq]at h2;rcases h2 with z|z|z|z|z<;>subst z<;>rfl
 simp[D.und,D.unds,a,b]
noncomputable def cx(b:Bool)(x:Nat):Nat:=if b=M then x else 0
def rB:List Bool->List Nat->Nat
 |b::bs,x::xs=>cx b x*8^bs.length+rB bs xs
 |_,_=>0
theorem tG:∀{bs:List Bool} {xs:List Nat},(∀x∈xs,x<=7)->rB bs xs<8^bs.length
 |[],_,_=>by rw[rB];simp;simp
 |b::bs,[],_=>by
  rw[rB]
  ·exact Nat.pos_of_ne_zero (by simp)
  ·simp
 |b::bs,x::xs,h=>by
  have h1:=tG (bs:=bs) λy a=>h y (mC1 _ a);have h2:cx b x<=7:=by unfold cx;split;exact h x mS1;lia
  rw[rB,lC1,Nat.pow_succ];have c:cx b x*8^bs.length<=7*8^bs.length:=c8 _ h2;lia
theorem O9{xs ys:List D}:i8 S (n+1) (.tup xs) (.tup ys)=wF (i8 S n) xs ys:=by
 rw[i8];simp[dZ]
theorem L9{x y:Nat}:i8 S (n+1) (pt b x) (pt b y)=Z (decide (cx b x=cx b y)):=by
 cases b with
 |false=>rfl
 |true=>
  show Z ((x:Int) == (y:Int))=Z (decide (x=y))
  congr 1
  rw[bO,RW,am];lia
theorem Oo{A B P u v:Nat}(a:u<P)(hv:v<P):(A*P+u=B*P+v↔A=B/\u=v)/\(A*P+u<B*P+v↔A<B\/(A=B/\u<v)):=by
 rcases b8 A B with h|h|h
 ·have:=c8 P (show A+1<=B from h);rw[Nat.succ_mul]at this;constructor<;>lia
 ·subst h;constructor<;>lia
 ·have:=c8 P (show B+1<=A from h);rw[Nat.succ_mul]at this;constructor<;>lia
theorem C4{S:Sto}{n:Nat}:∀ {bs:List Bool} {xs ys:List Nat},xs.length=bs.length->ys.length=bs.length->(∀ x∈xs,x<=7)->(∀ y∈ys,y<=7) ->
  wF (i8 S (n+1)) (List.zipWith pt bs xs) (List.zipWith pt bs ys)=Z (decide (rB bs xs=rB bs ys))
 |[],xs,ys,_,_,_,_=>by simp[wF,rB]
 |b::bs,[],ys,h,_,_,_=>by simp at h
 |b::bs,x::xs,[],_,h,_,_=>by simp at h
 |b::bs,x::xs,y::ys,h1,h2,hx,hy=>by
  have ih:=C4 (S:=S) (n:=n) (bs:=bs) (xs:=xs) (ys:=ys) (by simpa using h1) (by simpa using h2) (λz a=>hx z (mC1 _ a)) (λz a=>hy z (mC1 _ a));have b1:=tG (bs:=bs) (xs:=xs) λz a=>hx z (mC1 _ a);have b2:=tG (bs:=bs) (xs:=ys) λz a=>hy z (mC1 _ a);rw[List.zipWith_cons_cons,List.zipWith_cons_cons,wF,L9,ih,rB,rB];have c:=(Oo (A:=cx b x) (B:=cx b y) b1 b2).1;rw[oS1,oP1]
  congr 1
  rw[bO,bA1,am,am,am];exact c.symm
structure Ky where
 m:Nat
 x:Nat
 y:Nat
 z:Nat
 w:Nat
structure Ky.Ok (k:Ky):Prop where
 m:k.m<4000
 x:k.x<=4
 y:k.y<=4
 z:k.z<=4
 w:k.w<=4
abbrev E4:=Bool×Bool×Bool×Bool
def E4.bs(e:E4):List Bool:=[e.1,e.2.1,e.2.2.1,e.2.2.2]
def Ky.xs(k:Ky):List Nat:=[k.x,k.y,k.z,k.w]
def MP(b:Bool)(x:Nat):TK:=if b=M then .int x else .non
def Ky.sg(k:Ky)(e:E4):D:=Of e.1 e.2.1 e.2.2.1 e.2.2.2 k.x k.y k.z k.w
def Ky.d(k:Ky)(e:E4):D:=.tup [.int k.m,k.sg e]
def Ky.tk(k:Ky)(e:E4):TK:=.tup [.int k.m,.tup [MP e.1 k.x,MP e.2.1 k.y,MP e.2.2.1 k.z,MP e.2.2.2 k.w]]
def Ky.code(k:Ky)(e:E4):Nat:=k.m*4096+rB e.bs k.xs
theorem Ky.keyT(k:Ky)(e:E4):Mi.keyT (k.d e)=Z (k.tk e):=by
 obtain⟨a,b,c,d⟩:=e;cases a<;>cases b<;>cases c<;>cases d<;>rfl
theorem Ky.tkD(k:Ky)(e:E4):Mi.tkD (k.tk e)=k.d e:=(lY (k.keyT e)).1
theorem Ky.sg_zip(k:Ky)(e:E4):k.sg e = .tup (List.zipWith pt e.bs k.xs):=rfl
theorem Ky.Ok.all{k:Ky}(h:k.Ok):∀x∈k.xs,x<=7:=by
 intro x a;have:=h.x;have:=h.y;have:=h.z;have:=h.w
 simp[Ky.xs]at a;lia
theorem jW{k:Ky}(h:k.Ok)(e:E4):rB e.bs k.xs<4096:=tG (bs:=e.bs) h.all
theorem Ky.und(k:Ky)(e:E4)(n:Nat):(k.d e).und n=M:=by
 rw[<- k.tkD e];exact AM _
theorem Ky.sgu(k:Ky)(e:E4)(n:Nat):(k.sg e).und n=M:=by
 have:=k.und e n;unfold Ky.d at this;simp only[D.und,D.unds,bJ,Bool.true_and]at this;exact this
abbrev Rw:=Ky×D
def fS(e:E4)(p:Rw):D:=.tup [p.1.d e,p.2]
def pR(p:Rw):Prop:=p.1.Ok/\mx p.2
theorem Mk(a b c d x y z w:_):rB [a,b,c,d] [x,y,z,w]=((cx a x*8+cx b y)*8+cx c z)*8+cx d w:=by
 simp only[rB,lC1,bf];lia
def Inc(e:E4)(L:List Rw):Prop:=L.Pairwise λp q=>p.1.code e<q.1.code e
theorem u3{α:Type}{f:α->Nat}{c:Nat}{a:α}:∀{l:List α},(l.map f).Nodup->((l.find? λx=>decide (f x=c))=Z a↔a∈l/\f a=c)
 |[],_=>by simp
 |b::l,nd=>by
  rw[mP1,aO]at nd;rw[bc];by_cases z:f b=c
  ·rw[ah z];constructor
   ·intro h;cases h;exact⟨mS1,z⟩
   ·rintro⟨h1,h2⟩;rcases aF.mp h1 with y|y
    ·rw[y]
    ·exact absurd (cf.mpr ⟨a,y,h2.trans z.symm⟩) nd.1
  ·rw[ai z];show(l.find? λx=>decide (f x=c))=Z a↔_;rw[u3 nd.2];constructor
   ·rintro⟨h1,h2⟩;exact⟨mC1 _ h1,h2⟩
   ·rintro⟨h1,h2⟩;rcases aF.mp h1 with y|y
    ·rw[y]at h2;exact absurd h2 z
    ·exact⟨y,h2⟩
theorem Inc.le(h:Inc e L)(ok:∀p∈L,pR p){p q:Rw}(hi:L[i]?=Z p)(a:L[j]?=Z q)(c:i<=j):p.1.m<=q.1.m/\(i<j->p.1.code e<q.1.code e):=by
 have g:=(ok p (gM1 hi)).1;have f:=(ok q (gM1 a)).1;by_cases z:i=j
 ·subst z;rw[hi]at a;cases a;exact⟨nR1 _,λz=>by lia⟩
 ·obtain⟨h1,b⟩:=R9 hi;obtain⟨h2,d⟩:=R9 a;have:=b7.mp h i j h1 h2 (by lia);rw[b,d]at this;refine⟨?_,λ_=>this⟩;have l:=jW g e;have k:=jW f e;unfold Ky.code at this;lia
theorem NH{p:Rw}(h:L[i]?=Z p):dL (.tup (L.map (fS e))) (.int (i:Nat)) S=Z (fS e p,S):=by
 obtain⟨x,a,b⟩:=(hU (i:=i) (xs:=L.map (fS e)) (x:=fS e p) (S:=S) (Q:=λx=>x=(fS e p,S)) (by rw[gP1,h];rfl) O);rw[a,b]
theorem NI{p:Rw}:dL (fS e p) (.int 0) S=Z (p.1.d e,S):=rfl
theorem O1{p:Rw}:dL (fS e p) (.int 1) S=Z (p.2,S):=rfl
theorem Om{k:Ky}:dL (k.d e) (.int 0) S=Z (.int k.m,S):=rfl
theorem O0{k:Ky}:dL (k.d e) (.int 1) S=Z (k.sg e,S):=rfl
theorem oD(ok:∀p∈L,pR p)(n:Nat):(D.tup (L.map (fS e))).und n=M:=by
 rw[D.und];refine Mi.eD λp a=>?_;have h1:=p.1.und e n;have h2:=ik (n:=n) (ok p a).2.und;simp[fS,D.und,D.unds,h1,h2]
theorem JG:eB (.tup (L.map (fS e))) S=Z (.int L.length,S):=by simp[eB,dZ]
theorem Gv{q:Nat}(f:Inc e L)(ok:∀ p∈L,pR p)(v:L.length<=4000)(h:∀a:Nat,a<=L.length->(∀i p,L[i]?=Z p->i<a->p.1.m<q)->(∀i p,L[i]?=Z p->a<=i->q<=p.1.m)->Q (.int a,S)):W (dI 2 iz [.tup (L.map (fS e)),.int (q:Nat)] S) Q:=by
 refine fD O (by rw[D.unds,oD ok,D.unds,D.und];rfl) ?_;unfold iz;refine iO ?_;unfold pM;generalize s:D.tup (L.map (fS e))=R;refine d3 (λr S=>S=[]/\r=[Z R,Z (.int (q:Nat)),Z (.int ((0:Nat):Int)),Y,Y]) ?_ ?_
 ·walk_at"w";rfl
 rintro r o ⟨rfl,rfl⟩;refine d3 (λr S=>S=[]/\r=[Z R,Z (.int (q:Nat)),Z (.int ((0:Nat):Int)),Z (.int (L.length:Nat)),Y]) ?_ ?_
 ·subst s
  wp_walk using JG
  rw[lM1]
 rintro r o ⟨rfl,rfl⟩;refine d3 (λr S=>∃(a:Nat) (c:Option D),S=[]/\a<=L.length/\(∀i p,L[i]?=Z p->i<a->p.1.m<q)/\(∀i p,L[i]?=Z p->a<=i->q<=p.1.m)/\r=[Z R,Z (.int (q:Nat)),Z (.int (a:Nat)),Z (.int (a:Nat)),c]) ?_ ?_
 ·refine tV (λk r S=>∃(a high:Nat) (c:Option D),S=[]/\a<=high/\high<=L.length/\high-a+k<=L.length/\(∀i p,L[i]?=Z p->i<a->p.1.m<q)/\(∀i p,L[i]?=Z p->high<=i->q<=p.1.m)/\r=[Z R,Z (.int (q:Nat)),Z (.int (a:Nat)),Z (.int (high:Nat)),c]) L.length ?_ 100000 0 _ _ (by lia) ⟨0,L.length,_,O,by lia,by lia,by lia,λi p _ z=>by lia,λi p g z=>?_,O⟩
  ·rintro k r S ⟨a,high,c,rfl,h1,h2,m,l,n,rfl⟩;unfold lP;walk_at"w";by_cases z:a<high
   ·rw[ak (by rw[am];lia)];refine⟨by lia,?_⟩;unfold lO;have d:(a+high)/2<L.length:=by lia
    obtain⟨p,g⟩:∃p,L[(a+high)/2]?=some p:=⟨_,gG1 d⟩;have j:nL (.int ((a:Int)+(high:Int))) (.int 2) []=Z (.int (((a+high)/2:Nat):Int),[]):=by
     simp only[nL];rw[ak ⟨by lia,by lia⟩]
     push_cast
     rfl
    subst s
    wp_walk using j,NH g,NI,Om
    by_cases t:p.1.m<q
    ·rw[ak (by rw[am];lia)];refine⟨(a+high)/2+1,high,_,by lia,h2,by lia,λi u b hi=>?_,n,by push_cast;rfl⟩;exact bF (f.le ok b g (by lia)).1 t
    ·rw[aj (by rw[am];lia)];refine⟨a,(a+high)/2,_,by lia,by lia,by lia,l,λi u b hi=>?_,O⟩;exact aD (by lia) (f.le ok g b hi).1
   ·rw[aj (by rw[am];lia)];have:a=high:=by lia
    subst this;exact⟨a,_,h2,l,n,O⟩
  ·have:=(R9 g).1;lia
 rintro r o ⟨a,c,rfl,h1,h2,m,rfl⟩;walk_at"w";exact⟨O,h a h1 h2 m⟩
theorem AE{c:FT}{b:FS}{Q:Fl×Ev×Sto->Prop}(I:Nat->Ev->Sto->Prop)(N:Nat)(step:∀k r S,I k r S->W (c r S) fun p=>if p.1=true then k<N/\W (b r p.2) fun q=>(q.1 = .nx/\I (k+1) q.2.1 q.2.2) \/ ∃d,q.1 = .rt d/\Q q else Q (.nx,r,p.2)):
  ∀(a k:Nat) (r:Ev) (S:Sto),N-k<a->I k r S->W (qp c b a r S) Q
 |0,k,r,S,hf,_=>by lia
 |a+1,k,r,S,hf,hi=>by
  rw[qp];dsimp only;rw[dN];obtain⟨⟨t,u⟩,e,h⟩:=step k r S hi;refine⟨_,e,?_⟩;dsimp only at h ⊢;cases t with
  |true=>
   rw[ak O]at h ⊢;obtain⟨s,⟨f,l,o⟩,m,j⟩:=h;rw[m,oS1];rcases j with⟨g,i⟩|⟨d,g,n⟩
   ·dsimp only at g i;subst g;exact AE I N step a (k+1) l o (by lia) i
   ·dsimp only at g;subst g;exact dV.mpr n
  |false=>
   rw[aj (by decide)]at h ⊢;exact dV.mpr h
theorem L8{k l:Ky}(hk:k.Ok)(a:l.Ok):gEq (k.sg e) (l.sg e) S=Z (.bl (decide (rB e.bs k.xs=rB e.bs l.xs)),S):=by
 show(i8 S (58+1+1) (k.sg e) (l.sg e)).map _=_;rw[Ky.sg_zip,Ky.sg_zip,O9,C4 O O hk.all a.all];rfl
theorem Inc.nd:∀{L:List Rw},Inc e L->(L.map λp=>p.1.code e).Nodup:=λh=>
 cR.mpr (List.Pairwise.imp (λz=>nN1 z) h)
def Db(k:Ky):D:=.tup [.int k.m,.str "leave",.non]
def lr(e:E4)(L:List Rw)(k:Ky):D:=((L.find? λp=>decide (p.1.code e=k.code e)).map (·.2)).getD (Db k)
theorem Dc{k:Ky}{E:D}(l:Inc e L)(ok:∀ p∈L,pR p)(N:L.length<=4000)(hk:k.Ok)(H:E.und 0=M)(q:Q (lr e L k,S)):W (dI 3 gJ [.tup [E,.tup (L.map (fS e))],.int k.m,k.sg e] S) Q:=by
 refine fD O (by
  have C:=oD (e:=e) ok 0;have r2:=k.sgu e 0;rw[D.und]at C;simp[D.unds,D.und,H,C,r2]) ?_
 unfold gJ;refine iO ?_;unfold rQ;generalize K:D.tup [E,.tup (L.map (fS e))]=aq;refine d3 (λr S=>S=[]/\r=[Z aq,Z (.int k.m),Z (k.sg e),Z (.tup (L.map (fS e))),Y]) ?_ ?_
 ·subst K;have F:dL (.tup [E,.tup (L.map (fS e))]) (.int 1) []=Z (.tup (L.map (fS e)),[]):=rfl
  wp_walk using F
 rintro r G ⟨rfl,rfl⟩;refine d3 (λr S=>∃a:Nat,S=[]/\a<=L.length/\(∀i p,L[i]?=Z p->i<a->p.1.m<k.m)/\(∀i p,L[i]?=Z p->a<=i->k.m<=p.1.m)/\r=[Z aq,Z (.int k.m),Z (k.sg e),Z (.tup (L.map (fS e))),Z (.int (a:Nat))]) ?_ ?_
 ·walk_at"w";refine Gv l ok N λa h1 h2 s=>?_;exact⟨a,O,h1,h2,s,O⟩
 rintro r G ⟨a,rfl,h1,h2,s,rfl⟩;have hnd:=l.nd;have g:(∀(i:Nat) (p:Rw),L[i]?=Z p->p.1.code e≠k.code e)->lr e L k=Db k:=λh=>by
  unfold lr;rw[List.find?_eq_none.mpr λp c=>?_]
  ·rfl
  ·obtain⟨i,hi⟩:=bq c;rw[am];exact h i p hi
 have o:∀p,p∈L->p.1.m≠k.m->p.1.code e≠k.code e:=λp c y z=>by
  have:=(Oo (A:=p.1.m) (B:=k.m) (jW (ok p c).1 e) (jW hk e)).1.mp z;exact y this.1
 unfold dQ;refine dN.mpr ?_;refine AE (λj r S=>S=[]/\a+j<=L.length/\(∀i p,L[i]?=Z p->i<a+j->p.1.code e≠k.code e)/\r=[Z aq,Z (.int k.m),Z (k.sg e),Z (.tup (L.map (fS e))),Z (.int ((a+j:Nat):Int))]) L.length ?_ 100000 0 _ _ (by lia) ⟨O,by lia,λi p c hi=>o p (gM1 c) (by have:=h2 i p c (by lia);lia),O⟩;rintro j r S ⟨rfl,P,t,rfl⟩;unfold nh;by_cases v:a+j<L.length
 ·obtain⟨p,c⟩:∃p,L[a+j]?=some p:=⟨_,gG1 v⟩;have m:=gM1 c
  wp_walk using JG,NH c,NI,Om,lM1
  rw[ak (by rw[am];lia)];by_cases av:p.1.m=k.m
  ·rw[ak (by rw[RW];lia)];refine⟨by lia,?_⟩;unfold ng
   wp_walk using NH c,NI,O0,O1,L8 (ok p m).1 hk
   have d:p.1.code e=k.code e↔rB e.bs p.1.xs=rB e.bs k.xs:=by unfold Ky.code;rw[av];lia
   by_cases hc:rB e.bs p.1.xs=rB e.bs k.xs
   ·rw[ak (ah hc)];right;have ao:(L.find? λp=>decide (p.1.code e=k.code e))=Z p:=(u3 (f:=λp:Rw=>p.1.code e) hnd).mpr ⟨m,d.mpr hc⟩;have I:lr e L k=p.2:=by unfold lr;rw[ao];rfl
    rw[I]at q;exact⟨_,O,(ok p m).2.und,q⟩
   ·rw[aj (by rw[am];exact hc)];refine W.of (x:=(.nx,[Z aq,Z (.int k.m),Z (k.sg e),Z (.tup (L.map (fS e))),Z (.int (((a+j:Nat):Int)+1))],[])) O ?_;left;refine⟨O,O,by lia,λi n b hi=>?_,by push_cast;rfl⟩;by_cases w:i=a+j
    ·subst w;rw[c]at b;cases b;exact λz=>hc (d.mp z)
    ·exact t i n b (by lia)
  ·rw [if_neg (by rw [RW];lia)];have u:lr e L k=Db k:=g fun i n b=>by
    by_cases hi:i<a+j
    ·exact t i n b hi
    ·have b1:=s (a+j) p c (by lia);have b2:=(l.le ok c b (by lia)).1;exact o n (gM1 b) (by lia)
   rw[u]at q;exact⟨O,q⟩
 ·wp_walk using JG,lM1
  rw[aj (by rw[am];lia)];have u:lr e L k=Db k:=g λi n b=>by
   have:=(R9 b).1;exact t i n b (by lia)
  rw[u]at q;exact⟨O,q⟩
def dm:D->Nat
 | .tup [.int m,_,_]=>m.toNat
 |_=>0
noncomputable def dh:D->Str
 | .tup [_,.str h,_]=>h
 |_=>""
noncomputable def dt:D->Option Nat
 | .tup [_,_,.int t]=>Z t.toNat
 |_=>Y
def tD:Option Nat->D
 |none=>.non
 |some t=>.int (t:Nat)
theorem mx.eta{x:D}(h:mx x):x = .tup [.int (dm x:Nat),.str (dh x),tD (dt x)]/\dm x<4000:=by
 obtain⟨m,y,t,rfl,a,h1,h2⟩:=h.is;simp only[ri,aF,bI,Rt]at h1;simp only[qq,aF,bI,Rt]at h2;rcases h1 with e|e|e<;>subst e<;>rcases h2 with e|e|e|e|e<;>subst e<;>exact⟨O,a⟩
def fB(w:dJ)(u:Wk)(x:D):Wk:=match dt x with
 |some t=>match (w[u.1]?).bind (·[t]?)with
  |some p=>(p.1,p.2+1,dm x)
  |none=>(u.1,u.2.1,dm x)
 |none=>(u.1,u.2.1,dm x)
theorem CB{t:Nat}:wx (.int (t:Nat)) .non S=Z (.bl J,S):=rfl
theorem JU:wx .non .non S=Z (.bl M,S):=rfl
theorem yX{w:dJ}{u:Wk}{row:List (Nat×Nat)}{x:D}(hr:w[u.1]?=Z row)(hx:mx x)(q:Q (gz (fB w u x),S)):W (dI 3 i3 [webD w,gz u,x] S) Q:=by
 refine fD O (by simp[D.unds,eA,hx.und];rfl) ?_;unfold i3;refine iO ?_;unfold rM;have ex:=hx.eta.1;unfold fB at q;simp only[hr,oS1]at q;generalize o:dm x=m at *
 generalize l:dh x=h at *
 generalize n:dt x=t at *
 refine d3 (λr V=>V=[]/\r=[Z (webD w),Z (gz u),Z x,Z (.int u.1),Z (.int u.2.1),Z (.int u.2.2),Y,Y,Y,Y,Y]) ?_ ?_
 ·generalize k:gz u=U;have d:U = .tup [.int u.1,.int u.2.1,.int u.2.2]:=k.symm;subst d;walk_at"w"
 rintro r V ⟨rfl,rfl⟩;refine d3 (λr V=>V=[]/\r=[Z (webD w),Z (gz u),Z x,Z (.int u.1),Z (.int u.2.1),Z (.int u.2.2),Z (.int (m:Nat)),Z (.str h),Z (tD t),Y,Y]) ?_ ?_
 ·subst ex;walk_at"w"
 rintro r V ⟨rfl,rfl⟩;cases t with
 |none=>
  have b:tD Y = .non:=rfl;rw[b]
  wp_walk using JU
  exact⟨O,q⟩
 |some t=>
  have b:tD (Z t) = .int (t:Nat):=rfl;rw[b];have c:∀a,dL (webD w) (.int (u.1:Nat)) a=Z (.tup (row.map pD),a):=λa=>by
   obtain⟨p,e,h⟩:W (dL (webD w) (.int (u.1:Nat)) a) λp=>p=(.tup (row.map pD),a):=Ht hr O;rw[e,h]
  dsimp only at q;by_cases j:t<row.length
  ·have f:=gG1 j;rw[f]at q;refine d3 (λr V=>V=[]/\r=[Z (webD w),Z (gz u),Z x,Z (.int u.1),Z (.int u.2.1),Z (.int u.2.2),Z (.int (m:Nat)),Z (.str h),Z (.int (t:Nat)),Y,Y]) ?_ ?_
   ·wp_walk using CB,c,hZ,lM1
    rw[aj (by rw[am];lia)];trivial
   rintro r V ⟨rfl,rfl⟩;have g:∀a,dL (.tup (row.map pD)) (.int (t:Nat)) a=Z (pD row[t],a):=λa=>by
    obtain⟨p,e,h⟩:W (dL (.tup (row.map pD)) (.int (t:Nat)) a) λp=>p=(pD row[t],a):=hU (by rw[gP1,f];rfl) O;rw[e,h]
   generalize row[t]=p at *
   refine d3 (λr V=>V=[]/\r=[Z (webD w),Z (gz u),Z x,Z (.int u.1),Z (.int u.2.1),Z (.int u.2.2),Z (.int (m:Nat)),Z (.str h),Z (.int (t:Nat)),Z (.int p.1),Z (.int p.2)]) ?_ ?_
   ·wp_walk using c,g,pD
   rintro r V ⟨rfl,rfl⟩;walk_at"w";have i:(1:Int)+(p.2:Int)=((p.2+1:Nat):Int):=by lia
   rw[i];exact⟨O,q⟩
  ·rw[bX (by lia)]at q
   wp_walk using CB,c,hZ,lM1
   rw[ak (by rw[am];lia)];exact⟨O,q⟩
theorem JX{x:Nat}(h:S[n]?=Z (.lst (nmD cs))):jl (.int x) (.ref n) S=Z (.bl (cs.contains x),S):=by
 simp only[jl,wy,KN,h,dZ,oS1,d8,show(60:Nat)=59+1 from rfl,s0,oP1]
theorem zo{x:Nat}(h:S[n]?=Z (.lst (nmD cs))):fW (.int x) (.ref n) S=Z (.bl (!cs.contains x),S):=by
 simp only[fW,jk,mQ,h,dZ,oS1,d8,show(60:Nat)=59+1 from rfl,s0,oP1]
theorem F8{x:D}(h:mx x)(S:Sto):dL x (.int 1) S=Z (.str (dh x),S):=by
 have e:=h.eta.1;generalize dm x=a at e;generalize dt x=c at e;generalize dh x=b at *
 subst e;rfl
theorem sU{u:Wk}:dL (gz u) (.int 0) S=Z (.int u.1,S):=rfl
theorem F6{u:Wk}:dL (gz u) (.int 2) S=Z (.int u.2.2,S):=rfl
def p7(ws:List Wk)(dd:Wk->D)(h:Str)(r:Nat):Bool:=ws.any λu=>u.1 == r&&dh (dd u) == h
def hP(m:Nat)(ws:List Wk)(dd:Wk->D)(cs:List Nat):List Nat:=(af m).filter λr=>p7 ws dd "mark" r||(cs.contains r && !p7 ws dd "wipe" r)
theorem IW(a b:List Nat):nmD a++nmD b=nmD (a++b):=by simp[nmD]
def pT(ws:List Wk)(dd:Wk->D)(h:Str):List Nat:=(ws.filter λu=>dh (dd u) == h).map (·.1)
theorem yG{ws:List Wk}{dd:Wk->D}{h:Str}:r∈pT ws dd h↔p7 ws dd h r=M:=by
 unfold pT p7;rw[cf,bP];constructor
 ·rintro⟨u,a,rfl⟩;obtain⟨h1,h2⟩:=aB.mp a;exact⟨u,h1,by simp[h2]⟩
 ·rintro⟨u,a,e⟩;rw[bA1,RW]at e;exact⟨u,aB.mpr ⟨a,e.2⟩,e.1⟩
theorem CP{h:Str}{ws:List Wk}{dd:Wk->D}{m:FA}{r:Ev}(hd:∀ u∈ws,mx (dd u))(f:ws.length<=8)(a:S[n]? = Z (.lst (ws.map dd)))(hm:m r S=Z ([.tup (fv ws),.ref n],S))(hr:uS 2 [] r=[Y,Y])(q:Q (.ref S.length,S++[.lst (nmD (pT ws dd h))])):W (ez 2 [] (Hj m) (gT 2 (gCs (gN 0) (gCs (gN 1) gNl))) (mB (m2 (b2 gEq) (m2 (b2 dL) (mV 1) (mC (D.int (1)))) (mC (D.str h)))) (eg (m2 (b2 dL) (mV 0) (mC (D.int (0))))) r S) Q:=by
 rw[mr];refine DN hm a ?_;dsimp only;rw[hr,fv,vJ];refine iI (λu:Wk=>dh (dd u) == h) (λu:Wk=>D.int u.1) (λr=>∃x y,r=[x,y]) (fq a) ws _ ⟨_,_,O⟩ ?_ λd _=>?_
 ·rintro u b r ⟨x,y,rfl⟩
  wp_walk using F8 (hd u b)
  refine⟨⟨_,_,O⟩,λ_=>?_⟩
  wp_walk using sU
 ·have e:(ws.filter λu:Wk=>dh (dd u) == h).map (λu:Wk=>D.int (u.1:Nat))=nmD (pT ws dd h):=by unfold nmD pT;rw[bu];rfl
  rw[e];have c:=cX (λu:Wk=>dh (dd u) == h) ws;refine⟨dR ?_,q⟩;dsimp only;rw[ej];unfold pT;rw[lM1];lia
theorem zN{ws:List Wk}{dd:Wk->D}(hd:∀ u∈ws,mx (dd u))(w:ws.length<=8)(hc:cs.length<=8)(hw:∀ u∈ws,u.1<m)(j:∀ r∈cs,r<m)(l:S[n]? = Z (.lst (ws.map dd)))(o:S.all (Ob.und S.length)=M)(q:Q (.tup (nmD (hP m ws dd cs)),S)):W (dI 2 i5 [eE ws cs,.ref n] S) Q:=by
 refine vo O (by simp[D.unds,D.und]) ?_;unfold i5;refine iO ?_;unfold rP;have C:=(R9 l).1;refine d3 (λr V=>V=S/\r=[Z (eE ws cs),Z (.ref n),Z (.tup (fv ws)),Z (.tup (nmD cs)),Y,Y,Y]) ?_ ?_
 ·generalize G:eE ws cs=aq;have k:aq = .tup [.tup (fv ws),.tup (nmD cs)]:=G.symm;subst k;walk_at"w"
 rintro r V ⟨H,rfl⟩;subst H;refine d3 (λr i=>i=V++[.lst (nmD (pT ws dd "mark"))]/\r=[Z (eE ws cs),Z (.ref n),Z (.tup (fv ws)),Z (.tup (nmD cs)),Z (.ref V.length),Y,Y]) ?_ ?_
 ·unfold dS;refine dN.mpr (CP hd w l O O ?_);walk_at"w"
 rintro r b ⟨c,rfl⟩;have A:b[n]?=Z (.lst (ws.map dd)):=by rw[c,gL1 C];exact l
 have v:b[V.length]?=Z (.lst (nmD (pT ws dd "mark"))):=by rw[c,dP];rfl
 refine d3 (λr i=>i=b++[.lst (nmD (pT ws dd "wipe"))]/\r=[Z (eE ws cs),Z (.ref n),Z (.tup (fv ws)),Z (.tup (nmD cs)),Z (.ref V.length),Z (.ref b.length),Y]) ?_ ?_
 ·unfold dS;refine dN.mpr (CP hd w A O O ?_);walk_at"w"
 rintro r g ⟨a,rfl⟩;have s:g[V.length]?=Z (.lst (nmD (pT ws dd "mark"))):=by rw[a,gL1 (R9 v).1];exact v
 have z:g[b.length]?=Z (.lst (nmD (pT ws dd "wipe"))):=by rw[a,dP];rfl
 refine d3 (λr i=>i=g++[.lst (nmD (cs.filter λr=> !(pT ws dd "wipe").contains r))]/\r=[Z (eE ws cs),Z (.ref n),Z (.tup (fv ws)),Z (.tup (nmD cs)),Z (.ref V.length),Z (.ref b.length),Z (.ref g.length)]) ?_ ?_
 ·walk_at"w";rw[hD];refine iI (f:=λr:Nat=>D.int r) (λr:Nat=> !(pT ws dd "wipe").contains r) (λr:Nat=>D.int r) (λr=>∃x,r=[x,Z (.ref b.length)]) O cs _ ⟨_,O⟩ ?_ λI _=>?_
  ·rintro u t r ⟨x,rfl⟩
   wp_walk using zo z
   exact⟨⟨_,O⟩,λ_=>trivial⟩
  ·walk_at"w";have y:=cX (λr:Nat=> !(pT ws dd "wipe").contains r) cs;exact⟨dR (by rw[lM1];lia),O,trivial⟩
 rintro r p ⟨d,rfl⟩;have E:p[V.length]?=Z (.lst (nmD (pT ws dd "mark"))):=by rw[d,gL1 (R9 s).1];exact s
 have B:p[g.length]?=Z (.lst (nmD (cs.filter λr=> !(pT ws dd "wipe").contains r))):=by rw[d,dP];rfl
 have y:=cX (λr:Nat=> !(pT ws dd "wipe").contains r) cs;have ao:(pT ws dd "mark").length<=ws.length:=by unfold pT;rw[lM1];exact cX _ _
 walk_at"w";refine(DU B E).mpr ⟨dR (by rw[ej,ej];lia),?_⟩;rw[IW];refine rS (xs:=cs.filter (λr=> !(pT ws dd "wipe").contains r)++pT ws dd "mark") (m:=m) (f:=λr=>p7 ws dd "mark" r||(cs.contains r && !p7 ws dd "wipe" r)) (by rw[dP];rfl) (λr=>?_) (by rw[lA1];lia) ?_
 ·have F:(pT ws dd "wipe").contains r=p7 ws dd "wipe" r:=by
   rw[bO,cJ,yG]
  rw[aG,aB,yG,F];constructor
  ·rintro(⟨h1,h2⟩|h1)
   ·exact⟨j r h1,by rw[cJ.mpr h1,h2];simp⟩
   ·refine⟨?_,by rw[h1];rfl⟩;unfold p7 at h1;obtain⟨u,t,e⟩:=bP.mp h1;rw[bA1,RW]at e;rw[<- e.1];exact hw u t
  ·rintro⟨_,h⟩;rw[bM,bA1]at h;rcases h with h|⟨h1,h2⟩
   ·exact .inr h
   ·exact .inl ⟨cJ.mp h1,h2⟩
 ·walk_at"w";refine ed (xs:=nmD (hP m ws dd cs)) (by rw[eN];rfl) ?_;rw[CS (by rw[D.und];exact fy _) o (by rw[d,a,c];simp only[bE];exact bv _ _)];exact q
theorem Fv{w:dJ}{ws:List Wk}{dd:Wk->D}(i:w.length=m)(hd:∀ u∈ws,mx (dd u))(C:ws.length<=8)(hc:cs.length<=8)(hw:∀ u∈ws,u.1<m)(g:∀ r∈cs,r<m)(f:S[n]? = Z (.lst (ws.map dd)))(b:S.all (Ob.und S.length)=M)(q:Q (eE (ws.map λu=>fB w u (dd u)) (hP m ws dd cs),S)):W (dI 3 lU [webD w,eE ws cs,.ref n] S) Q:=by
 refine vo O (by simp[D.unds,D.und]) ?_;unfold lU;refine iO ?_;unfold yC;have p:=(R9 f).1;refine d3 (λr V=>V=S/\r=[Z (webD w),Z (eE ws cs),Z (.ref n),Z (.tup (fv ws)),Z (.tup (nmD cs)),Y]) ?_ ?_
 ·generalize v:eE ws cs=aq;have h:aq = .tup [.tup (fv ws),.tup (nmD cs)]:=v.symm;subst h;walk_at"w"
 rintro r V ⟨z,rfl⟩;subst z;refine d3 (λr A=>A=V++[.lst (fv (ws.map λu=>fB w u (dd u)))]/\r=[Z (webD w),Z (eE ws cs),Z (.ref n),Z (.tup (fv ws)),Z (.tup (nmD cs)),Z (.ref V.length)]) ?_ ?_
 ·unfold dS;refine dN.mpr ?_;rw[mr];refine DN (xs:=fv ws) (ys:=ws.map dd) (n:=n) O f ?_;dsimp only;rw[fv,vJ];refine ji (λu:Wk=>gz (fB w u (dd u))) (λr=>∃x y,r=[x,y,Z (webD w)]) (fq f) ws _ ⟨_,_,O⟩ ?_ λE _=>?_
  ·rintro u j r ⟨x,y,rfl⟩;obtain⟨row,c⟩:∃row,w[u.1]?=some row:=⟨_,gG1 (by rw[i];exact hw u j)⟩;walk_at"w";refine yX c (hd u j) ?_;exact⟨O,O,_,_,O⟩
  ·have e:ws.map (λu:Wk=>gz (fB w u (dd u)))=fv (ws.map λu=>fB w u (dd u)):=by unfold fv;rw[bu];rfl
   rw[e];refine⟨dR (by dsimp only;rw[w5,lM1];lia),?_⟩;walk_at"w"
 rintro r d ⟨a,rfl⟩;have l:d[n]?=Z (.lst (ws.map dd)):=by rw[a,gL1 p];exact f
 have s:d[V.length]?=Z (.lst (fv (ws.map λu=>fB w u (dd u)))):=by rw[a,dP];rfl
 have k:d.all (Ob.und d.length)=M:=by
  rw[a,cN,bA1,lA1];rw[bA]at b;refine⟨bA.mpr λo B=>gW (br _ _) (b o B),?_⟩;rw[bN,Ob.und,iS (w4 _)];rfl
 walk_at"w";refine ed s ?_;refine zN hd C hc hw g l k ?_;walk_at"w";have t:D.tup [.tup (fv (ws.map λu=>fB w u (dd u))),.tup (nmD (hP m ws dd cs))]=eE (ws.map λu=>fB w u (dd u)) (hP m ws dd cs):=rfl;rw[t,CS ic b (by rw[a];exact bv _ _)];exact q
def eyD(e:E4):D:=.tup (gg e.1 e.2.1 e.2.2.1 e.2.2.2)
theorem l7(e:E4):(eyD e).und 0=M:=by unfold eyD;rw[D.und];exact u5 _ _ _ _
def mcD(e:E4)(L:List Rw):D:=.tup [eyD e,.tup (L.map (fS e))]
theorem xP(ok:∀p∈L,pR p):(mcD e L).und 0=M:=by
 have h1:=l7 e;have h2:=oD (e:=e) ok 0;unfold mcD;rw[D.und,D.unds,D.unds,h1,h2];rfl
theorem C8{k:Ky}(ok:∀p∈L,pR p)(hk:k.Ok):mx (lr e L k):=by
 unfold lr;cases h:L.find? λp=>decide (p.1.code e=k.code e)with
 |none=>exact⟨k.m,_,_,O,hk.m,by simp[ri],by simp[qq]⟩
 |some p=>exact(ok p (List.mem_of_find?_eq_some h)).2
def ky(w:dJ)(ws:List Wk)(cs:List Nat)(u:Wk):Ky:=⟨u.2.2,u.2.1,if cs.contains u.1 then 1 else 0,((w[u.1]?).getD []).length,if 1<crowd ws u.1 then 1 else 0⟩
theorem EF{w:dJ}{ws:List Wk}{u:Wk}{row:List (Nat×Nat)}(h:w[u.1]?=Z row):Bn e.1 e.2.1 e.2.2.1 e.2.2.2 ws cs u row=(ky w ws cs u).sg e:=by
 have c:∀b:Bool,((if b=M then 1 else 0:Nat):Int)=if b=M then(1:Int)else 0:=λb=>by cases b<;>rfl
 have a:((if 1<crowd ws u.1 then 1 else 0:Nat):Int)=if 1<crowd ws u.1 then(1:Int)else 0:=by split<;>rfl
 unfold Bn vW Ky.sg Of ky pt;rw[h];dsimp only;rw[c,a];rfl
structure mq (m:Nat)(w:dJ)(ws:List Wk)(cs:List Nat):Prop where
 web:DL m w
 m8:m<=8
 few:ws.length<=8
 cl:cs.length<=8
 wk:∀u∈ws,∃row,w[u.1]?=some row/\u.2.1<=row.length/\u.2.2<4000
 ch:∀r∈cs,r<m
theorem mq.lt{w:dJ}{ws:List Wk}(h:mq m w ws cs):∀u∈ws,u.1<m:=λu a=>by
 obtain⟨row,e,_⟩:=h.wk u a;have:=(R9 e).1;rw[h.web.len]at this;exact this
theorem mq.ky{w:dJ}{ws:List Wk}(h:mq m w ws cs):∀u∈ws,(ky w ws cs u).Ok:=λu a=>by
 obtain⟨row,e,h1,h2⟩:=h.wk u a;have b:=h.web.le row (gM1 e);refine⟨h2,?_,?_,?_,?_⟩
 ·show u.2.1<=4;lia
 ·show(if cs.contains u.1 then 1 else 0)<=4;split<;>lia
 ·show((w[u.1]?).getD []).length<=4;rw[e];exact b
 ·show(if 1<crowd ws u.1 then 1 else 0)<=4;split<;>lia
theorem En{w:dJ}{ws:List Wk}(h:mq m w ws cs)(q:Q (.ref S.length,S++[.lst (ws.map λu=>(ky w ws cs u).d e)])):W (dI 3 lT [webD w,eyD e,eE ws cs] S) Q:=by
 refine Ml O (by simp[D.unds,eA,ic,l7]) ?_;unfold lT;refine iO ?_;unfold yA eh;rw[dN,mr];refine rT (xs:=fv ws) O ?_;dsimp only;have g:=h.few;rw[fv,wG];refine ji (λp:Wk×Nat=>(ky w ws cs p.1).d e) (λr=>∃x y,r=[x,y,Z (webD w),Z (eyD e),Z (eE ws cs)]) O ws.zipIdx _ ⟨_,_,O⟩ ?_ λf _=>?_
 ·rintro⟨u,k⟩ c r ⟨x,y,rfl⟩;have a:ws[k]?=Z u:=ql c;obtain⟨row,b,_⟩:=h.wk u (gM1 a)
  wp_walk using F6
  refine EA a b (by lia) ?_;walk_at"w";rw[EF b];exact⟨O,_,_,O⟩
 ·have d:(ws.zipIdx.map λp:Wk×Nat=>(ky w ws cs p.1).d e)=ws.map λu=>(ky w ws cs u).d e:=vK (λu=>(ky w ws cs u).d e) ws;rw[d];refine⟨dR (by dsimp only;rw[lM1];lia),?_⟩;walk_at"w";exact⟨_,O,Mi.eD λu _=>Ky.und _ e 0,q⟩
def ddW(w:dJ)(ws:List Wk)(cs:List Nat)(e:E4)(L:List Rw)(u:Wk):D:=lr e L (ky w ws cs u)
def Mp(m:Nat)(w:dJ)(ws:List Wk)(cs:List Nat)(e:E4)(L:List Rw):D:=eE (ws.map λu=>fB w u (ddW w ws cs e L u)) (hP m ws (ddW w ws cs e L) cs)
theorem Kr{w:dJ}{ws:List Wk}(h:mq m w ws cs)(c:Inc e L)(ok:∀p∈L,pR p)(i:L.length<=4000)(q:Q (Mp m w ws cs e L,S)):W (dI 3 oV [webD w,mcD e L,eE ws cs] S) Q:=by
 refine fD O (by simp[D.unds,eA,ic,xP ok]) ?_;unfold oV
 refine iO ?_;unfold Dy
 have k:=h.few;have d:∀u∈ws,mx (ddW w ws cs e L u):=λu a=>C8 ok (h.ky u a);refine d3 (λr V=>V=[.lst (ws.map λu=>(ky w ws cs u).d e)]/\r=[Z (webD w),Z (mcD e L),Z (eE ws cs),Z (.ref 0)]) ?_ ?_
 ·have f:∀S,dL (mcD e L) (.int 0) S=Z (eyD e,S):=λS=>rfl
  wp_walk using f
  refine En h ?_;walk_at"w"
 rintro r V ⟨rfl,rfl⟩;unfold eh;rw[dN];have b:W (ez 2 [1] (g9 (mV 3)) (gT 2 (gCs (gN 0) (gCs (gN 1) gNl))) eY (eg (mN (dI 3 gJ) (dG (mV 2) (dG (mV 0) (dG (mV 1) dH))))) [Z (webD w),Z (mcD e L),Z (eE ws cs),Z (.ref 0)] [.lst (ws.map λu=>(ky w ws cs u).d e)]) λp=>p=(.ref 1,[.lst (ws.map λu=>(ky w ws cs u).d e),.lst (ws.map (ddW w ws cs e L))]):=by
  walk_at"w";refine ed (xs:=ws.map λu=>(ky w ws cs u).d e) O ?_;refine ji (ddW w ws cs e L) (λr=>∃x y,r=[x,y,Z (mcD e L)]) (fq O) ws _ ⟨_,_,O⟩ ?_ λj _=>?_
  ·rintro u a r ⟨x,y,rfl⟩;unfold Ky.d;walk_at"w";refine Dc c ok i (h.ky u a) (l7 e) ?_;exact⟨O,O,_,_,O⟩
  ·refine⟨dR (by dsimp only;rw[lM1];lia),?_⟩;walk_at"w"
 obtain⟨p,g,rfl⟩:=b;generalize ez 2 [1] (g9 (mV 3)) (gT 2 (gCs (gN 0) (gCs (gN 1) gNl))) eY (eg (mN (dI 3 gJ) (dG (mV 2) (dG (mV 0) (dG (mV 1) dH)))))=G at *
 wp_walk using g
 refine Fv h.web.len d h.few h.cl h.lt h.ch (dd:=ddW w ws cs e L) O ?_ ?_
 ·rw[bN,bN,Ob.und,Ob.und,Mi.eD λu _=>Ky.und _ e _,Mi.eD λu a=>ik (d u a).und];rfl
 ·exact⟨ic,q⟩
theorem N1{g:G1}{m:FE}{r:Ev}(h:W (m r S) λp=>W (g p.1 p.2) Q):W (mN (b1 g) (dG m dH) r S) Q:=by
 obtain⟨p,e,h⟩:=h;unfold mN dG dH;rw[e];exact h
abbrev Wh:=List Wk×List Nat
def D1(a:Wh):D:=eE a.1 a.2
theorem z0{ws:List Wk}{f:Wk->D}(hm:m<=8):(hP m ws f cs).length<=8 /\ ∀r∈hP m ws f cs,r<m:=by
 unfold hP;refine⟨?_,λr a=>aC.mp (aB.mp a).1⟩;refine aD (cX _ _) ?_;rw[cB];exact hm
theorem A5{w:dJ}{ws:List Wk}(h:mq m w ws cs){u:Wk}(d:u∈ws){x:D}(hx:mx x):∃row,w[(fB w u x).1]?=Z row/\(fB w u x).2.1<=row.length/\(fB w u x).2.2<4000:=by
 have b:=hx.eta.2;obtain⟨row,a,h1,h2⟩:=h.wk u d;unfold fB;rw[a];have base:∃row,w[(u.1,u.2.1,dm x).1]?=Z row/\(u.1,u.2.1,dm x).2.1<=row.length/\(u.1,u.2.1,dm x).2.2<4000:=⟨row,a,h1,b⟩;cases dt x with
 |none=>exact base
 |some t=>
  dsimp only[oS1];cases ep:row[t]? with
  |none=>exact base
  |some p=>
   obtain⟨r,c,e⟩:=h.web.to row (gM1 a) p (gM1 ep);exact⟨r,c,e,b⟩
theorem w8(a:Wh)(n:Nat):(D1 a).und n=M:=ik ic
structure DW (m:Nat)(rs cs:List Nat):Prop where
 few:rs.length<=8
 cl:cs.length<=8
 rs:∀r∈rs,r<m
 cs:∀r∈cs,r<m
def eF(rs cs:List Nat):D:=.tup [.tup (nmD rs),.tup (nmD cs)]
def qi(rs cs:List Nat):Wh:=(rs.map λr=>(r,0,0),cs)
theorem GJ{w:dJ}(hw:DL m w)(hm:m<=8)(h:DW m rs cs):mq m w (qi rs cs).1 (qi rs cs).2:=by
 refine⟨hw,hm,by show(rs.map _).length<=8;rw[lM1];exact h.few,h.cl,λu a=>?_,h.cs⟩;obtain⟨r,b,rfl⟩:=cf.mp a;exact⟨_,gG1 (by rw[hw.len];exact h.rs r b),bi _,by show 0<4000;decide⟩
theorem y2(rs cs:List Nat)(n:Nat):(eF rs cs).und n=M:=ik (by simp[eF,D.und,D.unds,fy])
theorem A7:dL (eF rs cs) (.int 0) S=Z (.tup (nmD rs),S):=rfl
theorem HW:dL (eF rs cs) (.int 1) S=Z (.tup (nmD cs),S):=rfl
theorem GI{c:Option D}{Q:List D×Ev×Sto->Prop}(h:∀ b,Q (fv (qi rs []).1,b,S)):
  W (fc [] (gN 0) eY (eg (eG (dG (mV 0) (dG (mC (D.int 0)) (dG (mC (D.int 0)) dH))))) (nmD rs) [c] S) Q:=by
 refine ji (f:=λr:Nat=>D.int r) (λr:Nat=>gz (r,0,0)) (λr=>∃x,r=[x]) O rs _ ⟨_,O⟩ ?_ λb _=>?_
 ·rintro a d r ⟨x,rfl⟩;walk_at"w";exact⟨O,_,O⟩
 ·have e:(rs.map λr:Nat=>gz (r,0,0))=fv (qi rs []).1:=by unfold fv qi;rw[bu];rfl
  rw[e];exact h b
theorem GH(c:rs.length<=1000)(q:Q (D1 (qi rs cs),S)):W (dI 1 lV [eF rs cs] S) Q:=by
 refine fD O (by rw[D.unds,y2];rfl) ?_;unfold lV;refine iO ?_;unfold yD;refine d3 (λr V=>V=[]/\r=[Z (eF rs cs),Z (.tup (nmD rs)),Z (.tup (nmD cs))]) ?_ ?_
 ·unfold eF;walk_at"w"
 rintro r V ⟨rfl,rfl⟩;walk_at"w";rw[hD];refine GI λb=>?_;have a:(fv (qi rs []).1).length=rs.length:=by rw[w5];exact lM1 _
 walk_at"w";refine⟨dR (by rw[a];lia),?_⟩;refine ed (xs:=fv (qi rs []).1) O ?_;exact⟨w8 (qi rs cs) 0,q⟩
def Jl(a:Wh):Bool:=match a.1 with
 |[]=>M
 |u::ws=>(u::ws).all λv=>v.1 == u.1
theorem Ga{a:Wh}(c:a.1≠[])(j:a.1.length<=1000)(q:Q (.bl (Jl a),S)):W (dI 1 jO [D1 a] S) Q:=by
 obtain⟨ws,d⟩:=a;cases ws with
 |nil=>exact absurd O c
 |cons u ws=>
  have g:∀b,dL (D1 (u::ws,d)) (.int 0) b=Z (.tup (fv (u::ws)),b):=λb=>rfl;refine fD O (by rw[D.unds,w8];rfl) ?_;unfold jO;refine iO ?_;unfold vt;refine d3 (λr V=>V=[]/\r=[Z (D1 (u::ws,d)),Z (.int u.1)]) ?_ ?_
  ·have i:∀ b,dL (.tup (fv (u::ws))) (.int 0) b=some (gz u,b):=fun b=>by
    obtain⟨p,e,h⟩:W (dL (.tup (fv (u::ws))) (.int ((0:Nat):Int)) b) λp=>p=(gz u,b):=hU O O;exact e.trans (by rw[h])
   wp_walk using g,i,sU
  rintro r V ⟨rfl,rfl⟩;unfold eh;rw[dN];refine N1 ?_
  wp_walk using g
  rw[hD];refine ji (f:=gz) (λv:Wk=>D.bl (v.1 == u.1)) (λr=>∃x y z,r=[x,y,z,Z (.int u.1)]) O (u::ws) _ ⟨_,_,_,O⟩ ?_ λk _=>?_
  ·rintro v l r ⟨x,y,z,rfl⟩;unfold gz;walk_at"w";refine⟨?_,_,_,_,O⟩
   congr 1
   rw[bO,RW,RW];lia
  ·walk_at"w";refine⟨dR (by rw[lM1];exact aD j (by decide)),?_⟩;refine W.of (x:=(.bl (Jl (u::ws,d)),[Ob.lst ((u::ws).map λv:Wk=>D.bl (v.1 == u.1))])) ?_ ⟨O,q⟩;unfold qc;rw[fR (xs:=(u::ws).map λv:Wk=>D.bl (v.1 == u.1)) O,oS1,pP];rfl
def stepL(m:Nat)(w:dJ)(e:E4)(L:List Rw)(a:Wh):Wh:=(a.1.map λu=>fB w u (ddW w a.1 a.2 e L u),hP m a.1 (ddW w a.1 a.2 e L) a.2)
theorem mq.stepL{w:dJ}{a:Wh}(h:mq m w a.1 a.2)(ok:∀p∈L,pR p):mq m w (stepL m w e L a).1 (stepL m w e L a).2:=by
 have hc:=z0 (m:=m) (ws:=a.1) (f:=ddW w a.1 a.2 e L) (cs:=a.2) h.m8;refine⟨h.web,h.m8,by show(a.1.map _).length<=8;rw[lM1];exact h.few,hc.1,λv c=>?_,hc.2⟩;obtain⟨u,b,rfl⟩:=cf.mp c;exact A5 h b (C8 ok (h.ky u b))
noncomputable def rg(b:Bool)(n:Nat):List Nat:=if b=M then af n else[0]
def SG(e:E4):List Ky:=(rg e.1 5).flatMap λx=>(rg e.2.1 2).flatMap λy=>(rg e.2.2.1 5).flatMap λz=>(rg e.2.2.2 2).map λw=>⟨0,x,y,z,w⟩
structure Pd (e:E4)(k:Ky):Prop where
 x:k.x<=4
 y:e.2.1=true->k.y<=1
 z:k.z<=4
 w:e.2.2.2=true->k.w<=1
theorem xB{x:Nat}(hn:0<n)(h:x∈rg b n):x<n:=by
 unfold rg at h;cases b with
 |false=>simp at h;lia
 |true=>simpa using h
theorem pQ{k:Ky}(h:k∈SG e):k.m=0/\k.Ok/\Pd e k:=by
 unfold SG at h;obtain⟨x,b,h⟩:=de.mp h;obtain⟨y,d,h⟩:=de.mp h;obtain⟨z,c,h⟩:=de.mp h;obtain⟨w,a,rfl⟩:=cf.mp h;have h1:=xB (by decide) b;have h2:=xB (by decide) d;have g:=xB (by decide) c;have f:=xB (by decide) a;exact⟨O,⟨by show 0<4000;decide,by show x<=4;lia,by show y<=4;lia,by show z<=4;lia,by show w<=4;lia⟩,⟨by show x<=4;lia,λ_=>by show y<=1;lia,by show z<=4;lia,λ_=>by show w<=1;lia⟩⟩
theorem Hk{α:Type}{c:List (Nat×List D)}{g:FG}{t:FT}{b:FV}{S:Sto}{f:α->D}{Q:List D×Ev×Sto->Prop}(F:α->List D)(P:Ev->Prop)(d:oR S c=true):∀ (xs:List α) (r:Ev),P r ->
  (∀a∈xs,∀r,P r->W (g (f a) r S) λp=>W (t p.1 p.2) λk=>k.1=M/\W (b p.1 k.2) λx=>x.1=F a/\x.2.2=S/\P x.2.1) ->
  (∀i,P i->Q (xs.flatMap F,i,S))->W (fc c g t b (xs.map f) r S) Q
 |[],r,e,_,h=>by rw[aZ,fc];dsimp only;rw[ak d,dV];exact h r e
 |a::xs,r,e,hs,h=>by
  rw[mP1,fc];dsimp only;rw[ak d,dN];obtain⟨p,s,h1⟩:=hs a mS1 r e;refine⟨p,s,?_⟩;dsimp only;rw[dN];obtain⟨⟨k,y⟩,v,q,h2⟩:=h1;refine⟨_,v,?_⟩;dsimp only at q h2 ⊢;subst q;rw[ak O,dN];obtain⟨⟨x,r2,z⟩,w,n,m,o⟩:=h2;refine⟨_,w,?_⟩;dsimp only at n m o ⊢;subst n;subst m;rw[j3];refine Hk F P d xs r2 o (λu l r e=>hs u (mC1 _ l) r e) λi j=>?_;rw[<- List.flatMap_cons];exact h i j
theorem GS{m:FI}{g:FG}{t:FT}{b:FV}{r:Ev}{Q:List D×Ev×Sto->Prop}:W (u4 m g t b r S) Q↔W (m r S) λp=>W (fc p.1.chk g t b p.1.items r p.2) Q:=by
 unfold u4;rw[dN]
def nR(b:Bool)(n:Nat):List D:=if b=M then fT 0 n else[.non]
def wu(L:List (List D))(P:List D):List (List D):=L.flatMap λx=>P.map λp=>x++[p]
def v6(e:E4):Nat->List (List D)
 |0=>[[]]
 |1=>wu [[]] (nR e.1 5)
 |2=>wu (wu [[]] (nR e.1 5)) (nR e.2.1 2)
 |3=>wu (wu (wu [[]] (nR e.1 5)) (nR e.2.1 2)) (nR e.2.2.1 5)
 |_=>wu (wu (wu (wu [[]] (nR e.1 5)) (nR e.2.1 2)) (nR e.2.2.1 5)) (nR e.2.2.2 2)
theorem um(e:E4)(hi:i<=4):(∀x∈v6 e i,x.length<=4)/\(v6 e i).length<=100:=by
 obtain⟨a,b,c,d⟩:=e
 match i,hi with
 |0,_|1,_|2,_|3,_|4,_=>cases a<;>cases b<;>cases c<;>cases d<;>exact⟨by decide+kernel,by decide+kernel⟩
theorem ET(e:E4):(v6 e 4).map D.tup=(SG e).map (·.sg e):=by
 obtain⟨a,b,c,d⟩:=e;cases a<;>cases b<;>cases c<;>cases d<;>kernel_rfl!
theorem Fc{x:Str}{k:Nat}{L:List (List D)}{w:Option D}{Q:Fl×Ev×Sto->Prop}(hb:∀ S,jl (.str x) (eyD e) S=some (.bl b,S))(hn:n<=5)(hk:S[k]? = some (.lst (L.map D.tup)))(hx:∀ y∈L,y.length<=4)(hg:(wu L (nR b n)).length<=100)(q:∀a l o,a[l]?=some (.lst ((wu L (nR b n)).map D.tup))->Q (.nx,[some (eyD e),some (.ref l),some (.str x),some (.int (n:Nat)),o],a)):
  W (li [Z (eyD e),Z (.ref k),Z (.str x),Z (.int (n:Nat)),w] S) Q:=by
 unfold li;refine d3 (λr V=>V=S++[.lst (nR b n)]/\r=[Z (eyD e),Z (.ref k),Z (.str x),Z (.int (n:Nat)),Z (.ref S.length)]) ?_ ?_
 ·wp_walk using hb
  cases b with
  |true=>
   rw[ak O];refine Hu (k:=n) (S1:=S) O (by lia) ?_;exact⟨O,O⟩
  |false=>
   rw[aj (by decide)];exact⟨O,trivial⟩
 rintro r V ⟨rfl,rfl⟩;have i:(S++[Ob.lst (nR b n)])[k]?=Z (.lst (L.map D.tup)):=by rw[gL1 (R9 hk).1];exact hk
 have j:(S++[Ob.lst (nR b n)])[S.length]?=Z (.lst (nR b n)):=by rw[dP];rfl
 generalize S++[Ob.lst (nR b n)]=V at *
 walk_at"w";refine ed i ?_;refine Hk (f:=D.tup) (λy=>(nR b n).map λp=>D.tup (y++[p])) (λr=>∃d h,r=[d,h,Z (.ref S.length)]) (fq i) L _ ⟨_,_,O⟩ ?_ ?_
 ·rintro y z r ⟨d,h,rfl⟩;have v:=hx y z
  wp_walk using GS
  refine ed j ?_;dsimp only;rw[show∀c g t m r a,fc c g t m (nR b n) r a=fc c g t m ((nR b n).map id) r a from λ_ _ _ _ _ _=>by rw[List.map_id]];refine ji (f:=id) (λp=>D.tup (y++[p])) (λr=>∃x,r=[Z (.tup y),x,Z (.ref S.length)]) (fq j) (nR b n) _ ⟨_,O⟩ ?_ ?_
  ·rintro p A r ⟨x,rfl⟩;walk_at"w";exact⟨dR (by lia),O,_,O⟩
  ·rintro u ⟨x,rfl⟩;exact⟨O,O,_,_,O⟩
 ·rintro u ⟨d,h,rfl⟩;have s:(L.flatMap fun y=>(nR b n).map fun p=>D.tup (y++[p]))=(wu L (nR b n)).map D.tup:=by
   unfold wu;rw[List.map_flatMap];refine congrArg (λF=>List.flatMap F L) (funext λy=>?_);rw[bu];rfl
  rw[s];refine⟨dR (by rw[lM1];lia),?_⟩;walk_at"w";exact q _ _ _ (by rw[dP];rfl)
theorem EC(e:E4):D.unds 0 ((SG e).map (·.sg e))=M:=Mi.eD λk _=>k.sgu e 0
theorem J8(e:E4)(hi:i<4):∃(b:Bool) (x:Str) (n:Nat),([("came",5),("chalk",2),("doors",5),("others",2)]:List (Str×Nat))[i]?=Z (x,n)/\n<=5/\(∀S,jl (.str x) (eyD e) S=Z (.bl b,S))/\v6 e (i+1)=wu (v6 e i) (nR b n):=by
 obtain⟨a,b,c,d⟩:=e
 match i,hi with
 |0,_=>exact⟨a,_,_,O,by decide,λS=>by cases a<;>cases b<;>cases c<;>cases d<;>rfl,O⟩
 |1,_=>exact⟨b,_,_,O,by decide,λS=>by cases a<;>cases b<;>cases c<;>cases d<;>rfl,O⟩
 |2,_=>exact⟨c,_,_,O,by decide,λS=>by cases a<;>cases b<;>cases c<;>cases d<;>rfl,O⟩
 |3,_=>exact⟨d,_,_,O,by decide,λS=>by cases a<;>cases b<;>cases c<;>cases d<;>rfl,O⟩
theorem Bd(q:Q (.tup ((SG e).map (·.sg e)),S)):W (dI 1 jN [eyD e] S) Q:=by
 refine fD O (by rw[D.unds,l7];rfl) ?_;unfold jN;refine iO ?_;unfold vr;refine d3 (λr V=>V=[.lst [.tup []]]/\r=[Z (eyD e),Z (.ref 0),Y,Y,Y]) ?_ ?_
 ·walk_at"w"
 rintro r V ⟨rfl,rfl⟩;refine d3 (λr V=>∃(k:Nat) (c j f:Option D),r=[Z (eyD e),Z (.ref k),c,j,f]/\V[k]?=Z (.lst ((v6 e 4).map D.tup))) ?_ ?_
 ·walk_at"w";unfold jo;rw[hD];dsimp only;refine eK (λi r V=>i<=4 /\ ∃(k:Nat) (c j f:Option D),r=[Z (eyD e),Z (.ref k),c,j,f]/\V[k]?=Z (.lst ((v6 e i).map D.tup))) _ 0 _ _ ⟨by lia,0,_,_,_,O,O⟩ (λ_ _ _ _=>rfl) ?_ ?_
  ·rintro i d l r V ⟨hi,k,c,j,f,rfl,g⟩;have a:=(R9 l).1;rw[bL]at *
   obtain⟨b,x,n,o,t,s,m⟩:=J8 e (i:=i) a;obtain⟨h1,_⟩:=um e (i:=i) (by simp at a;lia);obtain⟨_,h2⟩:=um e (i:=i+1) (by simp at a;lia);rw[m]at h2;have p:d = .tup [.str x,.int (n:Nat)]:=by
    match i,a with
    |0,_|1,_|2,_|3,_=>cases o;cases l;rfl
   subst p;walk_at"w";refine Fc s t g h1 h2 λy u w v=>?_;rw[m];exact⟨O,by simp at a;lia,u,_,_,_,O,v⟩
  ·rintro r V ⟨_,h⟩;exact⟨O,h⟩
 rintro r V ⟨k,c,j,f,rfl,g⟩;walk_at"w";refine ed g ?_;rw[ET];exact⟨by rw[D.und];exact EC e,q⟩
def upI(l:List Nat):List Int:=l.map λx:Nat=>(x:Int)
theorem rZ(l:List Nat):(upI l).length=l.length:=lM1 _
theorem hC{l:List Nat}:iU (upI l) i=(l.getD i 0:Nat):=by
 unfold iU upI;rw[bH,bH,gP1];cases l[i]? <;> rfl
theorem xk(l:List Nat):iA (upI l) = .tup (nmD l):=by
 unfold iA upI nmD;rw[bu];rfl
theorem Bi(h:i<m):iU (sgL m ws cs b) i=Bj ws cs b i:=by
 unfold iU sgL;rw[bH,gP1,cr h];rfl
def mw(m:Nat)(rs cs:List Nat):Prop:=∀i j,i<m->j<m->rs.getD i 0=rs.getD j 0->cs.contains i=cs.contains j
theorem Ax{α β:Type}{a:List α}{b:List β}{p:α×β}(h:p∈a.zip b):∃d:Nat,a[d]?=Z p.1/\b[d]?=Z p.2:=by
 obtain⟨d,c⟩:=bq h;exact⟨d,cH.mp c⟩
theorem Au.row{w:dJ}(C:Au m w rs)(hi:i<m)(h:j<m)(e:rs.getD i 0=rs.getD j 0):(gG w i).length=(gG w j).length /\ ∀(d:Nat) (p q:Nat×Nat),(gG w i)[d]?=Z p->(gG w j)[d]?=Z q->rs.getD p.1 0=rs.getD q.1 0/\p.2=q.2:=by
 obtain⟨n,F⟩:=C.fb;obtain⟨f,h1⟩:=ss C.web.toWebJ hi;obtain⟨r2,h2⟩:=ss C.web.toWebJ h;obtain⟨a,a1,a2⟩:=F.deg i f h1;obtain⟨b,b1,b2⟩:=F.deg j r2 h2;rw[e,b1]at a1;cases a1;refine⟨by rw[ke h1,ke h2];lia,λd p q l k=>?_⟩;have c:=F.at_ i d p (sv l);have g:=F.at_ j d q (sv k);rw[e]at c;have:=j2 c g;injection this with x y;exact⟨x,y⟩
theorem yn{w:dJ}(C:Au m w rs)(hk:mw m rs cs):Fit m w (sgL m ws cs J) (upI rs):=by
 intro i j hi a e;have b:rs.getD i 0=rs.getD j 0:=by rw[hC,hC]at e;lia
 obtain⟨c,g⟩:=C.row hi a b;rw[sS];refine⟨e,?_,c,λp k=>?_⟩
 ·rw[Bi hi,Bi a];unfold Bj;rw[hk i j hi a b];rfl
 ·obtain⟨d,h1,h2⟩:=Ax k;obtain⟨f,h⟩:=g d _ _ h1 h2;exact⟨by rw[hC,hC,f],h⟩
theorem wA{m:Nat}{w:dJ}{sg c:List Int}(hw:WebJ m w)(h:Fit m w sg c):∀(n a b:Nat),a<m->b<m->iU c a=iU c b->RA w sg n a b
 |0,_,_,_,_,_=>trivial
 |n+1,a,b,ha,hb,e=>by
  obtain⟨_,h2,l,j⟩:=sS.mp (h a b ha hb e);refine⟨wA hw h n a b ha hb e,h2,l,λd p q g f=>?_⟩;obtain⟨k,o⟩:=j (p,q) (gM1 (i:=d) (cH.mpr ⟨g,f⟩));exact⟨wA hw h n _ _ (su hw g) (su hw f) k,o⟩
theorem kB{w:dJ}{sg:List Int}(h:i<m):(gv m w sg).getD i 0=col w sg m i:=by
 unfold gv;rw[bH,gP1,cr h];rfl
theorem vi{w:dJ}{sg:List Int}(hw:WebJ m w)(b:0<m):Fit m w sg (upI (gv m w sg)):=by
 intro i j hi h e;have o:RA w sg m i j:=by
  rw[<- gP];rw[hC,hC,kB hi,kB h]at e;lia
 obtain⟨n,t,l⟩:=HV (w:=w) (sg:=sg) b;have a:=l.on hw (m-n);rw[show n+(m-n)=m by lia]at a;obtain⟨_,h2,q,k⟩:=a i j hi h o;rw[sS];refine⟨e,h2,q,λp s=>?_⟩;obtain⟨d,c,f⟩:=Ax s;obtain⟨g,r⟩:=k d _ _ c f;refine⟨?_,r⟩;rw[<- gP]at g;rw[hC,hC,kB (su hw c),kB (su hw f),g]
theorem zY{b:Nat}{w:dJ}{sg c:List Int}(hw:WebJ m w)(h:Fit m w sg c)(ha:a<m)(hb:b<m)(e:iU c a=iU c b):(gv m w sg).getD a 0=(gv m w sg).getD b 0:=by
 rw[kB ha,kB hb,gP];exact wA hw h m a b ha hb e
theorem B3{w:dJ}{d:D}(C:Au m w rs)(hk:mw m rs cs)(b:∀x∈ws,x<m)(a:0<m)(f:i<j)(o:j<ws.length)(e:rs.getD (ws.getD i 0) 0=rs.getD (ws.getD j 0) 0)(h:Nv m w ws cs M d):(∃c,d=Kg c/\c=gv m w (sgL m ws cs M) /\ ¬ c.Nodup) \/ ∃p q,d=alD p q (gv m w (sgL m ws cs J))/\p<q/\q<ws.length/\cw (gv m w (sgL m ws cs J)) ws p=cw (gv m w (sgL m ws cs J)) ws q:=by
 cases h with
 |co h=>exact .inl ⟨_,O,O,h⟩
 |al _ h g k=>
  cases k with
  |yes p q h1 h2 l r=>exact .inr ⟨p,q,O,h1,h2,l⟩
  |no n=>
   refine(n i j f o ?_).elim;unfold cw;exact zY C.web.toWebJ (yn C hk) (kw a b) (kw a b) (by rw[hC,hC,e])
 |no h g=>cases g
theorem Bg{w:dJ}(hw:WebJ m w)(a:0<m)(hm:m<=8)(hn:¬ (gv m w (sgL m ws cs M)).Nodup)(q:Q (.bl M,S)):W (dI 4 d2 [webD w,ot ws cs,.bl b,Kg (gv m w (sgL m ws cs M))] S) Q:=by
 have c:=md (m:=m) (w:=w) (sg:=sgL m ws cs M);have d:=vi (sg:=sgL m ws cs M) hw a;generalize gv m w (sgL m ws cs M)=cl at *
 have e:Kg cl=KO (upI cl):=by
  unfold Kg KO;rw[xk]
 rw[e];refine Be hw hm (by rw[rZ];exact c) ?_;have:vC m w ws cs (upI cl)=M:=by
  unfold vC;rw[mz d,Bool.true_and,am];obtain⟨h1,h2⟩:=pA (upI cl) [] bp;rw[bf,bL,rZ,c]at h1 h2;rw[cP]at h2;have:¬ (upI cl).Nodup:=λz=>hn (tX.mp z);unfold ddI;lia
 rw[this];exact q
theorem t5{w:dJ}{a:List Nat}(hw:WebJ m w)(c:0<m)(hm:m<=8)(h:a.length=m)(hf:Fit m w (sgL m ws cs J) (upI a))(d:∀x∈ws,x<m)(f:i<j)(k:j<ws.length)(e:a.getD (ws.getD i 0) 0=a.getD (ws.getD j 0) 0)(q:Q (.bl b,S)):W (dI 4 d2 [webD w,ot ws cs,.bl b,alD i j a] S) Q:=by
 have g:alD i j a=D6 i j (upI a):=by
  unfold alD D6;rw[xk]
 rw[g];refine Bf hw c hm (by rw[rZ];exact h) d (by lia) k ?_;have:vA m w ws cs b i j (upI a)=b:=by
  unfold vA;rw[mz hf,ah f,hC,hC,e];simp
 rw[this];exact q
theorem DM.ok{w:dJ}(h:DM m w):DL m w:=by
 refine⟨h.len,λrow a=>?_,λrow a e b=>?_⟩
 ·obtain⟨i,hi⟩:=bq a;exact h.le i row hi
 ·obtain⟨i,hi⟩:=bq a;obtain⟨d,c⟩:=bq b;obtain⟨r,h1,h2⟩:=h.bk i d e ⟨row,hi,c⟩;exact⟨r,h1,(R9 h2).1⟩
structure MH (rs:List Nat)(ws:List Wk)(i j:Nat):Prop where
 ex:∃u v,ws[i]?=some u/\ws[j]?=some v/\u.1≠v.1/\rs.getD u.1 0=rs.getD v.1 0/\u.2=v.2
theorem rz{ws:List Wk}{u v:Wk}(h2:ws.length=2)(f:i≠j)(d:ws[i]?=Z u)(hv:ws[j]?=Z v)(hn:u.1≠v.1):crowd ws u.1=1:=by
 have hi:=(R9 d).1;have g:=(R9 hv).1
 match ws,h2 with
 |[a,b],_=>
  have c:v.1≠u.1:=λz=>hn z.symm;have e:i=0/\j=1\/i=1/\j=0:=by simp at hi g;lia
  rcases e with⟨rfl,rfl⟩|⟨rfl,rfl⟩
  ·simp at d hv;subst d;subst hv;simp[crowd,c]
  ·simp at d hv;subst d;subst hv;simp[crowd,c]
theorem Kb{k l:Ky}(hm:k.m=l.m)(hc:k.code e=l.code e):lr e L k=lr e L l:=by
 unfold lr Db;rw[hc,hm]
theorem F0{w:dJ}{ws:List Wk}{u v:Wk}(C:Au m w rs)(hk:mw m rs cs)(he:e.2.2.2=J\/ws.length=2)(c:i≠j)(f:ws[i]?=Z u)(hv:ws[j]?=Z v)(b:u.1<m)(a:v.1<m)(hn:u.1≠v.1)(hr:rs.getD u.1 0=rs.getD v.1 0)(h2:u.2=v.2):(ky w ws cs u).m=(ky w ws cs v).m/\(ky w ws cs u).code e=(ky w ws cs v).code e:=by
 have d:u.2.2=v.2.2:=by rw[h2]
 have h:u.2.1=v.2.1:=by rw[h2]
 have k:=hk u.1 v.1 b a hr;have g:((w[u.1]?).getD []).length=((w[v.1]?).getD []).length:=(C.row b a hr).1;refine⟨d,?_⟩;unfold Ky.code ky;dsimp only;rw[d]
 congr 1
 unfold E4.bs Ky.xs;dsimp only;rw[Mk,Mk,h,k,g]
 congr 1
 rcases he with he|he
 ·rw[he];rfl
 ·rw[rz he c f hv hn,rz he (Py c) hv f (Py hn)]
theorem yY{w:dJ}{u v:Wk}(C:Au m w rs)(b:u.1<m)(a:v.1<m)(hn:u.1≠v.1)(hr:rs.getD u.1 0=rs.getD v.1 0)(h2:u.2=v.2)(x:D):(fB w u x).1≠(fB w v x).1/\rs.getD (fB w u x).1 0=rs.getD (fB w v x).1 0/\(fB w u x).2=(fB w v x).2:=by
 obtain⟨h,f⟩:=C.row b a hr;obtain⟨e,h1⟩:=ss C.web.toWebJ b;obtain⟨r2,c⟩:=ss C.web.toWebJ a;rw[ke h1,ke c]at h f;unfold fB;rw[h1,c];cases dt x with
 |none=>exact⟨hn,hr,by dsimp only;rw[h2]⟩
 |some t=>
  dsimp only[oS1];cases e1:e[t]? with
  |none=>
   rw[List.getElem?_eq_none_iff]at e1;rw[bX (show r2.length<=t by lia)];exact⟨hn,hr,by dsimp only;rw[h2]⟩
  |some p=>
   have j:=(R9 e1).1;obtain⟨q,d⟩:∃q,r2[t]?=some q:=⟨_,gG1 (by lia)⟩;rw[d];obtain⟨i,g⟩:=f t p q e1 d;refine⟨λz=>hn ?_,i,by dsimp only;rw[g]⟩;dsimp only at z;have b1:=C.web.bk u.1 t p ⟨e,h1,e1⟩;have b2:=C.web.bk v.1 t q ⟨r2,c,d⟩;rw[z,g]at b1;have:=j2 b1 b2;injection this
def Lve(L:List Rw):Prop:=∀p∈L,dh p.2="leave"
theorem Ka{k:Ky}(h:Lve L):dh (lr e L k)="leave":=by
 unfold lr;cases hf:L.find? (λp=>decide (p.1.code e=k.code e))with
 |none=>rfl
 |some p=>exact h p (List.mem_of_find?_eq_some hf)
theorem Dl{w:dJ}{ws:List Wk}(h:Lve L)(hc:cs=(af m).filter λr=>cs.contains r):hP m ws (ddW w ws cs e L) cs=cs:=by
 have no:∀(x:Str) (r:Nat),x≠"leave"->p7 ws (ddW w ws cs e L) x r=J:=λx r a=>by
  unfold p7;rw[List.any_eq_false];intro u _ z;rw[bA1,RW,RW]at z;unfold ddW at z;rw[Ka h]at z;exact a z.2.symm
 unfold hP
 conv=>rhs;rw[hc]
 refine List.filter_congr λr _=>?_;rw[no "mark" r (by decide),no "wipe" r (by decide)];simp
theorem DE{w:dJ}{ws:List Wk}(C:Au m w rs)(hw:mq m w ws cs)(hk:mw m rs cs)(he:e.2.2.2=J\/ws.length=2)(d:i≠j)(h:MH rs ws i j):MH rs (stepL m w e L (ws,cs)).1 i j:=by
 obtain⟨u,v,f,g,k,l,h2⟩:=h.ex;have b:=hw.lt u (gM1 f);have a:=hw.lt v (gM1 g);obtain⟨q,o⟩:=F0 C hk he d f g b a k l h2;have c:ddW w ws cs e L u=ddW w ws cs e L v:=Kb q o;obtain⟨n,p,r⟩:=yY C b a k l h2 (ddW w ws cs e L v);refine⟨fB w u (ddW w ws cs e L u),fB w v (ddW w ws cs e L v),?_,?_,?_,?_,?_⟩
 ·show(ws.map _)[i]?=_;rw[gP1,f];rfl
 ·show(ws.map _)[j]?=_;rw[gP1,g];rfl
 ·rw[c];exact n
 ·rw[c];exact p
 ·rw[c];exact r
theorem GP{a:Wh}(h:MH rs a.1 i j):Jl a=J:=by
 obtain⟨u,v,c,e,d,_,_⟩:=h.ex;obtain⟨ws,f⟩:=a;cases ws with
 |nil=>cases i<;>cases c
 |cons x ws=>
  refine cO.mpr λz=>d ?_;have b:(x::ws).all (λv=>v.1 == x.1)=M:=z;rw[bA]at b;have a1:=RW.mp (b u (gM1 c));have a2:=RW.mp (b v (gM1 e));rw[a1,a2]
def kJ(xs:List Nat):List Nat:=(iC (xs.map λ(r:Nat)=>(r:Int))).map Int.toNat
theorem vV(xs:List Nat):(kJ xs).Perm xs:=by
 have:=(fJ (xs.map λ(r:Nat)=>(r:Int))).map Int.toNat
 rw[bu]at this;have e:(Int.toNat∘λ(r:Nat)=>(r:Int))=id:=by funext x;simp
 rw[e,List.map_id]at this;exact this
theorem A9(xs:List Nat):(iC (xs.map λ(r:Nat)=>(r:Int))).map D.int=nmD (kJ xs):=by
 unfold nmD kJ;rw[bu];refine cM λi hi=>?_;obtain⟨x,_,rfl⟩:=cf.mp ((fJ _).mem_iff.mp hi);rfl
theorem CC(xs:List Nat):rh (nmD xs)=Z (xs.map λ(r:Nat)=>(r:Int)):=by
 induction xs with
 |nil=>rfl
 |cons x xs ih=>
  show(rh (nmD xs)).map _=_;rw[ih];rfl
theorem GQ{xs:List Nat}(h:S[n]?=Z (.lst (nmD xs)))(a:xs.length<64)(q:Q (.ref S.length,S++[.lst (nmD (kJ xs))])):W (l0 (.ref n) S) Q:=by
 refine W.of ?_ q;simp only[l0,h];rw[CC,oS1,ak (by rw[lM1];exact a),A9]
theorem Mg(xs:List D)(k:Nat):Mi.ma xs Y (Z (k:Int))=xs.take k:=by
 unfold Mi.ma;rw[HT.ud,HT.xu,List.drop_zero,Nat.sub_zero];by_cases h:k<=xs.length
 ·rw[Nat.min_eq_left h]
 ·rw[Nat.min_eq_right (by lia),bU,ca (by lia)]
theorem Ms{m:FE}{hi:FO}{r:Ev}{k:Nat}{xs:List D}(hm:m r S=Z (.ref n,S))(a:hi r S=Z (Z (k:Int),S))(h:S[n]?=Z (.lst xs))(q:Q (.ref S.length,S++[.lst (xs.take k)])):W (kE m i0 hi r S) Q:=by
 rw[<- Mg]at q;refine W.of ?_ q;unfold kE;rw[hm,oS1];dsimp only;rw[show i0 r S=Z (Y,S)from rfl,oS1];dsimp only;rw[a,oS1];simp only[sj,fR h,oP1,QC]
theorem HU{xs:List D}{l:List Nat}(h:xs.Sublist (nmD l)):∃l':List Nat,l'.Sublist l/\xs=nmD l':=List.sublist_map_iff.mp h
theorem JQ{w:dJ}(hw:w.length=m)(hm:m<=8)(h:rs.length=m)(ho:fx o n)(hn:n<=2^40)(k:T.all (Ob.und (T.length+1))=M)(q:∀(ks:List Nat) o',fx o' (n+8)->Q (.tup (nmD ((af m).filter λr=>ks.contains (rs.getD r 0))),o'::T)):W (dI 3 gX [.ref 0,webD w,.tup (nmD rs)] (o::T)) Q:=by
 refine me O O k ?_;unfold gX;refine iO ?_;unfold ny;refine d3 (λr S=>∃(ks:List Nat) (o':Ob),fx o' (n+8)/\S=o'::(T++[.lst (nmD ks)])/\r=[Z (.ref 0),Z (webD w),Z (.tup (nmD rs)),Z (.ref (T.length+1))]) ?_ ?_
 ·wp_walk using kr,hw
  refine⟨eL (by lia),?_⟩;rw[Qy];have g:(fT 0 m).length<=8:=by rw[eo];exact hm
  refine BH ho (by lia) (by decide) (by decide) λxs p u c b=>?_;have j:=b.length_le;rw[kT]at b;obtain⟨ks,_,rfl⟩:=HU (l:=af m) b;refine⟨dR (by dsimp only;lia),?_⟩;walk_at"w";exact⟨ks,p,c.more (by lia),O,trivial⟩
 rintro r S ⟨ks,o',a,rfl,rfl⟩;have d:(o'::(T++[Ob.lst (nmD ks)]))[T.length+1]?=Z (.lst (nmD ks)):=by rw[gC1,dP];rfl
 generalize s:o'::(T++[Ob.lst (nmD ks)])=V at d
 wp_walk using kr,hw
 refine⟨eL (by lia),?_⟩;rw[Qy,kT];refine iI (f:=λi:Nat=>D.int i) (λr=>ks.contains (rs.getD r 0)) (λr:Nat=>D.int r) (λr=>∃x,r=[x,Z (.tup (nmD rs)),Z (.ref (T.length+1))]) O (af m) _ ⟨_,O⟩ ?_ λt _=>?_
 ·rintro i hi r ⟨x,rfl⟩;have hi:=aC.mp hi;walk_at"w";refine vy (by lia) ?_;refine W.of (JX d) ?_;walk_at"w";exact⟨⟨_,O⟩,λ_=>trivial⟩
 ·have e:((af m).filter λr=>ks.contains (rs.getD r 0)).map (λr:Nat=>D.int r)=nmD ((af m).filter λr=>ks.contains (rs.getD r 0)):=rfl;rw[e];have g:=cX (λr=>ks.contains (rs.getD r 0)) (af m);rw[cB]at g;refine⟨dR (by rw[ej];lia),?_⟩;walk_at"w";refine ed (by rw[dP];rfl) ?_;refine⟨_,o',[.lst (nmD ks),.lst (nmD ((af m).filter λr=>ks.contains (rs.getD r 0)))],?_,by rw[D.und];exact fy _,a.und,q ks o' a⟩;rw[<- s];simp
theorem zR {its:List D}{xs:List D}(h:xs.Sublist its)(f:its.Sublist [.str "came",.str "chalk",.str "doors",.str "others"]):∃e:E4,xs=gg e.1 e.2.1 e.2.2.1 e.2.2.2:=by
 obtain⟨a,b,c,d,e⟩:=C1 (h.trans f);exact⟨(a,b,c,d),e⟩
theorem zp {xs:List D}(h:xs.Sublist [.str "came",.str "chalk",.str "doors"])(he:xs=gg e.1 e.2.1 e.2.2.1 e.2.2.2):e.2.2.2=J:=by
 obtain⟨a,b,c,d⟩:=e;cases d with
 |false=>rfl
 |true=>
  have:D.str "others"∈xs:=by rw[he];unfold gg;simp
  have:=h.subset this;simp at this;exact absurd this (by decide)
theorem J7 {its:List D}(b:its.Sublist [.str "came",.str "chalk",.str "doors",.str "others"])(ho:fx o n)(hn:n<=2^45)(f:T.all (Ob.und (T.length+1))=true)
  (h:∀(e:E4) o',(its=[.str "came",.str "chalk",.str "doors"]->e.2.2.2=J)->fx o' (n+4)->Q (eyD e,o'::T)):W (dI 2 gZ [.ref 0,.tup its] (o::T)) Q:=by
 have g:its.length<=4:=b.length_le;refine me O O f ?_;unfold gZ;refine iO ?_;unfold nz;walk_at"w";rw[hD];refine BH ho (by lia) (by decide) (by decide) λxs d i a c=>?_;obtain⟨e,rfl⟩:=zR c b;have j:=C2 e.1 e.2.1 e.2.2.1 e.2.2.2;refine⟨dR (by dsimp only;lia),?_⟩;walk_at"w";refine ed (xs:=gg e.1 e.2.1 e.2.2.1 e.2.2.2) (by rw[gC1,dP];rfl) ?_;exact⟨_,d,_,O,l7 e,a.und,h e d (λz=>zp (z ▸ c) O) (a.more (by lia))⟩
def upM(i:Nat)(k:Ky):Ky:=⟨i,k.x,k.y,k.z,k.w⟩
theorem lz{k:Ky}(h:k.m=0):(upM i k).code e=i*4096+k.code e:=by
 unfold Ky.code upM Ky.xs;dsimp only;rw[h,Nat.zero_mul,bL]
theorem KD(e:E4):(SG e).Pairwise λa b=>a.code e<b.code e:=by
 obtain⟨a,b,c,d⟩:=e;cases a<;>cases b<;>cases c<;>cases d<;>decide+kernel
theorem DX(e:E4):(SG e).length<=100:=by
 obtain⟨a,b,c,d⟩:=e;cases a<;>cases b<;>cases c<;>cases d<;>decide+kernel
def qj(e:E4)(n:Nat):List Ky:=(af n).flatMap λi=>(SG e).map (upM i)
theorem rR(e:E4)(n:Nat):qj e (n+1)=qj e n++(SG e).map (upM n):=by
 unfold qj;rw[c9,List.flatMap_append];simp
theorem DC(e:E4)(n:Nat):(qj e n).Pairwise λa b=>a.code e<b.code e:=by
 unfold qj;rw[List.pairwise_flatMap];refine⟨λi _=>?_,List.pairwise_lt_range.imp λ{i j} k a f b g=>?_⟩
 ·rw[cR];refine List.Pairwise.imp_of_mem (λ{x y} c d h=>?_) (KD e);rw[lz (pQ c).1,lz (pQ d).1];lia
 ·obtain ⟨x,c,rfl⟩:=cf.mp f;obtain ⟨y,d,rfl⟩:=cf.mp g;rw [lz (pQ c).1,lz (pQ d).1];have h1:x.code e<4096:=by
   have:=jW (pQ c).2.1 e;unfold Ky.code;rw[(pQ c).1];lia
  lia
theorem pO(e:E4):∀n:Nat,(qj e n).length<=100*n
 |0=>nR1 _
 |n+1=>by
  rw[rR,lA1,lM1];have:=pO e n;have:=DX e;lia
def KP(hs:List D)(p:Rw):Prop:=∃d h t,p.2 = .tup [.int (d:Nat),h,t]/\d<4000/\h∈hs/\t∈qq
theorem KP.deed{hs:List D}{p:Rw}(h:KP hs p)(b:∀x∈hs,x∈ri):mx p.2:=by
 obtain⟨d,x,t,e,h1,h2,a⟩:=h;exact⟨d,x,t,e,h1,b x h2,a⟩
theorem GM(hn:n<=4000):∀k∈qj e n,k.Ok:=λk a=>by
 obtain⟨i,hi,a⟩:=de.mp a;obtain⟨x,b,rfl⟩:=cf.mp a;have:=aC.mp hi;have o:=(pQ b).2.1;exact⟨by show i<4000;lia,o.x,o.y,o.z,o.w⟩
inductive MJ (T:Sto)(e:E4)(hs:List D)(mo:Nat)(ks:List Ky)(n:Nat):Ev->Sto->Prop
 |mk (o:Ob) (L:List Rw) (G:Sto) (y5 y6 y7:Option D) (ho:fx o n) (h3:(L.map (·.1)).Sublist ks) (h4:∀p∈L,KP hs p):MJ T e hs mo ks n [some (.ref 0),some (eyD e),some (.tup hs),some (.int (mo:Nat)),some (.ref (T.length+1)),y5,y6,y7] (o::(T ++ .lst (L.map (fS e))::G))
theorem Jd{mo:Nat}{G:Sto}{hs:List D}{ks:List Ky}{k:Ky}{aq:Option D}(H:0<hs.length)(av:hs.length<=3)(P:0<mo)(R:mo<=3)(ho:fx o n)(hn:n<=2^45)(B:ks.length<=1000)(u:(L.map (·.1)).Sublist ks)(y:∀ p∈L,KP hs p):
  W (gH [Z (.ref 0),Z (eyD e),Z (.tup hs),Z (.int (mo:Nat)),Z (.ref (T.length+1)),Z (.int (i:Nat)),Z (k.sg e),aq] (o::(T ++ .lst (L.map (fS e))::G))) λp=>p.1 = .nx/\p.2.1[5]?=Z (Z (.int (i:Nat)))/\MJ T e hs mo (ks++[upM i k]) (n+4) p.2.1 p.2.2:=by
 have F:(L.map (fS e)).length<=1000:=by
  have:=u.length_le;rw[lM1]at this ⊢;lia
 unfold gH;refine d3 (λr S=>∃(o':Ob) (x:D) (c:Sto),KP hs (upM i k,x)/\fx o' (n+3)/\S=o'::(T ++ .lst (L.map (fS e))::c)/\r=[Z (.ref 0),Z (eyD e),Z (.tup hs),Z (.int (mo:Nat)),Z (.ref (T.length+1)),Z (.int (i:Nat)),Z (k.sg e),Z x]) ?_ ?_
 ·walk_at"w";refine fE ho (by lia) (by lia) (by lia) λd g a C=>?_;walk_at"w";refine fE a (by lia) (by lia) (by lia) λm Q v I=>?_;refine hU (i:=m) (x:=hs[m]'(by lia)) (gG1 _) ?_;have t:hs[m]'(by lia)∈hs:=bQ _;generalize hs[m]'(by lia)=hh at *
  walk_at"w";refine fE v (by lia) (by lia) (by lia) λb ao q E=>?_;refine j4 (i:=b) (xs:=[.non,.int 0,.int 1,.int 2,.int 3]) (x:=([.non,.int 0,.int 1,.int 2,.int 3]:List D)[b]'(by show b<5;lia)) ?_ (gG1 _) ?_
  ·first
    |(rw[gC1,eN];simp;done)
    |simp
  have s:([.non,.int 0,.int 1,.int 2,.int 3]:List D)[b]'(by show b<5;lia)∈qq:=bQ _;generalize ([.non,.int 0,.int 1,.int 2,.int 3]:List D)[b]'(by show b<5;lia)=tt at *
  refine⟨ao,_,G++[.lst [.non,.int 0,.int 1,.int 2,.int 3]],⟨d,hh,tt,O,by lia,t,s⟩,q.more (by lia),?_,O⟩;simp
 rintro r S ⟨o',x,c,N,w,rfl,rfl⟩;have j:∀{l:List Rw},(l.map (·.1)).Sublist ks->(l.map (·.1)).Sublist (ks++[upM i k]):=λh=>h.trans (List.sublist_append_left _ _);walk_at"w";refine fE w (by lia) (by lia) (by lia) λd g a C=>?_;walk_at"w";split
 ·refine ja ?_;walk_at"w";have z:(g::(T++Ob.lst (L.map (fS e))::c))[T.length+1]?=Z (.lst (L.map (fS e))):=by rw[gC1,dP];rfl
  refine⟨T.length+1,_,O,z,?_⟩;refine(k8 z).mpr ⟨dR (by lia),?_⟩;have A:D.tup [.tup [.int (i:Nat),k.sg e],x]=fS e (upM i k,x):=rfl;rw[A];have K:(g::(T++Ob.lst (L.map (fS e))::c)).set (T.length+1) (.lst (L.map (fS e)++[fS e (upM i k,x)]))=g::(T ++ .lst ((L++[(upM i k,x)]).map (fS e))::c):=by
   rw[cD,cZ _ _ (nR1 _),cF,cT,cc];rfl
  rw[K];refine⟨g,L++[(upM i k,x)],c,_,_,_,a.more (k:=n+4) (by lia),?_,λp f=>?_⟩
  ·rw[cc];exact u.append (List.Sublist.refl _)
  ·rcases aG.mp f with f|f
   ·exact y p f
   ·rw[cv]at f;subst f;exact N
 ·exact⟨g,L,c,_,_,_,a.more (k:=n+4) (by lia),j u,y⟩
theorem zw{hs:List D}(E:0<hs.length)(H:hs.length<=3)(hh:∀ x∈hs,x∈ri)(ho:fx o n)(hn:n<=2^40)(hT:T.all (Ob.und (T.length+1))=M)(q:∀L o',Inc e L->(∀p∈L,pR p)->(∀p∈L,KP hs p)->L.length<=4000->fx o' (n+2000)->Q (mcD e L,o'::T)):W (dI 3 fN [.ref 0,eyD e,.tup hs] (o::T)) Q:=by
 refine me O O hT ?_;unfold fN;refine iO ?_;unfold j0;refine d3 (λr S=>∃(u:Ob) (c:Nat),0<c/\c<=3/\fx u (n+1)/\S=u::(T ++ .lst (([]:List Rw).map (fS e))::[])/\r=[Z (.ref 0),Z (eyD e),Z (.tup hs),Z (.int (c:Nat)),Z (.ref (T.length+1)),Y,Y,Y]) ?_ ?_
 ·walk_at"w";refine fE ho (by lia) (by lia) (by lia) λd u s m=>?_;walk_at"w";refine⟨u,d+1,by lia,by lia,s,O,?_⟩
  first|rfl|simp[Int.add_comm]
 rintro r S ⟨u,c,R,m3,s,rfl,rfl⟩;refine d3 (MJ T e hs c (qj e c) (n+1+401*c)) ?_ ?_
 ·walk_at"w";refine⟨eL (by lia),?_⟩;rw[Qy];refine eK (λi r S=>i<=c/\MJ T e hs c (qj e i) (n+1+401*i) r S) (fT 0 c) 0 _ _ ⟨bi _,u,[],[],_,_,_,s,List.Sublist.refl _,λp z=>by cases z⟩ (λ_ _ _ _=>rfl) ?_ ?_
  ·rintro i d m r S ⟨hi,A,L,G,U,V,y7,g,v,y⟩;have w:=(R9 m).1;rw[eo]at w;rw[kT,gP1,cr w]at m;cases m;rw[bL]at *
   have hal:=pO e i;have wq:=DX e;walk_at"w";unfold iY;walk_at"w";refine Bd ?_;rw[hD];refine eK (λt r S=>t<=(SG e).length/\r[5]?=Z (Z (.int (i:Nat)))/\MJ T e hs c (qj e i++((SG e).take t).map (upM i)) (n+1+401*i+4*t) r S) _ 0 _ _ ⟨bi _,O,A,L,G,_,_,_,g,by simpa using v,y⟩ (λ_ _ _ _=>rfl) ?_ ?_
   ·rintro t d m r S ⟨ht,l,o3,L',G',aq,z6,X,B,av,au⟩;rw[gP1]at m;obtain⟨k,N,rfl⟩:=Sb m;have ao:=(R9 N).1;have F:(SG e).take (t+1)=(SG e).take t++[k]:=by rw[List.take_add_one,N];rfl
    rw[bL]at *
    rw[show([Z (.ref 0),Z (eyD e),Z (.tup hs),Z (.int (c:Nat)),Z (.ref (T.length+1)),aq,z6,X]:Ev)[5]?=Z aq from rfl]at l;cases l;walk_at"w";refine(Jd E H R m3 B (by lia) (by rw[lA1,lM1,aR];lia) av au).mono ?_;rintro⟨f,r2,S2⟩ ⟨I,K,j⟩;dsimp only at I K j ⊢;subst I;rw[F,cc,<- bE];exact⟨O,by lia,K,j⟩
   ·rintro r S ⟨ht,l,j⟩;rw[lM1,bL,bU,<- rR]at j;refine⟨O,by lia,?_⟩;obtain⟨o4,L4,P,a5,a6,a7,b1,b2,b3⟩:=j;exact⟨o4,L4,P,_,_,_,b1.more (by lia),b2,b3⟩
  ·rintro r S ⟨hi,j⟩;rw[eo,bL]at j;exact⟨O,j⟩
 rintro r S ⟨A,L,G,U,V,y7,g,v,y⟩;have ok:∀p∈L,pR p:=λp z=>⟨GM (n:=c) (by lia) p.1 (v.subset (cf.mpr ⟨p,z,O⟩)),(y p z).deed hh⟩;have C:Inc e L:=List.Pairwise.of_map (S:=λa b:Ky=>a.code e<b.code e) (·.1) (λa b h=>h) ((DC e c).sublist v);have hl:L.length<=300:=by
  have h1:=v.length_le;have h2:=pO e c;rw[lM1]at h1;lia
 walk_at"w";refine ed (xs:=L.map (fS e)) (by rw[gC1,dP];rfl) ?_;refine⟨mcD e L,A,_,O,xP ok,g.und,q L A C ok y (by lia) (g.more (by lia))⟩
theorem DO{m:FE}{lo hi:FO}{r:Ev}{S1 S2 S3:Sto}{xs:List D}{a b:Option Int}(hm:m r S=Z (.tup xs,S1))(c:lo r S1=Z (a,S2))(d:hi r S2=Z (b,S3))(q:Q (.tup (Mi.ma xs a b),S3)):W (kE m lo hi r S) Q:=by
 refine W.of ?_ q;unfold kE;rw[hm,oS1];dsimp only;rw[c,oS1];dsimp only;rw[d,oS1];simp only[sj,iD,oP1];rfl
theorem NR(xs:List D)(k:Nat):Mi.ma xs (Z (k:Int)) Y=xs.drop k:=by
 unfold Mi.ma;rw[HT.ud,HT.xu];by_cases h:k<=xs.length
 ·rw[Nat.min_eq_left h,ca (by simp)]
 ·rw[Nat.min_eq_right (by lia),List.drop_length,List.drop_of_length_le (by lia)];simp
inductive WL (T:Sto)(m n:Nat)(w:dJ)(rs:List Nat)(i:Nat):Ev->Sto->Prop
 |mk (o:Ob) (G:Sto) (sm:List Nat) (x3 x4 x6:Option D) (ho:fx o (n+3+2*i)) (h0:∀x∈sm,x<m) (hl:sm.length<=2+i) (hi:i<=2):WL T m n w rs i [some (.ref 0),some (webD w),some (.tup (nmD rs)),x3,x4,some (.ref (T.length+G.length+1)),x6] (o::(T++(G++[.lst (nmD sm)])))
theorem yO{w:dJ}(hw:w.length=m)(hm0:0<m)(hm:m<=8)(hrs:rs.length=m)(ho:fx o n)(hn:n<=2^40)(hT:T.all (Ob.und (T.length+1))=M)(q:∀(ws E:List Nat) o',(∀x∈E,x∈ws)->E.Pairwise (· <= ·)->ws.Pairwise (· < ·)->(∀x∈ws,x<m)->ws.length<=8->E.length<=2->fx o' (n+10)->Q (.tup [.tup (nmD ws),.tup (nmD E)],o'::T)):W (dI 3 fM [.ref 0,webD w,.tup (nmD rs)] (o::T)) Q:=by
 refine me O O hT ?_;unfold fM;refine iO ?_;unfold jY;refine d3 (λr S=>∃(o':Ob) (one:Nat),one<m/\fx o' (n+1)/\S=o'::T/\r=[Z (.ref 0),Z (webD w),Z (.tup (nmD rs)),Z (.int (one:Nat)),Y,Y,Y]) ?_ ?_
 ·wp_walk using kr,hw
  refine fE ho (by lia) (by lia) (by lia) λd B H P=>?_;walk_at"w";exact⟨B,d,by lia,H,O,O⟩
 rintro r S ⟨B,one,R,H,rfl,rfl⟩;refine d3 (λr S=>∃(j:List Nat),(∀x∈j,x<m)/\j.length<=8/\S=B::(T++[.lst (nmD j)])/\r=[Z (.ref 0),Z (webD w),Z (.tup (nmD rs)),Z (.int (one:Nat)),Z (.ref (T.length+1)),Y,Y]) ?_ ?_
 ·wp_walk using kr,hw
  refine⟨eL (by lia),?_⟩;rw[Qy,kT];refine iI (f:=λi:Nat=>D.int i) (λx=>(!((x:Int) == (one:Int)))&&((rs.getD x 0:Nat):Int) == ((rs.getD one 0:Nat):Int)) (λr:Nat=>D.int r) (λr=>∃x,r=[x,Z (.int (one:Nat)),Z (.tup (nmD rs))]) O (af m) _ ⟨_,O⟩ ?_ λr' _=>?_
  ·rintro i hi r ⟨x,rfl⟩;have hi:=aC.mp hi;walk_at"w";cases h: !((i:Int) == (one:Int))with
   |false=>
    rw[aj (by decide)];exact⟨O,⟨_,O⟩,λz=>trivial⟩
   |true=>
    rw[ak O];refine vy (by lia) ?_;refine vy (by lia) ?_;walk_at"w";exact⟨O,⟨_,O⟩,λ_=>trivial⟩
  ·generalize hk:(λx:Nat=>(!((x:Int) == (one:Int)))&&((rs.getD x 0:Nat):Int) == ((rs.getD one 0:Nat):Int))=kf;have e:((af m).filter kf).map (λr:Nat=>D.int r)=nmD ((af m).filter kf):=rfl;rw[e];have hl:=cX kf (af m);rw[cB]at hl;refine⟨dR (by rw[ej];lia),?_⟩;walk_at"w";exact⟨_,λx t=>aC.mp (aB.mp t).1,by lia,O,trivial⟩
 rintro r S ⟨j,htw,htl,rfl,rfl⟩;refine d3 (WL T m n w rs 0) ?_ ?_
 ·walk_at"w";have g1:(B::(T++[Ob.lst (nmD j),.lst [.int (one:Nat)],.lst []]))[T.length+1]?=Z (.lst (nmD j)):=by rw[gC1,dP];rfl
  have g3:(B::(T++[Ob.lst (nmD j),.lst [.int (one:Nat)],.lst []]))[T.length+3]?=Z (.lst []):=by rw[gC1,eN];rfl
  have en:=yf g1 g3;refine W.of en ?_;dsimp only;have U:∀(F:Ob) (l:List Nat),l.length<=1->(∀x∈l,x<m)->fx F (n+2)->fits (nmD l).length=M/\W (fX (.ref (T.length+2)) (.ref (F::(T++[Ob.lst (nmD j),.lst [.int (one:Nat)],.lst []])).length) ((F::(T++[Ob.lst (nmD j),.lst [.int (one:Nat)],.lst []]))++[Ob.lst (nmD l)])) λx=>WL T m n w rs 0 [Z (.ref 0),Z (webD w),Z (.tup (nmD rs)),Z (.int (one:Nat)),Z (.ref (T.length+1)),Z x.1,Y] x.2:=by
   intro F l N y L;refine⟨dR (by rw[ej];lia),?_⟩;refine(DU (xs:=nmD [one]) (ys:=nmD l) ?_ (by rw[dP];rfl)).mpr ⟨dR (by rw[ej,ej];simp;lia),?_⟩
   ·rw[bj,gC1,bE,eN];rfl
   have e1:nmD [one]++nmD l=nmD (one::l):=rfl;have e2:F::(T++[Ob.lst (nmD j),.lst [.int (one:Nat)],.lst []])++[Ob.lst (nmD l)]++[Ob.lst (nmD [one]++nmD l)]=F::(T++([Ob.lst (nmD j),.lst [.int (one:Nat)],.lst [],.lst (nmD l)]++[.lst (nmD (one::l))])):=by rw[e1];simp
   have e3:(F::(T++[Ob.lst (nmD j),.lst [.int (one:Nat)],.lst []])++[Ob.lst (nmD l)]).length=T.length+[Ob.lst (nmD j),.lst [.int (one:Nat)],.lst [],.lst (nmD l)].length+1:=by simp
   rw[e2,e3];refine⟨F,_,one::l,_,_,_,L.more (by lia),λx t=>?_,by rw[lC1];lia,by lia⟩;rcases aF.mp t with rfl|t
   ·exact R
   ·exact y x t
  generalize hV:(T++[Ob.lst (nmD j),.lst [.int (one:Nat)],.lst []])=V at *
  cases j with
  |nil=>
   rw[dV];show yz 0=M/\_;refine⟨eL (n:=0) (by lia),?_⟩;show W (fc _ _ _ _ [] _ (B::V)) _;rw[fc];dsimp only;rw[ak (show oR (B::V) []=M from rfl),dV];exact U B [] (by simp) (λx t=>by cases t) (H.more (by lia))
  |cons wq j=>
   rw[dV];show yz 1=M/\_;refine⟨eL (n:=1) (by lia),?_⟩;show W (fc _ _ _ _ (fT 0 1) _ (B::V)) _;refine iF (λi X r S=>∃(o':Ob) (l:List Nat) (x:Option D),l.length<=i/\i<=1/\(∀x∈l,x<m)/\fx o' (n+1+i)/\X=nmD l/\S=o'::V/\r=[x,Z (.ref (T.length+1)),Z (.ref 0)]) (fT 0 1) 0 [] _ _ ⟨B,[],_,nR1 _,by lia,λx t=>(by cases t),H,O,O,O⟩ (λ_ _ _ _ _=>rfl) ?_ ?_
   ·rintro i d P X r S ⟨o',l,x,N,hi1,y,aq,rfl,rfl,rfl⟩;have K:=(R9 P).1;rw[eo]at K;rw[bL]at *
    have gt:∀v:Ob,(v::V)[T.length+1]?=Z (.lst (nmD (wq::j))):=λv=>by rw[<- g1];rfl
    walk_at"w";refine ed (gt o') ?_;refine fE aq (by lia) (by rw[ej,lC1];lia) (by rw[ej];lia) λd o3 I P=>?_;rw[ej]at P;refine j4 (i:=d) (xs:=nmD (wq::j)) (x:=.int ((wq::j)[d]'(by lia):Nat)) (gt o3) (by rw[nmD,gP1,gG1 (by lia)];rfl) ?_;refine⟨o3,l++[(wq::j)[d]'(by lia)],_,by rw[lA1];simp;lia,by lia,λx t=>?_,I.more (by lia),by rw[nV],O,O⟩;rcases aG.mp t with h|h
    ·exact y x h
    ·rw[cv]at h;subst h;exact htw _ (bQ _)
   ·rintro xs r S ⟨o',l,x,N,hi1,y,aq,e,rfl,rfl⟩;rw[cP]at e;subst e;rw[eo]at *
    exact U o' l (by lia) y (aq.more (by lia))
 rintro r S ⟨F,G,g,x3,x4,x6,L,h0,hl,_⟩;refine d3 (λr S=>∃i,WL T m n w rs i r S) ?_ ?_
 ·walk_at"w";refine fE L (by lia) (by lia) (by lia) λd o3 I P=>?_;refine⟨eL (by lia),?_⟩;rw[Qy];have hd2:d<=2:=by lia
  refine eK (λi r S=>i<=d /\ ∃(o:Ob) (g:List Nat) (x6:Option D),fx o (n+4+i)/\(∀x∈g,x<m)/\g.length<=2+i/\S=o::(T++(G++[.lst (nmD g)]))/\r=[Z (.ref 0),Z (webD w),Z (.tup (nmD rs)),x3,x4,Z (.ref (T.length+G.length+1)),x6]) (fT 0 d) 0 _ _ ⟨bi _,o3,g,_,I.more (by lia),h0,hl,O,O⟩ (λ_ _ _ _=>rfl) ?_ ?_
  ·rintro i dd hdd r S ⟨hi,A,s,y6,u,h4,hl4,rfl,rfl⟩;have K:=(R9 hdd).1;rw[eo]at K;rw[bL]at *
   walk_at"w";unfold iX;unfold fG;rw[dN];refine ja ?_;walk_at"w";have ao:∀v:Ob,(v::(T++(G++[Ob.lst (nmD s)])))[T.length+G.length+1]?=Z (.lst (nmD s)):=λv=>by rw[gC1,eN,dP];rfl
   refine⟨T.length+G.length+1,nmD s,O,ao A,?_⟩
   wp_walk using kr,hw
   refine fE u (by lia) (by lia) (by lia) λc au ho5 hc=>?_;refine(k8 (ao au)).mpr ⟨dR (by rw[ej];lia),?_⟩;have e2:(au::(T++(G++[Ob.lst (nmD s)]))).set (T.length+G.length+1) (.lst (nmD s++[.int (c:Nat)]))=au::(T++(G++[.lst (nmD (s++[c]))])):=by
    rw[cD,cZ _ _ (by lia),show T.length+G.length-T.length=G.length by lia,cZ _ _ (nR1 _),cF,cT,nV]
   rw[e2];refine⟨by lia,au,s++[c],_,ho5.more (by lia),λx t=>?_,by rw[lA1];simp;lia,O,O⟩;rcases aG.mp t with h|h
   ·exact h4 x h
   ·rw[cv]at h;subst h;lia
  ·rintro r S ⟨hi,A,s,y6,u,h4,hl4,rfl,rfl⟩;rw[eo,bL]at *
   exact⟨O,2,A,G,s,_,_,_,u.more (by lia),h4,by lia,by lia⟩
 rintro r S ⟨i,A,G,g,x3,x4,x6,u,h0,hl,hi⟩;have ao:(A::(T++(G++[Ob.lst (nmD g)])))[T.length+G.length+1]?=Z (.lst (nmD g)):=by rw[gC1,eN,dP];rfl
 have hlen:(A::(T++(G++[Ob.lst (nmD g)]))).length=T.length+G.length+2:=by simp;lia
 have eV:A::(T++(G++[Ob.lst (nmD g)]))=A::(T++(G++[Ob.lst (nmD g)])):=rfl;generalize hV:A::(T++(G++[Ob.lst (nmD g)]))=V at ao;have sl:∀av,av[T.length+G.length+1]?=Z (.lst (nmD g))->W (kE (mV 5) i0 (js (mC (D.int 2))) [Z (.ref 0),Z (webD w),Z (.tup (nmD rs)),x3,x4,Z (.ref (T.length+G.length+1)),x6] av) λp=>p=(.ref av.length,av++[.lst (nmD (g.take 2))]):=λav h=>Ms (n:=T.length+G.length+1) (k:=2) O O h (by rw[nmD,nmD,List.map_take]);walk_at"w";refine rS (xs:=g) (m:=m) (f:=λr=>g.contains r) ao (λr=>⟨λh=>⟨h0 r h,by rw[cJ];exact h⟩,λh=>by rw[<- cJ];exact h.2⟩) (by lia) ?_;walk_at"w";refine ed (by rw[dP];rfl) ?_;generalize C:(af m).filter (λr=>g.contains r)=ws at *
 have gs':(V++[Ob.lst (nmD ws)])[T.length+G.length+1]?=Z (.lst (nmD g)):=by rw[gL1 (R9 ao).1];exact ao
 refine(sl _ gs').mono ?_;rintro p rfl;dsimp only;refine GQ (xs:=g.take 2) (by rw[dP];rfl) (by rw[aR];lia) ?_;walk_at"w";refine ed (xs:=nmD (kJ (g.take 2))) (by first|(rw[dP];rfl)|simp) ?_;have hp:=vV (g.take 2);have hl2:(kJ (g.take 2)).length<=2:=by rw[hp.length_eq,aR];lia
 have hwl:ws.length<=8:=by
  have:=cX (λr=>g.contains r) (af m);rw[C,cB]at this;lia
 refine⟨.tup [.tup (nmD ws),.tup (nmD (kJ (g.take 2)))],A,G++[Ob.lst (nmD g),.lst (nmD ws),.lst (nmD (g.take 2)),.lst (nmD (kJ (g.take 2)))],?_,?_,u.und,q ws (kJ (g.take 2)) A (λx t=>?_) ?_ ?_ (λx t=>?_) hwl hl2 (u.more (by lia))⟩
 ·rw[<- hV];simp
 ·simp[D.und,D.unds,fy]
 ·have h1:=cC (hp.mem_iff.mp t);rw[<- C];exact aB.mpr ⟨aC.mpr (h0 x h1),by rw[cJ];exact h1⟩
 ·unfold kJ;rw[cR];exact(jC _).imp λ{a b} h=>by lia
 ·rw[<- C];exact List.pairwise_lt_range.filter _
 ·rw[<- C]at t;exact aC.mp (aB.mp t).1
theorem yr{S:Sto}{n p:Nat}:∀ws:List Nat,qf (i8 S (n+1)) (.int (p:Nat)) (nmD ws)=Z (ws.map λa=>a == p)
 |[]=>rfl
 |a::ws=>by
  have b:i8 S (n+1) (.int (a:Nat)) (.int (p:Nat))=Z ((a:Int) == (p:Int)):=rfl;have c:((a:Int) == (p:Int))=(a == p):=by rw[bO,RW,RW];lia
  show qf (i8 S (n+1)) _ (.int (a:Nat)::nmD ws)=_;rw[qf,b,oS1,yr ws,c];rfl
theorem Hl{p:Nat}:∀{ws:List Nat},p∈ws->(ws.map λa=>a == p).findIdx? id=Z (ws.idxOf p)
 |a::ws,h=>by
  rw[mP1,List.findIdx?_cons,List.idxOf_cons];by_cases e:a=p
  ·subst e;simp
  ·have b:(a == p)=J:=by simpa using e
   rcases aF.mp h with h|h
   ·exact absurd h.symm e
   ·rw[b,Hl h];simp
theorem tN{p:Nat}{m:FE}{a:FA}{r:Ev}{S1 S2:Sto}(hm:m r S=Z (.tup (nmD ws),S1))(ha:a r S1=Z ([.int (p:Nat)],S2))(hp:p∈ws)(q:Q (.int (ws.idxOf p:Nat),S2)):W (p8 (b2 jS) m a r S) Q:=by
 refine W.of ?_ q;unfold p8;rw[hm,oS1];dsimp only;rw[ha,oS1];show jS (.tup (nmD ws)) (.int (p:Nat)) S2=_;unfold jS;dsimp only;rw[show d8=59+1 from rfl,yr,oS1,Hl hp];rfl
theorem pi{p:Nat}(hp:p∈ws):ws[ws.idxOf p]?=Z p:=by
 have h:=df hp;rw[gG1 h,dg]
theorem JZ{b:Nat}(hw:ws.Pairwise (· < ·))(ha:a∈ws)(hb:b∈ws)(h:a<b):ws.idxOf a<ws.idxOf b:=by
 have e:=df ha;have c:=df hb;refine Nat.lt_of_not_le λz=>?_;have d:ws[ws.idxOf a]=a:=dg e;have eb:ws[ws.idxOf b]=b:=dg c;rcases Nat.lt_or_eq_of_le z with z|z
 ·have:=b7.mp hw _ _ c e z;rw[d,eb]at this;lia
 ·have:a=b:=by rw[<- d,<- eb];simp[z]
  lia
theorem A6{w:dJ}{ws:List Wk}(h:Lve L)(hc:cs=(af m).filter λr=>cs.contains r):∃a,stepL m w e L (ws,cs)=(a,cs):=⟨_,Prod.ext O (Dl h hc)⟩
theorem Jk{w:dJ}{ws:List Wk}{X:Sto}{y z:Option D}{l n r s:Option D}{Q:Fl×Ev×Sto->Prop}{c:List Nat}(hw:mq m w ws cs)(h:MH rs ws i j)(f:Inc e L)(ok:∀ p∈L,pR p)(G:L.length<=4000)(q:∀k g,Q (.nx,[l,some (webD w),some (eF c cs),n,r,some (mcD e L),some (D1 (stepL m w e L (ws,cs))),some (.int (i:Nat)),some (.int (j:Nat)),s,k,g],o::X)):
  W (ip [l,Z (webD w),Z (eF c cs),n,r,Z (mcD e L),Z (D1 (ws,cs)),Z (.int (i:Nat)),Z (.int (j:Nat)),s,y,z] (o::X)) Q:=by
 obtain⟨u,v,d,I,A,ao,h2⟩:=h.ex;have H:=GP (a:=(ws,cs)) h;have F:∀S,dL (D1 (ws,cs)) (.int 0) S=Z (.tup (fv ws),S):=λS=>rfl;have B:∀S,dL (D1 (ws,cs)) (.int 1) S=Z (.tup (nmD cs),S):=λS=>rfl;unfold ip
 wp_walk using F
 refine hU (x:=gz u) (by rw[fv,gP1,d];rfl) ?_;refine hU (x:=gz v) (by rw[fv,gP1,I];rfl) ?_;refine Ga (a:=(ws,cs)) (λz=>?_) (aD hw.few (by decide)) ?_
 ·dsimp only at z;rw[z]at d;cases d
 rw[H]
 wp_walk using sU
 rw[aj (λz=>A (by have:=RW.mp z;lia))];refine DO (xs:=nmD [u.1,u.2.1,u.2.2]) (a:=Z (1:Nat)) (b:=Y) O O O ?_;refine DO (xs:=nmD [v.1,v.2.1,v.2.2]) (a:=Z (1:Nat)) (b:=Y) O O O ?_;have t:∀x y z:Nat,Mi.ma (nmD [x,y,z]) (Z ((1:Nat):Int)) Y=nmD [y,z]:=λx y z=>by rw[NR];rfl
 have C:∀S,ww (.tup (nmD [u.2.1,u.2.2])) (.tup (nmD [v.2.1,v.2.2])) S=Z (.bl J,S):=λS=>by rw[B8,h2,mz O];rfl
 have E:∀S,ww (.tup (nmD cs)) (.tup (nmD cs)) S=Z (.bl J,S):=λS=>by rw[B8,mz O];rfl
 wp_walk using t,C,B,HW,E
 refine Kr hw f ok G ?_;exact q _ _
theorem EJ{b:Nat}{w:dJ}(C:Au m w rs)(hm0:0<m)(hm:m<=8)(hk:mw m rs cs)(hc:cs=(af m).filter λr=>cs.contains r)(st:DW m ws cs)(ha:a∈ws)(hb:b∈ws)(l:a<b)(hr:rs.getD a 0=rs.getD b 0)(ho:fx o n)(hn:n<=2^39)(V:T.all (Ob.und (T.length+1))=M)(q:∀o',fx o' (n+3000)->Q (.bl M,o'::T)):W (dI 4 fz [.ref 0,webD w,eF ws cs,.tup (nmD [a,b])] (o::T)) Q:=by
 have hl2:2<=ws.length:=by
  have la:=df ha;have lb:=df hb;refine a0 λz=>?_;have ea:ws[ws.idxOf a]=a:=dg la;have eb:ws[ws.idxOf b]=b:=dg lb;have:ws.idxOf a=ws.idxOf b:=by lia
  have:a=b:=by rw[<- ea,<- eb];simp[this]
  lia
 have K:ws.idxOf a≠ws.idxOf b:=λz=>by
  have v:=pi ha;rw[z,pi hb]at v;cases v;exact aA _ l
 refine me O O V ?_;unfold fz;refine iO ?_;unfold mh;generalize E:T++[Ob.lst [.int 4,.int 3]]=X;have u:X.all (Ob.und (X.length+1))=M:=by rw[<- E];exact Mr V O
 refine d3 (λr S=>∃c:List D,c.Sublist [.str "came",.str "chalk",.str "doors",.str "others"]/\(2<ws.length->c=[.str "came",.str "chalk",.str "doors"])/\S=o::X/\r=[Z (.ref 0),Z (webD w),Z (eF ws cs),Z (.tup (nmD [a,b])),Z (.tup c),Y,Y,Y,Y,Y,Y,Y]) ?_ ?_
 ·generalize hR:(hB 12 [.ref 0,webD w,eF ws cs,.tup (nmD [a,b])]:Ev)=R;have A:∃ k:Nat,(k=4\/k=3)/\(2<ws.length->k=3)/\W (m2 (b2 dL) (g6 (dG (mC (.int 4)) (dG (mC (.int 3)) dH))) (mN (b1 pk) (dG (m2 (b2 (jm fun i j=>decide (j<i))) (mN (b1 eB) (dG (m2 (b2 dL) (mV 2) (mC (.int 0))) dH)) (mC (.int 2))) dH)) R (o::T)) fun p=>p=(.int (k:Nat),o::X):=by
   rw[<- hR,<- E];by_cases h:2<ws.length
   ·refine⟨3,.inr O,λ_=>rfl,?_⟩
    wp_walk using A7,ej
    rw[ah (show(2:Int)<(ws.length:Nat) by lia)];exact j4 (i:=1) (xs:=[.int 4,.int 3]) (by rw[gC1,dP];rfl) O O
   ·refine⟨4,.inl O,λz=>absurd z h,?_⟩
    wp_walk using A7,ej
    rw[ai (show¬ (2:Int)<(ws.length:Nat) by lia)];exact j4 (i:=0) (xs:=[.int 4,.int 3]) (by rw[gC1,dP];rfl) O O
  obtain⟨k,k1,k2,_,e,rfl⟩:=A;unfold dS;rw[dN];refine DO (S1:=o::T) (S2:=o::T) (S3:=o::X) (xs:=[.str "came",.str "chalk",.str "doors",.str "others"]) (a:=Y) (b:=Z (k:Int)) O O ?_ ?_
  ·unfold js;rw[e];rfl
  rw[Mg,<- hR];walk_at"w";refine⟨_,aU k _,λz=>?_,O⟩;rw[k2 z];rfl
 rintro r S ⟨c,I,H,rfl,rfl⟩;walk_at"w";refine J7 I ho (by lia) u λe o1 he N=>?_;dsimp only;refine zw (hs:=[.str "leave"]) (by decide) (by decide) (λx wq=>by rw[cv]at wq;subst wq;exact mS1) N (by lia) u λL ao G ok hh hLl s=>?_;dsimp only;have lv:Lve L:=λp hp=>by
  obtain⟨d,h,t,v,_,au,_⟩:=hh p hp;rw[cv]at au;rw[v,au];rfl
 have aq:e.2.2.2=J\/ws.length=2:=by
  by_cases z:2<ws.length
  ·exact .inl (he (H z))
  ·exact .inr (by lia)
 refine GH (aD st.few (by decide)) ?_;dsimp only;refine tN (ws:=ws) (p:=a) O O ha ?_;dsimp only;refine tN (ws:=ws) (p:=b) O O hb ?_;dsimp only;refine⟨eL (n:=40) (by lia),?_⟩;rw[show(Int.toNat 40)=40 from rfl];refine eK (λ_ r S=>∃(ks:List Wk) (y g f:Option D),mq m w ks cs/\ks.length=ws.length/\MH rs ks (ws.idxOf a) (ws.idxOf b)/\S=ao::X/\r=[Z (.ref 0),Z (webD w),Z (eF ws cs),Z (.tup (nmD [a,b])),Z (.tup c),Z (mcD e L),Z (D1 (ks,cs)),Z (.int (ws.idxOf a:Nat)),Z (.int (ws.idxOf b:Nat)),y,g,f]) (fT 0 40) 0 _ _ ⟨(qi ws cs).1,_,_,_,GJ C.web.ok hm st,by show(ws.map _).length=_;rw[lM1],⟨(a,0,0),(b,0,0),?_,?_,nN1 l,hr,O⟩,O,O⟩ (λ_ _ _ _=>rfl) ?_ ?_
 ·show(ws.map _)[_]?=_;rw[gP1,pi ha];rfl
 ·show(ws.map _)[_]?=_;rw[gP1,pi hb];rfl
 ·rintro i d hd r S ⟨ks,y,g,f,h1,h2,B,rfl,rfl⟩;walk_at"w";refine Jk h1 B G ok (by lia) λy10 y11=>?_;obtain⟨F,e'⟩:=A6 (m:=m) (w:=w) (ws:=ks) (e:=e) lv hc;have U:=h1.stepL (e:=e) (L:=L) (a:=(ks,cs)) ok;have P:=DE (e:=e) (L:=L) C h1 hk (aq.imp id λz=>h2.trans z) K B;have av:(stepL m w e L (ks,cs)).1.length=ks.length:=by show(ks.map _).length=_;rw[lM1]
  rw[e']at U P av ⊢;exact⟨O,F,_,_,_,U,av.trans h2,P,O,O⟩
 ·rintro r S ⟨ks,y,g,f,h1,h2,B,rfl,rfl⟩;walk_at"w";exact⟨_,ao,[.lst [.int 4,.int 3]],by rw[E],O,s.und,q ao (s.more (by lia))⟩
def abv(m:Nat)(rs ks:List Nat):List Nat:=(af m).filter λr=>ks.contains (rs.getD r 0)
theorem wP(h:r<m):(abv m rs ks).contains r=ks.contains (rs.getD r 0):=by
 rw[bO,cJ];unfold abv;rw[aB];exact⟨λz=>z.2,λz=>⟨aC.mpr h,z⟩⟩
theorem DH:mw m rs (abv m rs ks):=λi j hi a e=>by rw[wP hi,wP a,e]
theorem DF:abv m rs ks=(af m).filter λr=>(abv m rs ks).contains r:=by
 conv=>lhs;unfold abv
 exact List.filter_congr λr a=>(wP (aC.mp a)).symm
theorem DG(hm:m<=8):(abv m rs ks).length<=8 /\ ∀r∈abv m rs ks,r<m:=by
 refine⟨?_,λr a=>aC.mp (aB.mp a).1⟩;have:=cX (λr=>ks.contains (rs.getD r 0)) (af m);rw[cB]at this;exact aD this hm
theorem Bv{b:Nat}{w:dJ}{r:Ev}{Q:Bool×Sto->Prop}(C:Au m w rs)(h:0<m)(hm:m<=8)(hk:mw m rs cs)(hc:cs=(af m).filter λr=>cs.contains r)(st:DW m ws cs)(ha:a∈ws)(hb:b∈ws)(k:a<b)(hr:rs.getD a 0=rs.getD b 0)(ho:fx o n)(hn:n<=2^38)(s:T.all (Ob.und (T.length+1))=M)(u:uS 1 [2,4,8,7] r=[Y,Z (.ref 0),Z (webD w),Z (eF ws cs),Z (.tup (nmD [a,b]))])(q:∀o' xs,fx o' (n+9000)->(∀x∈xs,x=D.bl M)->Q (J,o'::(T++[.lst xs]))):W (nG (vG (mN (b1 qc) (dG (ez 1 [2,4,8,7] (nK (dG (mC (.int 3)) dH)) (gN 0) eY (eg (mN (dI 4 fz) (dG (mV 1) (dG (mV 2) (dG (mV 3) (dG (mV 4) dH))))))) dH))) r (o::T)) Q:=by
 simp only[nG,vG,mN,dG,dH,dN,dV,b1,mr,DS,mC,KL,oS1];rw[u];refine⟨eL (n:=3) (by lia),?_⟩;rw[show(Int.toNat 3)=3 from rfl];refine iF (λi f r S=>∃(o':Ob) (x:Option D),i<=3/\f=aP i (D.bl M)/\fx o' (n+3000*i)/\S=o'::T/\r=[x,Z (.ref 0),Z (webD w),Z (eF ws cs),Z (.tup (nmD [a,b]))]) (fT 0 3) 0 [] _ _ ⟨o,_,by lia,O,ho,O,O⟩ (λ_ _ _ _ _=>rfl) ?_ ?_
 ·rintro i d p f r S ⟨o',x,hi,rfl,c,rfl,rfl⟩;have g:=(R9 p).1;rw[eo]at g;rw[bL]at *
  walk_at"w";refine EJ C h hm hk hc st ha hb k hr c (by lia) s λl j=>?_;exact⟨l,_,by lia,by rw[List.replicate_succ'],j.more (by lia),O,O⟩
 ·rintro xs r S ⟨o',x,_,e,c,rfl,rfl⟩;rw[cP]at e;subst e;rw[eo,bL]at *
  refine⟨dR (by rw[lR1];lia),?_⟩;refine W.of (x:=(.bl M,o'::(T++[.lst (aP 3 (.bl M))]))) ?_ ?_
  ·unfold qc;rw[bj,fR (xs:=aP 3 (D.bl M)) (by rw[lC1,gC1,dP];rfl)];rfl
  ·walk_at"w";exact q o' _ (c.more (by lia)) λx t=>(bC.mp t).2
theorem xf:∀{xs:List D},(∀x∈xs,x=D.bl M)->D.unds 0 xs=M
 |[],_=>rfl
 |x::xs,h=>by
  rw[D.unds,h x mS1,xf λy a=>h y (mC1 _ a)];rfl
theorem CL{t:FT}{a b:FS}{r:Ev}{S':Sto}{c:Bool}{Q:Fl×Ev×Sto->Prop}(h:W (t r S) λp=>p=(c,S'))(q:W ((if c=M then a else b) r S') Q):W (ft t a b r S) Q:=by
 unfold ft;rw[dN];refine h.mono ?_;rintro p rfl;dsimp only;cases c
 ·rw[aj (by decide)]at q ⊢;exact q
 ·rw[ak O]at q ⊢;exact q
theorem II{f:Ob}{b:Nat}{w:dJ}{h i g F o:Option D}{Q:Fl×Ev×Sto->Prop}(C:Au m w rs)(e:0<m)(hm:m<=8)(hk:mw m rs cs)(hc:cs=(List.range m).filter fun r=>cs.contains r)(st:DW m ws cs)(L:ws.Pairwise (· < ·))(ha:a∈ws)(hb:b∈ws)(l:a<b)(hr:rs.getD a 0=rs.getD b 0)(u:fx f (n+318))(hn:n<=2^30)(y:T.all (Ob.und (T.length+1))=true)(q:∀o' G N z,fx o' (n+10000)->G.all (Ob.und 0)=true->Q (.nx,[h,i,some (.ref 0),g,some (webD w),some (.tup (nmD rs)),some (.tup (nmD ws)),some (.tup (nmD [a,b])),some (eF ws cs),N,z],o'::(T++G))):
  W ((dQ (dS (eG (dG (mC (D.str "alike")) (dG (p8 (b2 jS) (mV 6) (dG (m2 (b2 dL) (mV 7) (mC (D.int 0))) dH)) (dG (p8 (b2 jS) (mV 6) (dG (m2 (b2 dL) (mV 7) (mC (D.int 1))) dH)) (dG (mV 5) dH))))) (gN 9)) (dQ (dS (mN (dI 3 kn) (dG (mV 4) (dG (mV 8) (dG (mC (D.bl M)) dH)))) (gN 10)) (dQ (ft (mB (m2 (b2 ia) (mN (dI 4 d2) (dG (mV 4) (dG (mV 8) (dG (mC (D.bl M)) (dG (mV 9) dH))))) (mC (D.bl M)))) (eh (mC (D.bl J))) kW) (dQ (ft (mB (m2 (b2 ia) (mN (dI 4 d2) (dG (mV 4) (dG (mV 8) (dG (mC (D.bl J)) (dG (mV 9) dH))))) (mC (D.bl J)))) (eh (mC (D.bl J))) kW) (dQ (ft (Cq (mB (m2 (b2 wx) (mV 10) (mC D.non))) (mB (m2 (b2 ia) (mN (dI 4 d2) (dG (mV 4) (dG (mV 8) (dG (mC (D.bl M)) (dG (mV 10) dH))))) (mC (D.bl M))))) (eh (mC (D.bl J))) kW) (ft (nG (vG (mN (b1 qc) (dG (ez 1 [2,4,8,7] (nK (dG (mC (D.int 3)) dH)) (gN 0) eY (eg (mN (dI 4 fz) (dG (mV 1) (dG (mV 2) (dG (mV 3) (dG (mV 4) dH))))))) dH)))) (eh (mC (D.bl J))) kW)))))) [h,i,Z (.ref 0),g,Z (webD w),Z (.tup (nmD rs)),Z (.tup (nmD ws)),Z (.tup (nmD [a,b])),Z (eF ws cs),F,o] (f::T)) Q:=by
 have k:=st.rs;have R:=st.few;have V:∀S,dL (.tup (nmD [a,b])) (.int 0) S=Z (.int (a:Nat),S):=λS=>rfl;have U:∀S,dL (.tup (nmD [a,b])) (.int 1) S=Z (.int (b:Nat),S):=λS=>rfl;have hi:=JZ L ha hb l;have v:=df hb;have B:∀c∈ws,ws.getD (ws.idxOf c) 0=c:=λc hc=>by rw[bH,pi hc];rfl
 have j:rs.getD (ws.getD (ws.idxOf a) 0) 0=rs.getD (ws.getD (ws.idxOf b) 0) 0:=by rw[B a ha,B b hb,hr]
 refine d3 (λr S=>S=f::T/\r=[h,i,Z (.ref 0),g,Z (webD w),Z (.tup (nmD rs)),Z (.tup (nmD ws)),Z (.tup (nmD [a,b])),Z (eF ws cs),Z (alD (ws.idxOf a) (ws.idxOf b) rs),o]) ?_ ?_
 ·walk_at"w";refine tN (ws:=ws) (p:=a) O O ha ?_;walk_at"w";refine tN (ws:=ws) (p:=b) O O hb ?_;walk_at"w";exact O
 rintro r S ⟨rfl,rfl⟩;refine d3 (λr S=>∃d,Nv m w ws cs M d/\S=f::T/\r=[h,i,Z (.ref 0),g,Z (webD w),Z (.tup (nmD rs)),Z (.tup (nmD ws)),Z (.tup (nmD [a,b])),Z (eF ws cs),Z (alD (ws.idxOf a) (ws.idxOf b) rs),Z d]) ?_ ?_
 ·walk_at"w";refine Fn C.web.toWebJ e hm k (by lia) λd s=>?_;exact⟨d,s,O,O⟩
 rintro r S ⟨d,s,rfl,rfl⟩;have K:Fit m w (sgL m ws cs J) (upI rs):=yn C hk;have sh:∀(A:Bool) (Q:D×Sto->Prop),Q (.bl A,f::T)->W (dI 4 d2 [webD w,eF ws cs,.bl A,alD (ws.idxOf a) (ws.idxOf b) rs] (f::T)) Q:=λA Q q=>t5 C.web.toWebJ e hm C.len K k hi v j q;have x:∀(Q:D×Sto->Prop),Q (.bl M,f::T)->W (dI 4 d2 [webD w,eF ws cs,.bl M,d] (f::T)) Q:=λQ q=>by
  rcases B3 C hk k e hi v j s with⟨aq,rfl,rfl,hn⟩|⟨p,H,rfl,b1,b2,b3⟩
  ·exact Bg C.web.toWebJ e hm hn q
  ·exact t5 C.web.toWebJ e hm md (vi C.web.toWebJ e) k b1 b2 b3 q
 have I:∀S,wx d .non S=Z (.bl J,S):=λS=>by
  rcases B3 C hk k e hi v j s with⟨aq,rfl,rfl,hn⟩|⟨p,H,rfl,b1,b2,b3⟩<;>rfl
 have E:∀S,ia (.bl M) (.bl M) S=Z (.bl J,S):=λS=>rfl;have ao:∀S,ia (.bl J) (.bl J) S=Z (.bl J,S):=λS=>rfl;refine d3 (λr S=>S=f::T/\r=[h,i,Z (.ref 0),g,Z (webD w),Z (.tup (nmD rs)),Z (.tup (nmD ws)),Z (.tup (nmD [a,b])),Z (eF ws cs),Z (alD (ws.idxOf a) (ws.idxOf b) rs),Z d]) ?_ ?_
 ·refine CL (c:=J) (S':=f::T) ?_ ?_
  ·walk_at"w";refine sh M _ ?_
   wp_walk using E
  ·rw[aj (by decide)];walk_at"w"
 rintro r S ⟨rfl,rfl⟩;refine d3 (λr S=>S=f::T/\r=[h,i,Z (.ref 0),g,Z (webD w),Z (.tup (nmD rs)),Z (.tup (nmD ws)),Z (.tup (nmD [a,b])),Z (eF ws cs),Z (alD (ws.idxOf a) (ws.idxOf b) rs),Z d]) ?_ ?_
 ·refine CL (c:=J) (S':=f::T) ?_ ?_
  ·walk_at"w";refine sh J _ ?_
   wp_walk using ao
  ·rw[aj (by decide)];walk_at"w"
 rintro r S ⟨rfl,rfl⟩;refine d3 (λr S=>S=f::T/\r=[h,i,Z (.ref 0),g,Z (webD w),Z (.tup (nmD rs)),Z (.tup (nmD ws)),Z (.tup (nmD [a,b])),Z (eF ws cs),Z (alD (ws.idxOf a) (ws.idxOf b) rs),Z d]) ?_ ?_
 ·refine CL (c:=J) (S':=f::T) ?_ ?_
  ·wp_walk using I
   refine x _ ?_
   wp_walk using E
  ·rw[aj (by decide)];walk_at"w"
 rintro r S ⟨rfl,rfl⟩;unfold ft;rw[dN];refine Bv C e hm hk hc st ha hb l hr u (by lia) y O λav xs t P=>?_;walk_at"w";refine q av [.lst xs] _ _ (t.more (by lia)) ?_;rw[bN,Ob.und,xf P];rfl
theorem JJ{s t p x4 x5 R x7 L l f:Option D}{Q:Fl×Ev×Sto->Prop}(ho:fx o n)(hn:n<=2^30)(hT:T.all (Ob.und 0)=M)(q:∀o' G y4 y5 y6 y7 y8 K k,fx o' (n+10000)->G.all (Ob.und 0)=M->Q (.nx,[s,t,Z (.ref 0),p,y4,y5,y6,y7,y8,K,k],o'::(T++G))):W (sF [s,t,Z (.ref 0),p,x4,x5,R,x7,L,l,f] (o::T)) Q:=by
 have j:T.all (Ob.und (T.length+1))=M:=bA.mpr λx hx=>gW (bi _) (bA.mp hT x hx);unfold sF;refine d3 (λr S=>∃(m:Nat) (w:dJ) (rs:List Nat) (o':Ob),0<m/\m<=8/\Au m w rs/\fx o' (n+300)/\S=o'::T/\r=[s,t,Z (.ref 0),p,Z (webD w),Z (.tup (nmD rs)),R,x7,L,l,f]) ?_ ?_
 ·walk_at"w";refine Df ho (by lia) j λm w rs o' h1 h2 C h=>?_;walk_at"w";exact⟨m,w,rs,o',h1,h2,C,h,O,O⟩
 rintro r S ⟨m,w,rs,o1,y,A,C,N,rfl,rfl⟩;refine d3 (λr S=>∃(ws d:List Nat) (o':Ob),(∀x∈d,x∈ws)/\d.Pairwise (· <= ·)/\ws.Pairwise (· < ·)/\(∀x∈ws,x<m)/\ws.length<=8/\d.length<=2/\fx o' (n+310)/\S=o'::T/\r=[s,t,Z (.ref 0),p,Z (webD w),Z (.tup (nmD rs)),Z (.tup (nmD ws)),Z (.tup (nmD d)),L,l,f]) ?_ ?_
 ·walk_at"w";refine yO C.web.len y A C.len N (by lia) j λws d o' h1 h2 H v I F h=>?_;walk_at"w";exact⟨ws,d,o',h1,h2,H,v,I,F,h,O,O⟩
 rintro r S ⟨ws,d,o2,h1,h2,H,v,I,F,aq,rfl,rfl⟩;refine d3 (λr S=>∃(ks:List Nat) (o':Ob),fx o' (n+318)/\S=o'::T/\r=[s,t,Z (.ref 0),p,Z (webD w),Z (.tup (nmD rs)),Z (.tup (nmD ws)),Z (.tup (nmD d)),Z (eF ws (abv m rs ks)),l,f]) ?_ ?_
 ·simp(implicitDefEqProofs:=J) only[dS,gN,cD,cT,oS1,dN,dV,true_and,DR,dG,mV,gC1,cS,mN,dH,lC1,bf,cU,Oq,On];refine JQ C.web.len A C.len aq (by lia) j λks o' h=>?_;walk_at"w";exact⟨ks,o',h,O,O⟩
 rintro r S ⟨ks,B,u,rfl,rfl⟩;have g:∀(S:Sto),Q (.nx,[s,t,Z (.ref 0),p,Z (webD w),Z (.tup (nmD rs)),Z (.tup (nmD ws)),Z (.tup (nmD d)),Z (eF ws (abv m rs ks)),l,f],B::T):=λ_=>by
  have:=q B [] (Z (webD w)) (Z (.tup (nmD rs))) (Z (.tup (nmD ws))) (Z (.tup (nmD d))) (Z (eF ws (abv m rs ks))) l f (u.more (by lia)) O;rw[aN]at this;exact this
 generalize i:abv m rs ks=cs at *
 have hk:mw m rs cs:=i ▸ DH;have hc:cs=(af m).filter λr=>cs.contains r:=i ▸ DF;have st:DW m ws cs:=⟨I,i ▸ (DG A).1,v,i ▸ (DG A).2⟩
 match d,F with
 |[],_=>
  wp_walk using ej
  exact g T
 |[a],_=>
  wp_walk using ej
  exact g T
 |[a,b],_=>
  have P:a∈ws:=h1 a (by simp);have V:b∈ws:=h1 b (by simp);have X:∀S,dL (.tup (nmD [a,b])) (.int 0) S=Z (.int (a:Nat),S):=λS=>rfl;have U:∀S,dL (.tup (nmD [a,b])) (.int 1) S=Z (.int (b:Nat),S):=λS=>rfl;have ga:∀S,dL (.tup (nmD rs)) (.int (a:Nat)) S=Z (.int (rs.getD a 0:Nat),S):=λS=>yK (by rw[C.len];exact v a P);have av:∀S,dL (.tup (nmD rs)) (.int (b:Nat)) S=Z (.int (rs.getD b 0:Nat),S):=λS=>yK (by rw[C.len];exact v b V);by_cases wq:a≠b/\rs.getD a 0=rs.getD b 0
  ·obtain ⟨hab,au⟩:=wq;have ao:a<b:=by
    have:=List.rel_of_pairwise_cons h2 (a':=b) (by simp);lia
   refine CL (c:=M) (S':=B::T) ?_ ?_
   ·wp_walk using X,U,ga,av,ej
    have E:((a:Int) == (b:Int))=J:=by rw[R0];lia
    rw[E,au];simp only[Ru,cI,QC];exact trivial
   rw[ak O];exact II C y A hk hc st H P V ao au u hn j λo' G K k=>q o' G _ _ _ _ _ K k
  ·refine CL (c:=J) (S':=B::T) ?_ ?_
   ·wp_walk using X,U,ga,av,ej
    by_cases e:a=b
    ·subst e;simp
    ·have E:((a:Int) == (b:Int))=J:=by rw[R0];lia
     have e2:(((rs.getD a 0:Nat):Int) == ((rs.getD b 0:Nat):Int))=J:=by rw[R0];exact λz=>wq ⟨e,by lia⟩
     rw[E,e2];simp
   ·rw[aj (by decide)];walk_at"w";exact g T
inductive TB (N:D)(k:Int)(i:Nat):Ev->Sto->Prop
 |mk (o:Ob) (G:Sto) (x4 x5 x6 x7 x8 x9 x10:Option D) (hi:i<=2) (ho:fx o (10000*i)) (hG:G.all (Ob.und 0)=true) (x3:Option D):TB N k i [some N,some (.int k),some (.ref 0),x3,x4,x5,x6,x7,x8,x9,x10] (o::G)
theorem HN(ns:List Int)(k:Int)(y:0<=k)(hk:k<63):W (sE [Z (.rol (ns.map D.int)),Z (.int k),Y,Y,Y,Y,Y,Y,Y,Y,Y] []) λp=>p.1 = .nx /\ ∃l,p.2.1=Z (.rol (ns.map D.int))::l/\l.length=10:=by
 unfold sE;generalize q:D.rol (ns.map D.int)=N;refine d3 (λr S=>∃o,fx o 0/\S=[o]/\r=[Z N,Z (.int k),Z (.ref 0),Y,Y,Y,Y,Y,Y,Y,Y]) ?_ ?_
 ·obtain⟨o,e,g⟩:=Gh ns k y hk;rw[q]at e
  wp_walk using e
  exact⟨o,g,O,trivial⟩
 rintro r S ⟨o,g,rfl,rfl⟩;walk_at"w";refine⟨eL (n:=2) (by lia),?_⟩;rw[show((2:Int).toNat)=2 from rfl];refine eK (TB N k) (fT 0 2) 0 _ _ ⟨o,[],_,_,_,_,_,_,_,by lia,g,O,_⟩ (λ_ _ _ _=>rfl) ?_ ?_
 ·rintro i d u r S ⟨K,G,v,t,B,A,z,m,c,hi,h,j,s⟩;have b:=(R9 u).1;rw[eo]at b;rw[bL]at *
  walk_at"w";refine JJ h (by lia) j λo' x C F H ao E I w f a=>?_;exact⟨O,o',G++x,_,_,_,_,_,_,_,by lia,f.more (by lia),by rw[cN,j,a];rfl,_⟩
 ·rintro r S ⟨o,G,v,t,B,A,z,m,c,_,_,_,s⟩;exact⟨O,_,O,O⟩
theorem truth(ns:List Int)(C:ns.length<=63):∃S,m_law [.rol (ns.map D.int)] []=Z (.bl M,S):=by
 have g:W (m_law [.rol (ns.map D.int)] []) λp=>p.1 = .bl M:=by
  unfold m_law;refine iO ?_;unfold Dx;have m:(D.rol (ns.map D.int)).und 0=M:=by simp[D.und,my]
  have s:=λk v w=>HN ns k v w;generalize l:D.rol (ns.map D.int)=N at *
  have a:eB N []=Z (.int ns.length,[]):=by rw[<- l];simp[eB,dZ]
  refine d3 (λr S=>S=[]/\r=[Z N,Y,Y,Y,Y,Y,Y,Y,Y,Y,Y]) ?_ ?_
  ·simp only [hB,mP1,aZ,lC1,bf,cU,Nat.reduceSub,Lg,bj,cP,fF,dN,DS,dG,mN,mC,mV,dH,b1,b2,Gm,Gk,a,dV,oS1,cS,KL];have o:∃ t:Nat,t<=4/\(if (if (ns.length:Int)<4 then (ns.length:Int) else 4)>1 then (if (ns.length:Int)<4 then (ns.length:Int) else 4) else 1)=(t:Int):=by
    by_cases h1:(ns.length:Int)<4
    ·rw[ak h1];by_cases h2:(ns.length:Int)>1
     ·rw[ak h2];exact⟨ns.length,by lia,O⟩
     ·rw[aj h2];exact⟨1,by lia,O⟩
    ·rw[aj h1];exact⟨4,by lia,by decide⟩
   obtain⟨t,z,te⟩:=o;rw[te,Qy];refine⟨eL (by lia),?_⟩;refine eK (λ_ r S=>S=[]/\r=[Z N,Y,Y,Y,Y,Y,Y,Y,Y,Y,Y]) _ 0 _ _ ⟨O,O⟩ (λ_ _ _ _=>rfl) ?_ ?_
   ·rintro i d n r S ⟨rfl,rfl⟩;obtain⟨k,e,y,A⟩:=uE (gM1 n);subst e;simp only[gN,cD,cT,dV];obtain⟨⟨f,r2,B⟩,q,j,u,b,c⟩:=s k y (by lia);dsimp only at j b;subst j;subst b;refine W.of (x:=(.nx,[Z N,Y,Y,Y,Y,Y,Y,Y,Y,Y,Y],[])) ?_ ⟨O,O,O⟩
    match u,c with
    |[z1,z2,z3,z4,z5,z6,z7,z8,z9,z10],_=>
     unfold xH qS;simp[fZ,lD,D.und,m,q]
   ·rintro r S ⟨rfl,rfl⟩;exact⟨O,O,O⟩
  ·rintro r S ⟨rfl,rfl⟩;simp only[eh,mC,oS1,dV]
 obtain⟨⟨d,S⟩,e,h⟩:=g;dsimp only at h;exact⟨S,by rw[e,h]⟩
end Law
end
open PySem PySem.W PyProof.Rows
namespace PySem.W.Fast
def tw2113391973035490129:=()
def tw6494575527692580723:=()
def tw8037467653422534406:=()
def tw3840855399034736231:=()
def tw1595309761484774170:=()
def tw16584687777339780745:=()
def tw11847047054002031525:=()
def tw2208818818748320760:=()
def tw10506432564181404780:=()
def tw18149080604135337594:=()
def tw8827110589740545348:=()
def tw12513684992816183162:=()
def tw4567751416097380750:=()
def tw3488602572678777987:=()
def tw1914851318683508674:=()
def tw5428930128987198873:=()
def tw9576147128832361693:=()
def tw4680094104227546386:=()
def tw16297281178580559704:=()
def tw353114170651981565:=()
def tw5670465453007539574:=()
def tw2859285595019875046:=()
def tw13608940547181639960:=()
def tw13012367605360373623:=()
def tw3971668558076792690:=()
def tw17245672979509662140:=()
def tw16769010111848811177:=()
def tw15114166458753814396:=()
def tw5066265662185048408:=()
def tw7813323398742699314:=()
def tw5945862956287035743:=()
def tw386137182277614929:=()
def tw4447077032740960447:=()
def tw6941527384815387572:=()
def tw8681680221581546622:=()
def tw13946249182560350346:=()
def tw2069283022718954194:=()
def tw8359303431384943371:=()
def tw13139700338816680519:=()
def tw16945225039404828647:=()
def tw9273907896759241725:=()
def tw628605668369704770:=()
def tw2514480273379121625:=()
def tw8942086222780403424:=()
def tw9434020258251070334:=()
def tw8657896161194559964:=()
def tw16157860508233900571:=()
def tw15031039585562951160:=()
def tw6941110707988974009:=()
def tw14716006330609124573:=()
def tw2287131071710149316:=()
def tw9408386031872956339:=()
def tw14812034786665995074:=()
def tw9017572977522765395:=()
def tw5562280196782610622:=()
def tw16294174674075242691:=()
def tw1899941003799454896:=()
def tw14206847784582632675:=()
def tw1742807134191568285:=()
def tw1632282879547462103:=()
def tw5373562461447359124:=()
def tw8612084451580540301:=()
def tw791674038149069251:=()
def tw15037659975023382478:=()
def tw4526335928216241475:=()
def tw18167856416855774709:=()
def tw14697935245711504324:=()
def tw8954994816133582162:=()
def tw4212341814063260819:=()
def tw16398695434454067634:=()
def tw12200291864227910212:=()
def tw7894127273291439536:=()
def tw15505189566241641913:=()
def tw10766833682547290727:=()
def tw324238125453050700:=()
def tw12625618899232460146:=()
def tw14476385381421951774:=()
def tw12510989443128581215:=()
def tw15351075334391639441:=()
def tw12364167670140476081:=()
def tw9556943763277788650:=()
def tw10317572902829625861:=()
def tw15283783248431278642:=()
def tw13403289563051027071:=()
def tw2547280908480377973:=()
def tw9611225045018605834:=()
def tw14179785396295506220:=()
def tw12963006555037401222:=()
def tw17199381834507396897:=()
def tw4237449616699446837:=()
def tw16767854451065451325:=()
def tw13063015609476213361:=()
def tw10923694196085260411:=()
def tw7438946122365733725:=()
def tw300879127441861914:=()
def tw17848845526588131448:=()
def tw11403273851030363004:=()
def tw7451701265290084334:=()
def tw7927596832966317682:=()
def tw12349101147930478679:=()
def tw812791958514883617:=()
def tw3139935755638633997:=()
def tw8573220965724468429:=()
def tw14396891109487398350:=()
def tw2816765670745893184:=()
def tw2103408952538606684:=()
def tw638250811097922605:=()
def tw5958770421261541088:=()
def tw17558134707526943809:=()
def tw14199993132251083091:=()
def tw116828115012240846:=()
def tw10232721645418563293:=()
def tw17394224603888826980:=()
def tw7179309215223749036:=()
def tw14555941882815482518:=()
def tw8340342649698324046:=()
def tw2573925913767341550:=()
def tw12989679043394575266:=()
def tw6980825405821224095:=()
def tw4805309473639857552:=()
def tw13719231174525126215:=()
def tw12974034024006443993:=()
def tw882330679130967469:=()
def tw14545273916391411193:=()
def tw15577898926228175596:=()
def tw12461449824164387596:=()
def tw9676466900344882056:=()
def tw12894160477729404549:=()
def tw15192677842021492498:=()
def tw3206853744189959765:=()
def tw5294341390255904286:=()
def tw5010517263302064092:=()
def tw8988807981488807017:=()
def tw3408237619183230587:=()
def tw1757376143242092398:=()
def tw9867073413407797671:=()
def tw6857934491790382368:=()
def tw9307788096228044479:=()
def tw536194573642952016:=()
def tw10658530465693257656:=()
def tw10557376542645752310:=()
def tw12510259956336025475:=()
def tw9528250036200005857:=()
def tw6682401608426872743:=()
def tw9928868929812062100:=()
def tw15845568761295051432:=()
def tw13861874267507485093:=()
def tw14957944504760946081:=()
def tw240572169347047954:=()
def tw15142189591472481187:=()
def tw15783057872289747954:=()
def tw2949677677573028755:=()
def tw8345040963072472248:=()
def tw2303198069913478526:=()
def tw16113793671530179300:=()
def tw16869994030295999104:=()
def tw14417025924125981072:=()
def tw4835015592035891832:=()
def tw11658101627213025799:=()
def tw15470454316366236182:=()
def tw8301018899589525728:=()
def tw9423422683274070076:=()
def tw7419257516579892521:=()
def tw3015215377583728065:=()
def tw10113594645426331117:=()
end PySem.W.Fast
set_option maxRecDepth 100000 in
set_option maxHeartbeats 0 in
theorem PySem.Challenge.cw_ringmeet_k39_whole_alike_ones_never_meet_holds : PySem.Challenge.rw_ringmeet_k39_whole_alike_ones_never_meet.Holds := by
 w_on;refine PySem.W.holds_law (by decide+kernel) fun d=>?_;k_head;(case hw=>w_witness2)
 k_fill
 refine Mi.walk_m (l:=PySem.Challenge.rw_ringmeet_k39_whole_alike_ones_never_meet) (m:=Law.m_law) (k:=6) (x:="_law_script") rfl rfl ⟨rfl,by decide,by decide,rfl⟩ (fun w h Y=>PySem.W.kIn_of Y) Law.truth ?F
 case F=>
  intro w mg f h e G b;refine' Law.all_mk e G b ?a1 ?a2 ?a3 ?a4 ?a5 ?a6 ?a7 ?a8 ?a9 ?a10 ?a11 ?a12 ?a13 ?a14 ?a15 ?a16 ?a17 ?a18 ?a19 ?a20 ?a21 ?a22 ?a23 ?a24 ?a25 ?a26 ?a27 ?a28 ?a29 ?a30 ?a31 ?a32 ?a33 ?a34 ?a35 ?a36 ?a37 ?a38 ?a39 ?a40 ?e_PARTS ?h1 ?h2 ?h5 ?h8 ?h11 ?z
  all_goals try (refine' Mi.L7 ?a ?l ?c ?k;(case a=>k_is);(case l=>k_is);(case c=>k_is);(case k=>k_is))
  (case e_PARTS=>k_is)
  (case h1=>k_is)
  (case h2=>k_is)
  (case h5=>k_is)
  (case h8=>k_is)
  (case h11=>k_is)
  (case z=>exact ⟨by k_is,by k_is,by k_is,by k_is,by k_is,by k_is,by k_is,by k_is,by k_is,by k_is,by k_is,by k_is,by k_is,by k_is,by k_is,trivial⟩)

