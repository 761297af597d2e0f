import PyProof.Rows.All
import Wide.All
import OpenK.AllK
import Wide.FinOn
import Lean
import PyProof.EqAt
import PyProof.EqKinds
import PyProof.TupleCall
import PySem.Challenge.RW_ringmeet_k39_whole_alike_ones_never_meet
set_option Elab.async false
set_option compiler.extract_closed false
set_option genSizeOf false
set_option bootstrap.genMatcherCode false
set_option linter.all false
set_option maxRecDepth 100000
set_option maxHeartbeats 4000000
open List renaming getElem?_eq_some_iff → gE1, getElem?_append_left → gL1, getElem?_eq_getElem → gG1, mem_of_getElem? → gM1, getElem?_set_ne → gS1, length_append → lA1, length_map → lM1, getElem?_cons_succ → gC1, mem_cons_of_mem → mC1, mem_cons_self → mS1, getElem?_map → gP1, getElem?_append_right → gR1, size_toArray → sT1, map_cons → mP1, length_cons → lC1, length_replicate → lR1, mem_append_right → mA1
open Option renaming bind_eq_some_iff → oB1, map_eq_some_iff → oM1, bind_some → oS1, map_some → oP1
open Nat renaming le_refl → nR1, lt_of_lt_of_le → nL1, ne_of_lt → nN1, ne_of_gt → nG1
open Bool renaming and_eq_true → bA1, false_eq_true → bF1
open Array renaming getElem?_eq_getElem → aG1, getElem?_toList → aT1
open PySem.W renaming Frag → Fg1, nsIn → wN1, keepIn → wK1, codeIn → wC1, fnOf → wF1, mg_of → wM1
open PySem.Heap renaming get?_push_of_some → hP1, get?_push_size → hS1, lt_size → hL1, size_push → hZ1, get?_update_ne → hU1, get?_update_self → hW1
open PySem renaming wpAny_bind → wB1, wpAny_pure → wP1, wpAny_setField_rec → wS1, wpAny_newObj_type → wO1, codeAny_builtin → wD1, wpAny_call_entry → wE1
open List renaming take_nil → aw, drop_nil → ay, mem_filter → aB, mem_range → aC, filterMap_cons → aE, mem_cons → aF, mem_append → aG, mem_append_left → aH, getElem_inj → aI, getElem?_set_self → aJ, mem_filterMap → aM, append_nil → aN, nodup_cons → aO, replicate → aP, length_take → aR, getElem?_replicate → aS, getElem?_take_of_lt → aT, take_sublist → aU, length_set → aV, reverse_cons → aW, length_singleton → aY, map_nil → aZ, find?_cons → bc, any_cons → bd, length_nil → bf, cons_append → bj, range' → bn, prefix_rfl → bo, nodup_nil → bp, getElem?_of_mem → bq, map_map → bu, prefix_append → bv, nodup_append → bx, all_eq_true → bB, mem_replicate → bD, forIn_cons → bE, lookup_cons → bF, append_assoc → bG, getD_eq_getElem?_getD → bJ, zipIdx_cons → bK, not_mem_nil → bL, all_cons → bQ, any_eq_true → bT, getElem_mem → bU, zip_cons_cons → bV, cons_prefix_cons → bX, take_length → bY, ext_getElem? → b0, getElem?_eq_none → b4, findIdx?_eq_some_iff_getElem → b6, foldl_cons → b8, contains_cons → b9, pairwise_cons → ca, mem_map → cc, getElem?_toArray → cg, pairwise_iff_getElem → ci, take_of_length_le → cm, pairwise_lt_range → cq, map_append → cr, take_succ → cu, foldl_append → cv, length_eq_zero_iff → cA, take_append_drop → cC, eraseIdx_eq_take_drop_succ → cD, getElem?_range → cE, mem_singleton → cH, range'_succ → cJ, nodup_range → cK, length_range → cM, mem_of_mem_take → cN, set_cons_succ → cO, getElem?_zip_eq_some → cS, contains_iff_mem → cT, forall_mem_nil → cU, map_congr_left → cV, all_append → cW, nil_append → cY, mem_zipIdx_iff_getElem? → cZ, pairwise_map → c5, getElem?_cons_zero → c6, set_cons_zero → c7, flatten_cons → da, length_filter_le → db, filter_append → de, set_append_right → df, getElem?_concat_length → dg, getElem?_zipIdx → di, range_succ → dn, filter_cons_of_pos → dq, filter_cons_of_neg → dr, mem_flatMap → dv, idxOf_lt_length_of_mem → dw, getElem_idxOf → dy
open Option renaming some → az, isSome_iff_exists → aQ, isSome_map → bg, getD_some → b7, join_some → c9
open Nat renaming lt_irrefl → aA, le_trans → aD, le_succ → aX, le_of_not_lt → a0, lt_trans → bh, zero_le → bi, add_assoc → bm, le_add_right → br, not_lt_zero → bw, min_eq_left → bA, lt_succ_self → bC, lt_of_le_of_lt → bH, le_of_succ_le → bI, succ_pos → bN, zero_add → bO, min_self → bR, lt_or_ge → bW, lt_trichotomy → cj, lt_succ_of_lt → cy, mod_lt → cB, sub_self → cQ, reduceAdd → c8, lt_succ_iff_lt_or_eq → dj, mul_le_mul_right → dk
open Array renaming length_toList → aK, forIn_toList → bZ, perm_iff_toList_perm → cb, size_map → cf, toList_push → ck, getElem?_eq_none → cF, toArray_toList → cG, getD_eq_getD_getElem? → cP
open Bool renaming false_ne_true → aL, and_true → bM, or_eq_true → bP, eq_iff_iff → bS, not_true → b5, not_false → cI, not_eq_true → cR, eq_false_iff → cX
open PySem renaming Value → dz, Shared → dA, Addr → dB, Program → dD, Around → dE, World → dF, mainGlobals → dG, starEach → dH, sizeLine → dI, wpAny → dJ, codeAny → dL, Heap → dM, FuncData → dN, Stmt → dP, Scope → dQ
open Option renaming some → Z, none → Y
open Bool renaming true → M, false → J
theorem gu0(h0:True:=by repeat first|rfl|exact .inl rfl|assumption|apply Or.inr)(h1:True:=by decide)(h2:True:=by rfl)(h3:True:=by intro _;rfl)(h4:True:=by decide+kernel)(h5:True:=by assumption):True:=h0
namespace gu0
end gu0
open gu0 renaming _auto_1 → au0, _auto_2 → bu0, _auto_3 → cu0, _auto_4 → du0, _auto_5 → eu0, _auto_6 → fu0
theorem Mi.O{α}{a:α}:a=a:=rfl
open Mi (O)
open PySem renaming hashInt → aa, sysModules → Qe, intKind → Qf, bootBuiltins → Qg, model → Qm, backTo → Qn, wpAny_mono → Qo, wpAny_Name → Qp, wpAny_loadName_local → Qq, wpAny_truthy_bool → Qr, wpAny_execs_nil → Qt, swapsWith → Qu, assign → Qv, assignEach → Qw, Operator → Qx, holding → Qy, standAt → Qz, wpAny_holding → QA, wpAny_standAt → QB, swapsWithSole → QC, swappedStores → QD, wpAny_rule → QE, PassesOwn → QF, wpAny_passesOwn → QG, pyNext → QH, letOwnedTupleGo → QI, pyIter → QJ, rawInt → QK, wpAny_pyNext_list_item → QL, wpAny_pyNext_list_end → QM, foldedSetIterable → QO, binaryOp → QP, compareOp → QQ, CmpOp → QR, behindInMarks → QS, sizeLine_eq → QT, cLine → QX, Result → QY, codeAny_mono → QZ, wpAny_Call_Name_kw → Q0, Keyword → Q1, NameKind → Q2, cellsFrom → Q4, mem_of_lookup → Q6, IsPart → Rg, wpAny_field → Rh, wpAny_callSpecial?_slot → Ri, wpAny_typeOf → Rm, sliceBounds → Rq, attributeBase → Rs, backToKw → Rt, keywordEach → Ru, valueAt → Rz, atKey → RB, tupleKind_room_in1 → RC, SetTable → RI, pushCells_keeps → RL, compTurn → RM, codeAny_of_tree → RN, wpAny_askSetting → RO, wpAny_of_eq → RP, wpAny_seqItems → RT, firstArgMember → RV, IsEnum → RW, wpAny_attempt → RX, wpAny_letGo → R1, wpAny_isInstance → R3, isSubtype_stop → R4, IsZip → R5, IsPair → R6, wpAny_updateSeq_pair → R8, wpAny_forIn_list → Sc, plainId_quiet → Sd, wpAny_specialOf → Sf, wpAny_callSpecialIfBoundUnlessNone?_slot → Sg, eqIsQuiet_byValue → Si, scanBound → Sn, wpAny_setState_of → SL, wpAny_storeSet_of → SN, fits_of_scanBound → SO, wpAny_runValue → SQ
open PySem.Value renaming int → ab, str → ae, none → P9, bool → Qa, ref → Qb, type → Qc
open PyProof.Rows renaming IsTup → Qd, AllBare → Qh, callWith_type1 → QN, envOfC → Q3, slot_tuple_getitem → Rk, subscriptTail → Ro, IntsAre → Ry, step_dedup → Sl, Keyed → So, SortKind → Sq, SortSt → Sr, arrOf → Ss, failedOf → Su, pendingOf → Sv, wpS_bind → Sw, wpS_pure → Sx, wpS_forRange → Sy, pairsOf → SB, seqObj → SD, sortedHeap → SE, listItems_at → SF
open PySem.Heap renaming get?_none_of_le → Qi, SameBut → Ql
open PySem.W renaming drawn → Qj, kitOne → QU, kia_one → QV, cellsFrom_some → Q5
open Ne renaming symm → Qk
open False renaming elim → Qs
open True renaming intro → QW
open PySem.F renaming slot_tuple_add → Q7, entry_tuple_add → Q8, args_tuple_add_2 → Q9, slot_tuple_iterator_next → RR, slot_enumerate_next → RY, slot_zip_next → R7, plain_extend_loop → SW, slot_tuple_index → Tc, type_tuple_index → Td
open Int renaming toNat_natCast → Ra, emod_nonneg → SZ, emod_lt_of_pos → S0
open PySem.Builtin.Slice renaming sliceAdjust → Rb, slicePlaces → Re
open PySem.Str renaming ofString → Rj
open PySem.Builtin.Tuple renaming tupleItemsOf → Rl, tupleExact → Rn, tupleHashOf → RD
open PySem.Obj renaming mapSeq → Rp
open PySem.SeqAt renaming EqAt → Rr, RcAt → Sb
open PySem.Calls renaming callWith_builtin → Rv, evalArgs_plain → Rx, call_function_entry → SY
open PySem.SetTable renaming runEnd → RE, leap → RF, turns → RG, bits → RH, below → SH, insertAt → SI, Probe → SJ, grown → SM
open PySem.NameKind renaming cell → RK
open PySem.Builtin.SmallTypes renaming nextOf → RQ, ownedTupleIsFree → RZ, ownedTupleHandOut → R0
open PySem.Heap.SameBut renaming update → RU
open PySem.Around renaming under_plainId → Se
open Classical renaming byContradiction → Sh, choose_spec → Te
open PySem.AutoSeq1 renaming wpAny_loadPart' → Sj
open PySem.MeetsSeq renaming plain_index_loop → Sk
open PySem.Builtin.List renaming listItems → SC, listExtendWith → SX
open PySem.SetTable.probe renaming go → SK
open PyProof.Rows.F renaming entry_set_update_loop → SS, plain_set_update_loop → SU
open PySem.PassesOwn renaming never → S9
open Or renaming inl → Ta, inr → Tb
open Prod.mk renaming injEq → Tf
noncomputable def Mi.Rc:=@if_false
noncomputable def Mi.Rf:=@if_true
noncomputable def Mi.RJ:=@of_decide_eq_true
noncomputable def Mi.R9:=@or_false
noncomputable def Mi.Sa:=@beq_self_eq_true
noncomputable def Mi.Sz:=@decide_true
noncomputable def Mi.SA:=@decide_false
noncomputable def Mi.SV:=@beq_iff_eq
noncomputable def Mi.S6:=@beq_eq_false_iff_ne
noncomputable def Mi.Tg{α}{l:List α}{i:Nat}{a:α}:=(List.getElem?_eq_some_iff (l:=l) (i:=i) (a:=a)).mp
noncomputable def Mi.Th{α β}{x:Option α}{f:α->Option β}{b:β}:=(Option.bind_eq_some_iff (x:=x) (f:=f) (b:=b)).mp
noncomputable def Mi.Ti{α β}{x:Option α}{f:α->β}{b:β}:=(Option.map_eq_some_iff (x:=x) (f:=f) (b:=b)).mp
open Mi (Rc Rf RJ R9 Sa Sz SA SV S6 Tg Th Ti)
theorem Mi.am{p:Prop}[Decidable p]:(decide p=true)=p:=decide_eq_true_eq
theorem Mi.ak{c:Prop}{h:Decidable c}(a:c){α:Sort _}{t e:α}:ite c t e=t:=if_pos a
theorem Mi.aj{c:Prop}{h:Decidable c}(a:¬c){α:Sort _}{t e:α}:ite c t e=e:=if_neg a
theorem Mi.ai{p:Prop}[Decidable p]:¬p→decide p=false:=decide_eq_false
theorem Mi.ah{p:Prop}[Decidable p]:p→decide p=true:=decide_eq_true
open List renaming range → af
open Mi (am ak aj ai ah)
noncomputable section
namespace L2
open PySem PySem.Spec PyProof.Rows
abbrev Key:=Sum Int Str
noncomputable def rH:Key->dz->Bool
 | .inl k,v=>Value.isInt k v
 | .inr x,v=>Value.isStrOf x v
noncomputable def Og(w:dF):Key->Int
 | .inl k=>aa k
 | .inr x=>hashStr w x
theorem fw:∀{k:Key} {v:dz},rH k v=M->(∃i t,k=Sum.inl i/\v=ab i t)\/(∃x t,k=Sum.inr x/\v=ae x t)
 | .inl i,v,h=>by
  obtain⟨t,e⟩:=Value.isInt_shape (k:=i) (v:=v) h;exact .inl ⟨i,t,O,e⟩
 | .inr x,v,h=>by
  obtain⟨t,e⟩:=Value.isStrOf_shape (x:=x) (v:=v) h;exact .inr ⟨x,t,O,e⟩
theorem Ae(i:Int)(t:Tok):rH (.inl i) (.int i t)=M:=by simp[rH,Value.isInt]
theorem Ad(x:Str)(t:Tok):rH (.inr x) (.str x t)=M:=by simp[rH,Value.isStrOf]
theorem Ku(a b:Int):decide ((Sum.inl a:Key)=Sum.inl b)=(a == b):=by
 by_cases e:a=b
 ·subst e;simp
 ·have h:¬ (Sum.inl a:Key)=Sum.inl b:=λq=>e (Sum.inl.inj q);rw[ai h];exact(S6.mpr e).symm
theorem Kr(a b:Str):decide ((Sum.inr a:Key)=Sum.inr b)=decide (a=b):=by
 by_cases e:a=b
 ·subst e;simp
 ·have h:¬ (Sum.inr a:Key)=Sum.inr b:=λq=>e (Sum.inr.inj q);rw[ai h,ai e]
theorem Kt(a:Int)(b:Str):decide ((Sum.inl a:Key)=Sum.inr b)=J:=ai (λq=>nomatch q)
theorem Ks(a:Str)(b:Int):decide ((Sum.inr a:Key)=Sum.inl b)=J:=ai (λq=>nomatch q)
def ft(prog:dD)(w:dF):PySem.KeyKind prog w Key where
 is:=rH
 hash:=Og w
 inj:=λv a b ha hb=>by
  rcases fw ha with⟨i,t,rfl,rfl⟩|⟨x,t,rfl,rfl⟩
  ·rcases fw hb with⟨j,u,rfl,e⟩|⟨y,u,rfl,e⟩
   ·injection e with e1 _;rw[e1]
   ·exact nomatch e
  ·rcases fw hb with⟨j,u,rfl,e⟩|⟨y,u,rfl,e⟩
   ·exact nomatch e
   ·injection e with e1 _;rw[e1]
 byValue:=λk v h=>by
  rcases fw h with⟨i,t,rfl,rfl⟩|⟨x,t,rfl,rfl⟩<;>rfl
 pyHash:=λhv h=>by
  rcases fw hv with⟨i,t,rfl,rfl⟩|⟨x,t,rfl,rfl⟩
  ·exact wpAny_pyHash_int h
  ·exact wpAny_pyHash_str h
 eqBool:=λhu hv h=>by
  rcases fw hu with⟨i,t,rfl,rfl⟩|⟨x,t,rfl,rfl⟩
  ·rcases fw hv with⟨j,u,rfl,rfl⟩|⟨y,u,rfl,rfl⟩
   ·rw[Ku]at h;exact wpAny_eqBool_int h
   ·rw[Kt]at h;exact SeqAt.EqAt.int_str i t y u _ _ _ _ h
  ·rcases fw hv with⟨j,u,rfl,rfl⟩|⟨y,u,rfl,rfl⟩
   ·rw[Ks]at h;exact SeqAt.EqAt.str_int x t j u _ _ _ _ h
   ·rw[Kr]at h;exact wpAny_eqBool_str h
 «strs» :=λk x t v h=>by
  rcases fw h with⟨i,u,rfl,e⟩|⟨y,u,rfl,e⟩
  ·exact nomatch e
  ·injection e with e1 _;subst e1;cases v<;>rfl
theorem u6(prog:dD)(w:dF)(i:Int)(t:Tok):(ft prog w).is (.inl i) (.int i t)=M:=Ae i t
theorem u5(prog:dD)(w:dF)(x:Str)(t:Tok):(ft prog w).is (.inr x) (.str x t)=M:=Ad x t
inductive V where
 |non|bl (b:Bool)|int (i:Int)|str (x:Str)|byt (b:Array UInt8)|flt (b:UInt64)|ref (a:dB)|ty (n:String)
 deriving DecidableEq
def eg:V->dz->Prop
 | .non,u=>u=P9
 | .bl b,u=>u=Qa b
 | .int i,u=>∃t,u=ab i t
 | .str x,u=>∃t,u=ae x t
 | .byt b,u=>∃t,u=Value.bytes b t
 | .flt b,u=>∃t,u=Value.float b t
 | .ref a,u=>u=Qb a
 | .ty n,u=>u=Qc n
abbrev ez:List V->List dz->Prop:=Paired eg
theorem ez.length{xs:List V}{a:List dz}(r:ez xs a):xs.length=a.length:=Paired.length r
theorem ez.get:∀{xs:List V} {a:List dz} {i:Nat} {x:V},ez xs a->xs[i]?=Z x -> ∃u,a[i]?=Z u/\eg x u:=by
 intro xs a i x h e
 induction h generalizing i with
 |nil=>cases e
 |cons r t ih=>cases i with
  |zero=>cases e;exact⟨_,O,r⟩
  |succ i=>exact ih (i:=i) e
theorem ez.set{x:V}{u:dz}(r:eg x u):∀{xs:List V} {a:List dz} (i:Nat),ez xs a->ez (xs.set i x) (a.set i u):=by
 intro xs a i h
 induction h generalizing i with
 |nil=>exact .nil
 |cons q t ih=>cases i with
  |zero=>exact .cons r t
  |succ i=>exact .cons q (ih i)
theorem ez.append:∀{xs ys:List V} {a ws:List dz},ez xs a->ez ys ws->ez (xs++ys) (a++ws):=by
 intro xs ys a ws h s
 induction h with
 |nil=>exact s
 |cons r t ih=>exact .cons r ih
theorem ez.take:∀{xs:List V} {a:List dz} (n:Nat),ez xs a->ez (xs.take n) (a.take n):=by
 intro xs a n h
 induction h generalizing n with
 |nil=>rw[aw,aw];exact .nil
 |cons r t ih=>cases n with
  |zero=>exact .nil
  |succ n=>exact .cons r (ih n)
theorem ez.drop:∀{xs:List V} {a:List dz} (n:Nat),ez xs a->ez (xs.drop n) (a.drop n):=by
 intro xs a n h
 induction h generalizing n with
 |nil=>rw[ay,ay];exact .nil
 |cons r t ih=>cases n with
  |zero=>exact .cons r t
  |succ n=>exact ih n
def nr:Option V->Option dz->Prop
 |some v,Z u=>eg v u
 |none,Y=>True
 |_,_=>False
def KV{κ:Type}:List (κ×V)->List (κ×dz)->Prop:=Paired λ(p:κ×V) (q:κ×dz)=>p.1=q.1/\eg p.2 q.2
noncomputable def kV:Key->V
 | .inl i=>.int i
 | .inr x=>.str x
inductive HO where
 /-- a list -/
 |lst (xs:List V)
 /-- a tuple (never changes) -/
 |tup (xs:List V)
 /-- a dict whose keys are ints and texts; one whose keys are tuples of ints and texts (the empty one is both) -/
 |dK (kvs:List (Key×V))|dT (kvs:List (List Key×V))
 /-- a set of ints: its members, its size -/
 |set (S:Int->Bool) (n:Nat)
 /-- an instance of the class at C, its dict at dx, its attributes -/
 |ins (C dx:dB) (fs:List (Str×V))
 /-- the dict of the instance at x -/
 |own (x:dB)
 /-- the dict of an exception -/
 |xd (fs:List (Str×V))
 /-- a bound method, f of x -/
 |met (f x:dB)
 /-- a range object lo, lo + 1, .. below hi -/
 |rng (lo hi:Int)
 /-- a thing that is known to the object (the script; a dict while a loop walks it): read, never written while it is so -/
 |frz (o:Obj) (u:HO)
 /-- a code object's table -/
 |tbl (ps:Array dz)
 /-- any other thing, by what is true of its one object (a def of one's own: SetO a S n := HO.ext λh => ..) -/
 |ext (φ:dM->Prop)
abbrev Hp:=dB->Option HO
noncomputable def upd(H:Hp)(a:dB)(o:HO):Hp:=λb=>if b=a then Z o else H b
theorem eA{H:Hp}{a:dB}{o:HO}:upd H a o a=Z o:=by unfold upd;rw[ak O]
theorem eo{H:Hp}{a b:dB}{o:HO}(h:b≠a):upd H a o b=H b:=by unfold upd;rw[aj h]
theorem Mj{H:Hp}{a b:dB}{o u:HO}(h:H a=Z o)(h':H b=Z u)(d:o≠u):a≠b:=by
 intro e;subst e;rw[h]at h';exact d (Option.some.inj h')
theorem eI{H:Hp}{a b:dB}{o:HO}(h:H a=Z o)(h':H b=Y):a≠b:=by
 intro e;subst e;rw[h]at h';cases h'
def mP(h:dM)(a:dB)(items:Array dz):Prop:=∃o,h.get? a=Z o/\o.cls = .type "tuple" /\ ∃n,o.data = .seq items n/\o.dict=Y
theorem mP.tup{h:dM}{a:dB}{items:Array dz}(x:mP h a items):Qd h a items:=by
 obtain⟨o,e,c,n,d,_⟩:=x;exact⟨o,e,c,n,d⟩
theorem mP.lt{h:dM}{a:dB}{items:Array dz}(x:mP h a items):a<h.objs.size:=x.tup.lt
theorem mP.new(h:dM)(items:Array dz):mP (h.push {cls:=.type "tuple",data:=.seq items}) h.objs.size items:=⟨_,hS1 _ O,O,0,O,O⟩
section
variable(P:dD) (w:dF)
def e9(H:Hp)(h:dM)(a:dB):HO->Prop
 | .lst xs=>xs.length<=dI /\ ∃(its:List dz) (n:Nat),ez xs its/\h.get? a=Z {cls:=.type "list",data:=.seq its.toArray n}
 | .tup xs=>xs.length<=dI /\ ∃its:List dz,ez xs its/\mP h a its.toArray
 | .dK kvs=>kvs.length<=dI/\(a == Qe)=J /\ ∃vs,KV kvs vs/\h.DictOf (ft P w) a vs
 | .dT kvs=>kvs.length<=dI/\(a == Qe)=false /\ ∃ xs:List (List Key×dB×dz),
   Paired (λ(p:List Key×V) (q:List Key×dB×dz)=>p.1=q.1/\H q.2.1=Z (.tup (p.1.map kV))/\eg p.2 q.2.2) kvs xs /\
   ∃o es ep,h.get? a=Z o/\o.ExactDict/\o.data = .dict es ep/\es.toList=xs.map (entryOfKey (tupleKind (ft P w)))/\(xs.map (·.1)).Nodup
 | .set S n=>h.SetOf (Qf P w) a S n
 | .ins C dx fs=>H dx=some (.own a)/\fs.length<=1000/\dx≠a/\h.get? a=some (PySem.W.instObj C dx) /\
   ∃mA,h.Ns1 dx mA/\(∀f,nr (fs.lookup f) (mA f))/\PySem.Within mA (fs.map (·.1))
 | .own _=>∃o,h.get? a=Z o
 | .xd fs=>∃mA,h.Ns1 a mA /\ ∀f,nr (fs.lookup f) (mA f)
 | .rng lo hi=>∃t u v,h.get? a=Z {cls:=.type "range",data:=.fields #[.int lo t,.int hi u,.int 1 v]}
 | .frz o u=>h.get? a=Z o/\e9 H h a u
 | .tbl ps=>h.get? a=Z {cls:=.none,data:=.fields ps}
 | .met f x=>h.get? a=Z (PySem.W.methodObj (.ref f) (.ref x))
 | .ext φ=>φ h/\(∃o,h.get? a=Z o) /\ ∀h1 h2:dM,φ h1->(∀o,h1.get? a=Z o->h2.get? a=Z o)->φ h2
def lJ(H:Hp)(h:dM):Prop:=∀a o,H a=Z o->e9 P w H h a o
end
section
variable{P:dD}{w:dF}{H H':Hp}{h h':dM}{a:dB}{o:HO}
theorem e9.lt(x:e9 P w H h a o):a<h.objs.size:=by
 cases o with
 |lst xs=>obtain⟨_,_,_,_,e⟩:=x;exact hL1 e
 |tup xs=>obtain⟨_,_,_,p⟩:=x;exact p.lt
 |dK kvs=>obtain⟨_,_,_,_,o,_,_,e,_⟩:=x;exact hL1 e
 |dT kvs=>obtain⟨_,_,_,_,o,_,_,e,_⟩:=x;exact hL1 e
 |set S n=>obtain⟨o,_,_,_,e,_⟩:=x;exact hL1 e
 |ins C dx fs=>obtain⟨_,_,_,e,_⟩:=x;exact hL1 e
 |own y=>obtain⟨_,e⟩:=x;exact hL1 e
 |xd fs=>obtain⟨_,⟨_,_,_,e,_⟩,_⟩:=x;exact hL1 e
 |rng lo hi=>obtain⟨_,_,_,e⟩:=x;exact hL1 e
 |frz b u=>obtain⟨e,_⟩:=x;exact hL1 e
 |tbl ps=>exact hL1 (show h.get? a=Z _ from x)
 |met f y=>exact hL1 (show h.get? a=Z _ from x)
 |ext φ=>obtain⟨_,⟨_,e⟩,_⟩:=x;exact hL1 e
theorem Paired.mapP{α β:Type}{F G:α->β->Prop}:∀{l₁:List α} {l₂:List β},Paired F l₁ l₂->(∀a b,F a b->G a b)->Paired G l₁ l₂:=by
 intro a b h f
 induction h with
 |nil=>exact .nil
 |cons r t ih=>exact .cons (f _ _ r) ih
theorem e9.stay(x:e9 P w H h a o)(k:∀ b u,(b=a\/H b=Z (.own a))->h.get? b=Z u->h'.get? b=Z u)(ho:∀b,H b=Z (.own a)->H' b=Z (.own a))(ht:∀b xs,H b=Z (.tup xs)->H' b=Z (.tup xs)):e9 P w H' h' a o:=by
 induction o with
 |lst xs=>obtain⟨z,i,n,r,e⟩:=x;exact⟨z,i,n,r,k _ _ (.inl O) e⟩
 |tup xs=>obtain⟨z,i,r,g,e,c⟩:=x;exact⟨z,i,r,g,k _ _ (.inl O) e,c⟩
 |dK kvs=>obtain⟨z,y,vs,r,g,es,ep,e,c⟩:=x;exact⟨z,y,vs,r,g,es,ep,k _ _ (.inl O) e,c⟩
 |dT kvs=>
  obtain⟨z,y,xs,r,g,es,ep,e,c⟩:=x;exact⟨z,y,xs,Paired.mapP r λp q z=>⟨z.1,ht _ _ z.2.1,z.2.2⟩,g,es,ep,k _ _ (.inl O) e,c⟩
 |set S n=>obtain⟨g,es,ep,t,e,c⟩:=x;exact⟨g,es,ep,t,k _ _ (.inl O) e,c⟩
 |ins C dx fs=>
  obtain⟨d,z,ne,e,mA,⟨j,es,ep,l,c⟩,r⟩:=x;exact⟨ho _ d,z,ne,k _ _ (.inl O) e,mA,⟨j,es,ep,k _ _ (.inr d) l,c⟩,r⟩
 |own y=>obtain⟨g,e⟩:=x;exact⟨g,k _ _ (.inl O) e⟩
 |xd fs=>obtain⟨mA,⟨j,es,ep,e,c⟩,r⟩:=x;exact⟨mA,⟨j,es,ep,k _ _ (.inl O) e,c⟩,r⟩
 |rng lo hi=>obtain⟨t,u,v,e⟩:=x;exact⟨t,u,v,k _ _ (.inl O) e⟩
 |frz g u ih=>obtain⟨e,q⟩:=x;exact⟨k _ _ (.inl O) e,ih q⟩
 |tbl ps=>
  have e:h.get? a=Z {cls:=.none,data:=.fields ps}:=x;show h'.get? a=Z {cls:=.none,data:=.fields ps};exact k a _ (.inl O) e
 |met f y=>
  have e:h.get? a=Z (PySem.W.methodObj (.ref f) (.ref y)):=x;show h'.get? a=Z (PySem.W.methodObj (.ref f) (.ref y));exact k a _ (.inl O) e
 |ext φ=>obtain⟨p,⟨o,e⟩,st⟩:=x;exact⟨st _ _ p λo q=>k _ _ (.inl O) q,⟨o,k _ _ (.inl O) e⟩,st⟩
theorem lJ.lt(x:lJ P w H h)(e:H a=Z o):a<h.objs.size:=(x a o e).lt
theorem lJ.fresh(x:lJ P w H h)(e:h.objs.size<=a):H a=Y:=by
 cases q:H a with
 |none=>rfl
 |some u=>exact absurd (nL1 (x.lt q) e) (aA _)
theorem lJ.kept(x:lJ P w H h)(k:∀b u,h.get? b=Z u->h'.get? b=Z u):lJ P w H h':=λa o e=>
 (x a o e).stay (λb u _ q=>k b u q) (λ_ q=>q) λ_ _ q=>q
theorem lJ.laid(x:lJ P w H h)(k:∀b u,h.get? b=Z u->h'.get? b=Z u)(hp:h.objs.size<=a)(new:e9 P w (upd H a o) h' a o):lJ P w (upd H a o) h':=λb u e=>by
 have f:=x.fresh hp;by_cases d:b=a
 ·subst d;rw[eA]at e;cases e;exact new
 ·rw[eo d]at e;exact(x b u e).stay (λc v _ q=>k c v q) (λc q=>by rw[eo (eI q f)];exact q) λc xs q=>by rw[eo (eI q f)];exact q
end
def Rd(H:Hp)(a:dB)(u:HO):Prop:=H a=Z u \/ ∃o,H a=Z (.frz o u)
theorem Rd.of{H:Hp}{a:dB}{u:HO}(h:H a=Z u):Rd H a u:=.inl h
theorem Rd.ok{P:dD}{w:dF}{H:Hp}{h:dM}{a:dB}{u:HO}(r:Rd H a u)(x:lJ P w H h):e9 P w H h a u:=by
 rcases r with r|⟨o,r⟩
 ·exact x a u r
 ·obtain⟨_,q⟩:=x a _ r;exact q
def Ll:Option HO->Prop
 |some (.lst _)=>True
 |some (.dK _)=>True
 |some (.dT _)=>True
 |some (.set _ _)=>True
 |some (.ins _ _ _)=>True
 |some (.ext _)=>True
 |_=>False
section
variable{P:dD}{w:dF}{H:Hp}{h h':dM}{x e:dB}{o':HO}
theorem lJ.write(ok:lJ P w H h)(mu:Ll (H x))(he:e=x\/H e=Z (.own x))(k:∀ b u,b≠e->h.get? b=Z u->h'.get? b=Z u)(i:∃ u,h'.get? e=Z u)(new:e9 P w (upd H x o') h' x o'):lJ P w (upd H x o') h':=λb u q=>by
 have d:∀c y,H c=Z (.own y)->c≠x:=λc y r z=>by subst z;rw[r]at mu;exact mu
 have f:∀c xs,H c=Z (.tup xs)->c≠x:=λc xs r z=>by subst z;rw[r]at mu;exact mu
 by_cases g:b=x
 ·subst g;rw[eA]at q;cases q;exact new
 ·rw[eo g]at q;by_cases a:b=e
  ·have j:H b=some (.own x):=by
    rcases he with z|z
    ·exact absurd (a.trans z) g
    ·rw[a];exact z
   rw[q]at j;cases j;obtain⟨v,l⟩:=i;exact⟨v,by rw[a];exact l⟩
  ·refine(ok b u q).stay (λc v hc r=>k c v ?_ r) (λc r=>by rw[eo (d c b r)];exact r) λc xs r=>by rw[eo (f c xs r)];exact r
   rcases hc with rfl|hc
   ·exact a
   ·rintro rfl;rcases he with z|z
    ·exact d c b hc z
    ·rw[hc]at z;cases z;exact g O
end
structure Un (fs ex:List dB)(H H':Hp)(h h':dM):Prop where
 keep:∀b o,h.get? b=some o->H b=none->b∉fs->b∉ex->h'.get? b=some o
 slot:∀b o,h.get? b=some o->H b=none->b∈fs->b∉ex -> ∃sl,h'.get? b=some {o with slots:=sl}
 free:∀b o,h.get? b=some o->H b=none->b∉ex->H' b=none
 there:∀b o,h.get? b=some o->b∉ex -> ∃o',h'.get? b=some o'
 tups:∀b xs,H b=some (.tup xs)->H' b=some (.tup xs)
 frzs:∀b o u,H b=some (.frz o u)->H' b=some (.frz o u)
 tbls:∀b ps,H b=some (.tbl ps) -> ∃more,H' b=some (.tbl (ps++more))
section
variable{fs fs' ex ex':List dB}{H H1 H2:Hp}{h h1 h2 h':dM}{a x e:dB}{o:HO}
theorem Un.any(u:Un fs ex H H1 h h1){b:dB}{a:Obj}(q:h.get? b=Z a)(n:H b=Y)(hx:b∉ex):∃d,h1.get? b=Z {a with slots:=d}:=by
 by_cases c:b∈fs
 ·exact u.slot b a q n c hx
 ·exact⟨a.slots,u.keep b a q n c hx⟩
theorem Un.trans(a:Un fs ex H H1 h h1)(b:Un fs ex H1 H2 h1 h2):Un fs ex H H2 h h2 where
 keep:=λc d q n hc e=>b.keep c d (a.keep c d q n hc e) (a.free c d q n e) hc e
 slot:=λc d q n hc e=>by
  obtain⟨j,f⟩:=a.slot c d q n hc e;obtain⟨i,g⟩:=b.slot c _ f (a.free c d q n e) hc e;exact⟨i,g⟩
 free:=λc d q n e=>by
  obtain⟨o',f⟩:=a.there c d q e;exact b.free c o' f (a.free c d q n e) e
 there:=λc d q e=>by
  obtain⟨o',f⟩:=a.there c d q e;exact b.there c o' f e
 tups:=λc xs q=>b.tups c xs (a.tups c xs q)
 frzs:=λc d xs q=>b.frzs c d xs (a.frzs c d xs q)
 tbls:=λc ps q=>by
  obtain⟨m1,f⟩:=a.tbls c ps q;obtain⟨m2,g⟩:=b.tbls c _ f;exact⟨m1++m2,by rw[g,Array.append_assoc]⟩
theorem Un.kept(k:∀b u,h.get? b=Z u->h'.get? b=Z u):Un fs ex H H h h':=
 ⟨λb a q _ _ _=>k b a q,λb a q _ _ _=>⟨a.slots,k b a q⟩,λ_ _ _ n _=>n,λb a q _=>⟨a,k b a q⟩,λ_ _ q=>q,λ_ _ _ q=>q,λ_ ps q=>⟨#[],by rw[q];simp⟩⟩
theorem Un.refl:Un fs ex H H h h:=Un.kept λ_ _ q=>q
theorem Un.laid(k:∀b u,h.get? b=Z u->h'.get? b=Z u)(hp:h.objs.size<=a)(hn:H a=Y):Un fs ex H (upd H a o) h h' where
 keep:=λb u q _ _ _=>k b u q
 slot:=λb u q _ _ _=>⟨u.slots,k b u q⟩
 free:=λb u q n _=>by rw[eo (nN1 (nL1 (hL1 q) hp))];exact n
 there:=λb u q _=>⟨u,k b u q⟩
 tups:=λb xs q=>by rw[eo (eI q hn)];exact q
 frzs:=λb u xs q=>by rw[eo (eI q hn)];exact q
 tbls:=λb ps q=>⟨#[],by rw[eo (eI q hn),q];simp⟩
theorem Un.write(mu:Ll (H x))(he:e=x\/H e=Z (.own x))(k:∀b u,b≠e->h.get? b=Z u->h'.get? b=Z u)(d:∃u,h'.get? e=Z u):Un fs ex H (upd H x o) h h':=by
 have g:∀b,H b=Y->b≠x:=λb n z=>by subst z;rw[n]at mu;exact mu
 have f:∀b,H b=Y->b≠e:=λb n z=>by
  subst z;rcases he with r|r
  ·exact g b n r
  ·rw[n]at r;cases r
 have c:∀b u,H b=Z u -> ¬ Ll (Z u)->b≠x:=λb u q nm z=>by subst z;rw[q]at mu;exact nm mu
 refine⟨λb u q n _ _=>k b u (f b n) q,λb u q n _ _=>⟨u.slots,k b u (f b n) q⟩,λb u q n _=>by rw[eo (g b n)];exact n,λb u q _=>?_,
  λb xs q=>by rw[eo (c b _ q λz=>z)];exact q,λb u xs q=>by rw[eo (c b _ q λz=>z)];exact q,λb ps q=>⟨#[],by rw[eo (c b _ q λz=>z),q];simp⟩⟩
 by_cases a:b=e
 ·subst a;exact d
 ·exact⟨u,k b u a q⟩
end
noncomputable def trk(h:dM)(H:Hp):List dB:=(af h.objs.size).filter λa=>(H a).isSome
def tU(h:dM)(H:Hp):dM:=PySem.W.hideAll h (trk h H)
theorem Am(h:dM)(H:Hp):(tU h H).objs.size=h.objs.size:=PySem.W.hideAll_size _ _
theorem Dg{h:dM}{H:Hp}{b:dB}{o:Obj}(e:h.get? b=Z o)(n:H b=Y):(tU h H).get? b=Z o:=
 PySem.W.hideAll_get _ e λa=>by
  have q:(H b).isSome=M:=(aB.mp a).2;rw[n]at q;simp at q
theorem FX{h:dM}{H:Hp}{b:dB}{o:Obj}(e:(tU h H).get? b=Z o):h.get? b=Z o/\H b=Y:=by
 have a:h.get? b=Z o:=PySem.W.of_hideAll (trk h H) e;refine⟨a,?_⟩;cases q:H b with
 |none=>rfl
 |some x=>
  have c:b∈trk h H:=aB.mpr ⟨aC.mpr (hL1 a),by simp[q]⟩;have z:(tU h H).get? b=Y:=PySem.W.hideAll_none (trk h H) c;rw[z]at e;cases e
noncomputable def Hk(g h:dM)(L:dB):List (dB×Obj):=(af h.objs.size).filterMap λa=>if a=L\/(g.get? a).isSome=M then Y else(h.get? a).map λo=>(a,o)
def rest(g h:dM)(L d:dB):List (dB×Obj):=(Hk g h L).filter λp=>decide (p.1≠d)
structure Mod (K:Fg1)(mg:Str->Option dz)(base:dM):Prop where
 kin:K.In base
 glob:base.Ns dG mg
 blt:∃mb,base.Ns builtinsNs mb /\ ∀x:Str,x≠"__name__"->mb x=Qg x
 nolimit:base.NoLimit
structure Cx where
 prog:dD
 w:dF
 K:Fg1
 mg:Str->Option dz
 base:dM
 A:dE
 N:List Str
 s₀:dA
 H₀:Hp
 env:Env
 outer:List Env
 stack:List Env
 ex:List dB
 fn:Str->Bool
 calm:Bool
 pn:List (dB×Obj)
 xe:dz->dA->Prop
noncomputable def frs(l:List Env):List dB:=l.filterMap (·.frame)
abbrev Cx.fs(X:Cx):List dB:=frs X.outer
def Vis(sc:dQ)(x:Str):Prop:=sc.names.lookup x=Z .local\/sc.names.lookup x=Z .cell\/sc.names.lookup x=Z .free
def v9(sc:dQ)(x:Str):Prop:=sc.names.lookup x=Z .local\/sc.names.lookup x=Z .cell
def OK(env:Env)(h:dM)(m:Str->Option dz)(x:Str)(u:dz):Prop:=
 (env.kindOf x=Z .local/\m x=Z u)\/((env.kindOf x=Z .cell\/env.kindOf x=Z .free) /\ ∃c,env.cells.lookup x=Z c/\h.IsCell c (Z u))
structure Cx.Ok (X:Cx):Prop where
 mod:Mod X.K X.mg X.base
 kind:X.env.scope.kind = .function
 glob:X.env.globals=dG
 blt:X.env.builtins=builtinsNs
 above:X.s₀.heap.objs.size<=X.env.locals
 inj:∀x y c,X.env.cells.lookup x=some c->X.env.cells.lookup y=some c->x=y
 has:∀x,(X.env.kindOf x=some .cell\/X.env.kindOf x=some .free) -> ∃c,X.env.cells.lookup x=some c
 cab:∀x c,X.fn x=true->X.env.cells.lookup x=some c->X.s₀.heap.objs.size<=c
 hd:X.calm=true->X.A.handled=none
 frames:X.A.frames=some X.stack
 stk:X.stack=X.outer\/(X.stack=X.env::X.outer/\X.env.frame=some X.env.locals)
 exf:∀b∈X.ex,b≠X.env.locals /\ ∀x c,X.env.cells.lookup x=some c->c≠b
 bs:∀b o,X.base.get? b=some o->X.s₀.heap.get? b=some o/\X.H₀ b=none
 bsz:X.base.objs.size<=X.s₀.heap.objs.size
 noex:∀b o,X.base.get? b=some o->b∉X.ex
 exfs:∀b∈X.ex,b∉X.fs
 funs:X.s₀.heap.FunFrames X.base X.outer
 frf:∀b∈X.fs,X.H₀ b=none
structure Inv (X:Cx)(ag:List (dB×Obj))(σ:List (Option V))(H:Hp)(s:dA):Prop where
 ok:X.Ok
 os:s.os=X.s₀.os
 bare:Qh s.gens
 base:Un X.fs X.ex X.H₀ H X.s₀.heap s.heap
 loc:∃m,s.heap.Ns X.env.locals m /\ ∀(i:Nat) (x:Str) (v:V),X.N[i]?=some x->σ[i]?=some (some v)->Vis X.env.scope x -> ∃u,eg v u/\OK X.env s.heap m x u
 cell:∀x c,X.env.cells.lookup x=some c -> ∃v,s.heap.IsCell c v
 free:H X.env.locals=none
 freeC:∀x c,X.env.cells.lookup x=some c->H c=none
 pin:∀p∈X.pn++ag,s.heap.get? p.1=some p.2/\H p.1=none/\p.1≠X.env.locals/\p.1∉X.fs /\ ∀v,p.2.data ≠ .cell v
 hok:lJ X.prog X.w H s.heap
 len:σ.length=X.N.length
variable{X:Cx}
section
variable{ag:List (dB×Obj)}{σ:List (Option V)}{H H':Hp}{s:dA}{h':dM}
theorem Cx.Ok.nofr(ok:X.Ok){b:dB}{o:Obj}(e:X.base.get? b=Z o):b∉X.fs:=λa=>by
 have:=(ok.funs.mem a).1;rw[e]at this;cases this
theorem Inv.bs(I:Inv X ag σ H s):∀b o,X.base.get? b=Z o->s.heap.get? b=Z o/\H b=Y:=λb o e=>
 ⟨I.base.keep b o (I.ok.bs b o e).1 (I.ok.bs b o e).2 (I.ok.nofr e) (I.ok.noex b o e),I.base.free b o (I.ok.bs b o e).1 (I.ok.bs b o e).2 (I.ok.noex b o e)⟩
theorem Inv.bk(I:Inv X ag σ H s):∀b o,X.base.get? b=Z o->s.heap.get? b=Z o:=λb o e=>(I.bs b o e).1
theorem Inv.mod(I:Inv X ag σ H s):Mod X.K X.mg X.base:=I.ok.mod
theorem Inv.kIn(I:Inv X ag σ H s):X.K.In s.heap:=I.ok.mod.kin.keeps I.bk
theorem Inv.lt(I:Inv X ag σ H s):X.env.locals<s.heap.objs.size:=let ⟨_,hn,_⟩:=I.loc;hn.lt
theorem Inv.sz(I:Inv X ag σ H s):X.s₀.heap.objs.size<=s.heap.objs.size:=aD I.ok.above (Nat.le_of_lt I.lt)
theorem Inv.nofs(I:Inv X ag σ H s){a:dB}(h:s.heap.objs.size<=a):a∉X.fs:=λc=>by
 obtain⟨_,o,b,_⟩:=I.ok.funs.mem c;exact absurd (nL1 (hL1 b) (aD I.sz h)) (aA _)
theorem Inv.cne(I:Inv X ag σ H s):∀x c,X.env.cells.lookup x=Z c->c≠X.env.locals:=λx c e z=>by
 obtain⟨v,o,d,f⟩:=I.cell x c e;obtain⟨m,⟨o',es,ep,b,a,_⟩,_⟩:=I.loc;rw[z,b]at d;cases d;rw[a]at f;cases f
theorem Inv.funs(I:Inv X ag σ H s):s.heap.FunFrames X.base X.outer:=by
 have all:∀(l:List Env),(∀b∈frs l,b∈X.fs)->X.s₀.heap.FunFrames X.base l->s.heap.FunFrames X.base l:=by
  intro l
  induction l with
  |nil=>intro _ _;trivial
  |cons i r ih=>
   intro f g;obtain⟨k,⟨L,o,a,h,n,m⟩,j⟩:=g;have d:L∈X.fs:=f L (by unfold frs;rw[aE,a];exact mS1);obtain⟨p,e⟩:=I.base.slot L o n (I.ok.frf L d) d λz=>I.ok.exfs L z d;exact⟨k,⟨L,_,a,h,e,m⟩,ih (λb c=>f b (by unfold frs;rw[aE,a];exact mC1 _ c)) j⟩
 exact all X.outer (λ_ c=>c) I.ok.funs
theorem Inv.stack(I:Inv X ag σ H s):s.heap.FunFrames X.base X.stack:=by
 rcases I.ok.stk with e|⟨e,a⟩
 ·rw[e];exact I.funs
 ·rw[e];obtain⟨m,b,_⟩:=I.loc;refine .cons (by rw[I.ok.kind];decide) a b ?_ I.funs;exact Qi (aD I.ok.bsz I.ok.above)
theorem Inv.stkSub(I:Inv X ag σ H s):∀b∈frs X.stack,b∈X.env.locals::X.fs:=λb a=>by
 rcases I.ok.stk with e|⟨e,c⟩
 ·rw[e]at a;exact mC1 _ a
 ·rw[e]at a;unfold frs at a;rw[aE,c]at a;exact a
theorem Inv.stkFree(I:Inv X ag σ H s):∀b∈frs X.stack,H b=Y:=λb a=>by
 rcases aF.mp (I.stkSub b a)with e|a
 ·rw[e];exact I.free
 ·obtain⟨_,o,c,_⟩:=I.ok.funs.mem a;exact I.base.free b o c (I.ok.frf b a) λz=>I.ok.exfs b z a
theorem Inv.step{g':Array GenState}{t':Nat}{d':Drawn}{ch:List dB}(I:Inv X ag σ H s)(g:∀b∈ch,(b∈X.ex\/X.s₀.heap.objs.size<=b)/\b≠X.env.locals/\(∀x c,X.env.cells.lookup x=some c->c≠b) /\ ∀p∈X.pn++ag,p.1≠b)(keep:∀b o,b≠X.env.locals->b∉X.fs->b∉ch->s.heap.get? b=some o->H b=none->h'.get? b=some o)(slot:∀b o,b≠X.env.locals->b∈X.fs->b∉ch->s.heap.get? b=some o->H b=none -> ∃ao,h'.get? b=some {o with slots:=ao})(free:∀b o,b∉ch->s.heap.get? b=some o->H b=none->H' b=none)(w:∀b o,b∉ch->s.heap.get? b=some o -> ∃o',h'.get? b=some o')(E:∀b xs,H b=some (.tup xs)->H' b=some (.tup xs))(B:∀b o u,H b=some (.frz o u)->H' b=some (.frz o u))(F:∀b ps,H b=some (.tbl ps) -> ∃more,H' b=some (.tbl (ps++more)))(ns:∀m,s.heap.Ns X.env.locals m->h'.Ns X.env.locals m)(L:lJ X.prog X.w H' h')(hg:Qh g'):
  Inv X ag σ H' {s with heap:=h',gens:=g',Qj:=d',toks:=t'}:=by
 have C:∀b o,X.s₀.heap.get? b=Z o->b≠X.env.locals:=λb o e=>nN1 (nL1 (hL1 e) I.ok.above);have j:∀b o,X.s₀.heap.get? b=Z o->b∉X.ex->b∉ch:=λb o e a y=>by
  rcases(g b y).1 with z|z
  ·exact a z
  ·exact absurd (nL1 (hL1 e) z) (aA _)
 have f:∀x c,X.env.cells.lookup x=Z c -> ∀v,s.heap.IsCell c v->h'.IsCell c v:=λx c e v ⟨o,A,G⟩=>by
  have h:c∉ch:=λz=>(g c z).2.2.1 x c e O;by_cases hc:c∈X.fs
  ·obtain⟨ao,q⟩:=slot c o (I.cne x c e) hc h A (I.freeC x c e);exact⟨_,q,G⟩
  ·exact⟨o,keep c o (I.cne x c e) hc h A (I.freeC x c e),G⟩
 refine⟨I.ok,I.os,hg,⟨λb o e n y a=>?_,λb o e n y a=>?_,λb o e n a=>?_,λb o e a=>?_,λb xs e=>E b xs (I.base.tups b xs e),λb o xs e=>B b o xs (I.base.frzs b o xs e),λb ps e=>?_⟩,?_,λx c e=>?_,?_,λx c e=>?_,λp aq=>?_,L,I.len⟩
 ·exact keep b o (C b o e) y (j b o e a) (I.base.keep b o e n y a) (I.base.free b o e n a)
 ·obtain⟨ao,t⟩:=I.base.slot b o e n y a;obtain⟨K,D⟩:=slot b _ (C b o e) y (j b o e a) t (I.base.free b o e n a);exact⟨K,D⟩
 ·obtain⟨o',t⟩:=I.base.there b o e a;exact free b o' (j b o e a) t (I.base.free b o e n a)
 ·obtain⟨o',t⟩:=I.base.there b o e a;exact w b o' (j b o e a) t
 ·obtain⟨m1,t⟩:=I.base.tbls b ps e;obtain⟨m2,D⟩:=F b _ t;exact⟨m1++m2,by rw[D,Array.append_assoc]⟩
 ·obtain⟨m,av,Q⟩:=I.loc;refine⟨m,ns m av,λi x v t D P=>?_⟩;obtain⟨u,r,l⟩:=Q i x v t D P;refine⟨u,r,?_⟩;rcases l with l|⟨k,c,e,z⟩
  ·exact .inl l
  ·exact .inr ⟨k,c,e,f x c e _ z⟩
 ·obtain⟨v,z⟩:=I.cell x c e;exact⟨v,f x c e v z⟩
 ·obtain⟨m,⟨o,_,_,A,_⟩,_⟩:=I.loc;exact free _ o (λz=>(g _ z).2.1 O) A I.free
 ·obtain⟨v,o,A,G⟩:=I.cell x c e;exact free c o (λz=>(g c z).2.2.1 x c e O) A (I.freeC x c e)
 ·obtain⟨e,n,ne,N,d⟩:=I.pin p aq;have h:p.1∉ch:=λz=>(g p.1 z).2.2.2 p aq O;exact⟨keep p.1 p.2 ne N h e n,free p.1 p.2 h e n,ne,N,d⟩
theorem Inv.un{t':Nat}(I:Inv X ag σ H s)(u:Un X.fs [] H H' s.heap h')(f:lJ X.prog X.w H' h'):Inv X ag σ H' {s with heap:=h',toks:=t'}:=by
 obtain⟨m,⟨o,es,ep,h,r⟩,_⟩:=id I.loc;obtain⟨l,k⟩:=u.any h I.free (by simp);exact I.step (g':=s.gens) (d':=s.drawn) (ch:=[]) (λ_ z=>nomatch z) (λb o _ c _ e n=>u.keep b o e n c (by simp)) (λb o _ c _ e n=>u.slot b o e n c (by simp)) (λb o _ e n=>u.free b o e n (by simp)) (λb o _ e=>u.there b o e (by simp)) u.tups u.frzs u.tbls (λp i=>by
  obtain⟨o',d,g,a,j⟩:=i;rw[h]at a;cases a;exact⟨_,d,g,k,j⟩) f I.bare
theorem Inv.call{g':Array GenState}{t':Nat}{d':Drawn}{ch:List dB}(I:Inv X ag σ H s)(u:Un (frs X.stack) ch H H' s.heap h')(g:lJ X.prog X.w H' h')(hg:Qh g')(a:∀b∈ch,(b∈X.ex\/X.s₀.heap.objs.size<=b)/\b≠X.env.locals/\(∀x c,X.env.cells.lookup x=some c->c≠b) /\ ∀p∈X.pn++ag,p.1≠b):
  Inv X ag σ H' {s with heap:=h',gens:=g',Qj:=d',toks:=t'}:=by
 obtain⟨m,⟨o,es,ep,j,r⟩,_⟩:=id I.loc;obtain⟨t,h⟩:=u.any j I.free λz=>(a _ z).2.1 O;exact I.step (ch:=ch) a (λb o h k hc e n=>u.keep b o e n (λz=>(aF.mp (I.stkSub b z)).elim h k) hc) (λb o _ _ hc e n=>u.any e n hc) (λb o hc e n=>u.free b o e n hc) (λb o hc e=>u.there b o e hc) u.tups u.frzs u.tbls (λv l=>by
  obtain⟨o',f,i,d,q⟩:=l;rw[j]at d;cases d;exact⟨_,f,i,h,q⟩) g hg
theorem Inv.turned{t':Nat}{it:dB}(I:Inv X ag σ H s)(k:∀ b o,b≠it->s.heap.get? b=Z o->h'.get? b=Z o)(hn:H it=Y)(d:it≠X.env.locals)(h1:it∈X.ex\/X.s₀.heap.objs.size<=it)(h2:∀x c,X.env.cells.lookup x=Z c->c≠it)(h:∀p∈X.pn++ag,p.1≠it):Inv X ag σ H {s with heap:=h',toks:=t'}:=by
 have a:∀b u,H b=Z u->b≠it:=λb u e z=>by rw[z,hn]at e;cases e
 refine I.step (g':=s.gens) (d':=s.drawn) (ch:=[it]) (λb f=>?_) (λb o _ _ hc e _=>k b o (λz=>hc (by simp[z])) e) (λb o _ _ hc e _=>⟨o.slots,k b o (λz=>hc (by simp[z])) e⟩) (λ_ _ _ _ n=>n)
  (λb o hc e=>⟨o,k b o (λz=>hc (by simp[z])) e⟩) (λ_ _ e=>e) (λ_ _ _ e=>e) (λb ps e=>⟨#[],by rw[e];simp⟩) (λm g=>?_) (λb u e=>?_) I.bare
 ·have e:b=it:=by simpa using f
  subst e;exact⟨h1,d,h2,h⟩
 ·obtain⟨o,es,ep,i,r⟩:=g;exact⟨o,es,ep,k _ o (Qk d) i,r⟩
 ·refine(I.hok b u e).stay (λc v hc q=>k c v ?_ q) (λ_ q=>q) λ_ _ q=>q;rcases hc with z|z
  ·rw[z];exact a b u e
  ·exact a c _ z
theorem Inv.tok(I:Inv X ag σ H s)(t:Nat):Inv X ag σ H {s with toks:=t}:=I.un (h':=s.heap) (t':=t) Un.refl I.hok
theorem Inv.kept{t':Nat}(I:Inv X ag σ H s)(k:∀b u,s.heap.get? b=Z u->h'.get? b=Z u):Inv X ag σ H {s with heap:=h',toks:=t'}:=I.un (Un.kept k) (I.hok.kept k)
theorem Inv.laid{a:dB}{o:HO}{t':Nat}(I:Inv X ag σ H s)(k:∀ b u,s.heap.get? b=some u->h'.get? b=some u)(hp:s.heap.objs.size<=a)(new:e9 X.prog X.w (upd H a o) h' a o):
  Inv X ag σ (upd H a o) {s with heap:=h',toks:=t'}:=I.un (Un.laid k hp (I.hok.fresh hp)) (I.hok.laid k hp new)
theorem Inv.write{x e:dB}{o:HO}{t':Nat}(I:Inv X ag σ H s)(mu:Ll (H x))(he:e=x\/H e=Z (.own x))(k:∀ b u,b≠e->s.heap.get? b=Z u->h'.get? b=Z u)(a:∃ u,h'.get? e=Z u)(new:e9 X.prog X.w (upd H x o) h' x o):Inv X ag σ (upd H x o) {s with heap:=h',toks:=t'}:=I.un (Un.write mu he k a) (I.hok.write mu he k a new)
theorem Inv.pins_of{a:List (dB×Obj)}(I:Inv X ag σ H s)(h:∀p∈a,s.heap.get? p.1=Z p.2/\H p.1=Y/\p.1≠X.env.locals/\p.1∉X.fs /\ ∀v,p.2.data ≠ .cell v):Inv X a σ H s:=
 ⟨I.ok,I.os,I.bare,I.base,I.loc,I.cell,I.free,I.freeC,λp b=>(aG.mp b).elim (λz=>I.pin p (aH _ z)) (h p),I.hok,I.len⟩
theorem uZ{N:List Str}(hN:N.Nodup){i j:Nat}{x:Str}(a:N[i]?=Z x)(b:N[j]?=Z x):i=j:=by
 obtain⟨h1,c⟩:=Tg a;obtain⟨h2,d⟩:=Tg b;exact(aI hN).mp (c.trans d.symm)
theorem zv{aq:Model}{A:dE}{E:dz->dA->Prop}{i:Nat}{x:Str}{v:V}{u:dz}{Q:Unit->dA->Prop}(I:Inv X ag σ H s)(hN:X.N.Nodup)(hi:X.N[i]? = Z x)(hx:v9 X.env.scope x)(r:eg v u)(h:∀s',Inv X ag (σ.set i (Z v)) H s'->(∃a,Ql a s.heap s'.heap/\(a=X.env.locals\/X.env.cells.lookup x=Z a))->Q () s')(hf:autoParam (X.fn x=M\/X.env.scope.names.lookup x=Z .local) au0):dJ aq A (storeName X.env x u) Q E s:=by
 obtain⟨m,R,hl⟩:=id I.loc;have K:(X.env.scope.kind == .class||(X.env.scope.kind == .module&&X.env.locals != X.env.globals))=J:=by rw[I.ok.kind];rfl
 have w:i<σ.length:=by rw[I.len];exact(Tg hi).1
 have cne:=I.cne;have tracked:∀{a:dB} {h':dM},(∃o,s.heap.get? a=Z o/\H a=Y)->Ql a s.heap h'->lJ X.prog X.w H h':=λ{a h'} ha f b ob e=>by
  obtain⟨_,_,l⟩:=ha;refine(I.hok b ob e).stay (λc av hc q=>(f.2 c ?_).trans q) (λ_ q=>q) λ_ _ q=>q;rintro rfl;rcases hc with rfl|hc
  ·rw[l]at e;cases e
  ·rw[l]at hc;cases hc
 rcases hx with B|B
 ·refine wpAny_storeName_local B R (λh' hn' f=>?_) K;obtain⟨oL,_,_,U,_⟩:=id R;refine h _ ⟨I.ok,I.os,I.bare,⟨λb o e n F hx=>?_,λb o e n F hx=>?_,I.base.free,λb o e hx=>?_,I.base.tups,I.base.frzs,I.base.tbls⟩,⟨_,hn',λj y W g t S=>?_⟩,λy c e=>?_,I.free,I.freeC,λp au=>?_,tracked ⟨oL,U,I.free⟩ f,by simpa using I.len⟩ ⟨_,f,.inl O⟩
  ·exact(f.2 b (nN1 (nL1 (hL1 e) I.ok.above))).trans (I.base.keep b o e n F hx)
  ·obtain⟨wq,g⟩:=I.base.slot b o e n F hx;exact⟨wq,(f.2 b (nN1 (nL1 (hL1 e) I.ok.above))).trans g⟩
  ·obtain⟨o',g⟩:=I.base.there b o e hx;exact⟨o',(f.2 b (nN1 (nL1 (hL1 e) I.ok.above))).trans g⟩
  ·by_cases D:j=i
   ·subst D;rw[hi]at g;cases g;rw[aJ w]at t;cases t;exact⟨u,r,.inl ⟨B,by simp⟩⟩
   ·rw[gS1 (Qk D)]at t;obtain⟨u',T,q⟩:=hl j y W g t S;refine⟨u',T,?_⟩;rcases q with⟨k,e⟩|⟨k,c,e,z⟩
    ·refine .inl ⟨k,?_⟩;have:y≠x:=λe=>D (uZ hN g (e ▸ hi));simp[this,e]
    ·exact .inr ⟨k,c,e,z.sameBut f (cne y c e)⟩
  ·obtain⟨av,z⟩:=I.cell y c e;exact⟨av,z.sameBut f (cne y c e)⟩
  ·obtain⟨e,n,ne,nf,d⟩:=I.pin p au;exact⟨(f.2 p.1 ne).trans e,n,ne,nf,d⟩
 ·have C:X.fn x=true:=by
   rcases hf with z|z
   ·exact z
   ·rw[z]at B;cases B
  obtain⟨c,hc⟩:=I.ok.has x (.inl B);obtain⟨av,z⟩:=I.cell x c hc;refine wpAny_storeName_cell I.ok.kind B hc z (λh' L f=>?_);obtain⟨oc,ao,G⟩:=id z;refine h {s with heap:=h'} ⟨I.ok,I.os,I.bare,⟨λb o e n F hx=>?_,λb o e n F hx=>?_,I.base.free,λb o e hx=>?_,I.base.tups,I.base.frzs,I.base.tbls⟩,⟨m,R.sameBut f (Qk (cne x c hc)),λj y W g t S=>?_⟩,λy P e=>?_,I.free,I.freeC,λp au=>?_,tracked ⟨oc,ao,I.freeC x c hc⟩ f,by simpa using I.len⟩ ⟨c,f,.inr hc⟩
  ·exact(f.2 b (nN1 (nL1 (hL1 e) (I.ok.cab x c C hc)))).trans (I.base.keep b o e n F hx)
  ·obtain⟨wq,g⟩:=I.base.slot b o e n F hx;exact⟨wq,(f.2 b (nN1 (nL1 (hL1 e) (I.ok.cab x c C hc)))).trans g⟩
  ·obtain⟨o',g⟩:=I.base.there b o e hx;exact⟨o',(f.2 b (nN1 (nL1 (hL1 e) (I.ok.cab x c C hc)))).trans g⟩
  ·by_cases D:j=i
   ·subst D;rw[hi]at g;cases g;rw[aJ w]at t;cases t;exact⟨u,r,.inr ⟨.inl B,c,hc,L⟩⟩
   ·rw[gS1 (Qk D)]at t;obtain⟨u',T,q⟩:=hl j y W g t S;refine⟨u',T,?_⟩;rcases q with q|⟨k,P,e,z'⟩
    ·exact .inl q
    ·refine .inr ⟨k,P,e,z'.sameBut f ?_⟩;rintro rfl;exact D (uZ hN g (I.ok.inj _ _ _ e hc ▸ hi))
  ·by_cases N:P=c
   ·subst N;exact⟨_,L⟩
   ·obtain⟨w2,z2⟩:=I.cell y P e;exact⟨w2,z2.sameBut f N⟩
  ·obtain⟨e,n,ne,nf,d⟩:=I.pin p au;refine⟨(f.2 p.1 ?_).trans e,n,ne,nf,d⟩;intro q;rw[q,ao]at e;have q':oc=p.2:=Option.some.inj e;exact d av (by rw[<- q'];exact G)
theorem jN{aq:Model}{A:dE}{E:dz->dA->Prop}{i:Nat}{x:Str}{v:V}{u:dz}{Q:Unit->dA->Prop}(I:Inv X ag σ H s)(hN:X.N.Nodup)(hi:X.N[i]? = Z x)(hx:v9 X.env.scope x)(r:eg v u)(h:∀s',Inv X ag (σ.set i (Z v)) H s'->Q () s')(hf:autoParam (X.fn x=M\/X.env.scope.names.lookup x=Z .local) au0):dJ aq A (storeName X.env x u) Q E s:=
 zv I hN hi hx r (λs' a _=>h s' a) hf
theorem Inv.call'{s':dA}{ch:List dB}(I:Inv X ag σ H s)(ho:s'.os=s.os)(u:Un (frs X.stack) ch H H' s.heap s'.heap)(d:lJ X.prog X.w H' s'.heap)(hg:Qh s'.gens)(a:∀b∈ch,(b∈X.ex\/X.s₀.heap.objs.size<=b)/\b≠X.env.locals/\(∀x c,X.env.cells.lookup x=Z c->c≠b) /\ ∀p∈X.pn++ag,p.1≠b):Inv X ag σ H' s':=by
 obtain⟨h',g,f,h,o'⟩:=s';have e:o'=s.os:=ho;subst e;exact I.call (g':=g) (t':=h) (d':=f) u d hg a
end
abbrev XK:=dz->Option dB->Hp->Prop
abbrev St:=List (Option V)
abbrev VK:=V->Hp->Prop
abbrev TE:=St->Hp->VK->Prop
abbrev TT:=St->Hp->(Bool->Hp->Prop)->Prop
abbrev TA:=St->Hp->(List V->Hp->Prop)->Prop
structure jK where
 nx:St->Hp->Prop
 rt:VK
 bk:St->Hp->Prop:=λ_ _=>False
 ct:St->Hp->Prop:=λ_ _=>False
abbrev TS:=jK->St->Hp->Prop
def EP(X:Cx)(ag:List (dB×Obj))(σ:St)(Q:VK)(u:dz)(s':dA):Prop:=∃v H',Inv X ag σ H' s'/\eg v u/\Q v H'
def TP(X:Cx)(ag:List (dB×Obj))(σ:St)(Q:Bool->Hp->Prop)(b:Bool)(s':dA):Prop:=∃H',Inv X ag σ H' s'/\Q b H'
def AP(X:Cx)(ag:List (dB×Obj))(σ:St)(Q:List V->Hp->Prop)(us:List dz)(s':dA):Prop:=∃vs H',Inv X ag σ H' s'/\ez vs us/\Q vs H'
def SP(X:Cx)(ag:List (dB×Obj))(D:jK)(f:Flow)(s':dA):Prop:=
 match f with
 | .next=>∃ σ' H',Inv X ag σ' H' s'/\D.nx σ' H'
 | .brk=>∃ σ' H',Inv X ag σ' H' s'/\D.bk σ' H'
 | .cont=>∃ σ' H',Inv X ag σ' H' s'/\D.ct σ' H'
 | .ret u=>∃v σ' H',Inv X ag σ' H' s'/\eg v u/\D.rt v H'
def PE(X:Cx)(e:Expr)(t:TE):Prop:=
 ∀(ag:List (dB×Obj)) (s:dA) (σ:St) (H:Hp) (Q:VK),Inv X ag σ H s->t σ H Q->dJ (Qm X.prog X.w) X.A (eval e X.env) (EP X ag σ Q) X.xe s
def PT(X:Cx)(e:Expr)(t:TT):Prop:=
 ∀(ag:List (dB×Obj)) (s:dA) (σ:St) (H:Hp) (Q:Bool->Hp->Prop),Inv X ag σ H s->t σ H Q->dJ (Qm X.prog X.w) X.A (isTrue e X.env (eval e X.env)) (TP X ag σ Q) X.xe s
def PW(X:Cx)(e:Expr)(t:TT):Prop:=
 ∀(whole:Sem dz) (ag:List (dB×Obj)) (s:dA) (σ:St) (H:Hp) (Q:Bool->Hp->Prop),Inv X ag σ H s->t σ H Q->dJ (Qm X.prog X.w) X.A (isTrue e X.env whole) (TP X ag σ Q) X.xe s
theorem PW.pt{X:Cx}{e:Expr}{t:TT}(h:PW X e t):PT X e t:=h _
def PA(X:Cx)(es:List Expr)(t:TA):Prop:=
 ∀(pos:Pos) (ag:List (dB×Obj)) (s:dA) (σ:St) (H:Hp) (Q:List V->Hp->Prop),Inv X ag σ H s->t σ H Q->dJ (Qm X.prog X.w) X.A (spliced (Qn pos (dH es X.env))) (AP X ag σ Q) X.xe s
def PS(X:Cx)(st:dP)(t:TS):Prop:=
 ∀(ag:List (dB×Obj)) (s:dA) (σ:St) (H:Hp) (D:jK),Inv X ag σ H s->t D σ H->dJ (Qm X.prog X.w) X.A (exec st X.env) (SP X ag D) X.xe s
def wd(X:Cx)(st:List dP)(t:TS):Prop:=
 ∀(ag:List (dB×Obj)) (s:dA) (σ:St) (H:Hp) (D:jK),Inv X ag σ H s->t D σ H->dJ (Qm X.prog X.w) X.A (execs st X.env) (SP X ag D) X.xe s
theorem fx{α:Type}{t:Sem α}{Q b:α->dA->Prop}{aq:Model}{A:dE}{E:dz->dA->Prop}{s:dA}(h:dJ aq A t Q E s)(c:∀a s,Q a s->b a s):dJ aq A t b E s:=Qo h c λ_ _ x=>x
section
theorem P3{a b:Expr}{ta tb:TE}(ha:PE X a ta)(hb:PE X b tb){ag:List (dB×Obj)}{s:dA}{σ:St}{H:Hp}{R:V->V->Hp->Prop}(I:Inv X ag σ H s)(h:ta σ H fun x H1=>tb σ H1 fun y H2=>R x y H2){α:Type}{Q:α->dA->Prop}{f:dz->dz->Sem α}(hf:∀v u e x y H2,Inv X ag σ H2 e->eg x v->eg y u->R x y H2->dJ (Qm X.prog X.w) X.A (f v u) Q X.xe e):
  dJ (Qm X.prog X.w) X.A (eval a X.env) (λv d=>dJ (Qm X.prog X.w) X.A (eval b X.env) (λu c=>dJ (Qm X.prog X.w) X.A (f v u) Q X.xe c) X.xe d) X.xe s:=by
 refine fx (ha ag s σ H _ I h) λv j ⟨x,H1,i,k,m⟩=>?_;refine fx (hb ag j σ H1 _ i m) λu e ⟨y,H2,g,r2,l⟩=>?_;exact hf v u e x y H2 g k r2 l
noncomputable def NK(i:Nat):TE:=fun σ H Q=>∃v,σ[i]?=Z (Z v)/\Q v H
noncomputable def tC(v:V):TE:=λ_ H Q=>Q v H
theorem Jc {i:Nat}{x:Str}{pos:Pos}(hN:X.N[i]?=Z x)(hv:Vis X.env.scope x)(hd:autoParam ((x == ("__debug__":Str))=J) bu0)(hcd:autoParam ((x == ("__classdict__":Str))=J) bu0):PE X (.Name x pos) (NK i):=by
 intro ag s σ H Q I h;obtain⟨v,e,h⟩:=h;obtain⟨m,g,f⟩:=I.loc;obtain⟨u,r,l⟩:=f i x v hN e hv;have b:EP X ag σ Q u s:=⟨v,H,I,r,h⟩;rcases l with⟨d,j⟩|⟨d,c,hc,a⟩
 ·exact Qp (Qq I.ok.kind d g j b) hd
 ·rcases d with d|d
  ·exact Qp (wpAny_loadName_cell I.ok.kind d hc a b) hd
  ·exact Qp (wpAny_loadName_free I.ok.kind d hc a b hcd) hd
theorem Jj{i j pos}:PE X (.Constant (.int i) j pos) (tC (.int i)):=λ_ _ _ H _ I h=>wpAny_Constant_int ⟨.int i,H,I.tok _,⟨_,O⟩,h⟩
theorem Ma{b j pos}:PE X (.Constant (.bool b) j pos) (tC (.bl b)):=λ_ _ _ H _ I h=>Constant_bool ⟨.bl b,H,I,O,h⟩
theorem Jh{j pos}:PE X (.Constant .none j pos) (tC .non):=λ_ _ _ H _ I h=>Constant_none ⟨.non,H,I,O,h⟩
theorem Je{x j pos}:PE X (.Constant (.str x) j pos) (tC (.str x)):=λ_ _ _ H _ I h=>Calls.Constant_str ⟨.str x,H,I.tok _,⟨_,O⟩,h⟩
def Gl(X:Cx)(x:Str):Prop:=X.env.kindOf x=Z .globalImplicit
theorem yw {E:dz->dA->Prop}{ag:List (dB×Obj)}{s:dA}{σ:St}{H:Hp}{x:Str}{u:dz}{pos:Pos}{Q:dz->dA->Prop}(I:Inv X ag σ H s)(hg:Gl X x)(hm:X.mg x=some u)(h:Q u s)
  (hd:autoParam ((x == ("__debug__":Str))=J) bu0):dJ (Qm X.prog X.w) X.A (eval (.Name x pos) X.env) Q E s:=
 Calls.Name_function_global I.ok.kind hg (Calls.loadGlobal_global (by rw[I.ok.glob];exact I.mod.glob.keeps I.bk) hm h) hd
theorem j2 {E:dz->dA->Prop}{ag:List (dB×Obj)}{s:dA}{σ:St}{H:Hp}{x:Str}{u:dz}{pos:Pos}{Q:dz->dA->Prop}(I:Inv X ag σ H s)(hg:Gl X x)(hm:X.mg x=none)(hv:Qg x=some u)(h:Q u s)
  (hn:autoParam (x≠"__name__") bu0) (hd:autoParam ((x == ("__debug__":Str))=J) bu0):dJ (Qm X.prog X.w) X.A (eval (.Name x pos) X.env) Q E s:=by
 obtain⟨a,h1,h2⟩:=I.mod.blt;exact Calls.Name_function_global I.ok.kind hg (Calls.loadGlobal_builtin (by rw[I.ok.glob];exact I.mod.glob.keeps I.bk) hm (by rw[I.ok.blt];exact h1.keeps I.bk) ((h2 x hn).trans hv) h) hd
theorem FF {x:Str}{v:V}{u:dz}{pos:Pos}(hg:Gl X x)(hm:X.mg x=Z u)(r:eg v u)(hd:autoParam ((x == ("__debug__":Str))=J) bu0):PE X (.Name x pos) (tC v):=
 λ_ _ _ H _ I h=>yw I hg hm ⟨v,H,I,r,h⟩ hd
theorem FM {x:Str}{v:V}{u:dz}{pos:Pos}(hg:Gl X x)(hm:X.mg x=Y)(hv:Qg x=Z u)(r:eg v u)(hn:autoParam (x≠"__name__") bu0)(hd:autoParam ((x == ("__debug__":Str))=J) bu0):PE X (.Name x pos) (tC v):=
 λ_ _ _ H _ I h=>j2 I hg hm hv ⟨v,H,I,r,h⟩ hn hd
variable{a b:Expr}{ta tb:TE}{pos:Pos}
noncomputable def tB(t:TE):TT:=fun σ H Q=>t σ H λx H1=>∃c,x = .bl c/\Q c H1
variable{tA tB':TT}{rest:List Expr}
noncomputable def NY(t u:TT):TT:=fun σ H Q=>t σ H λc H1=>if c=M then u σ H1 Q else Q J H1
noncomputable def Pb(t u:TT):TT:=fun σ H Q=>t σ H λc H1=>if c=M then Q M H1 else u σ H1 Q
noncomputable def NP(t:TT):TT:=fun σ H Q=>t σ H λc H1=>Q (!c) H1
theorem Fn(ha:PT X a tA):PW X (.BoolOp .And [a] pos) tA:=by
 intro d ag s σ H Q I h;refine isTrue_and (fx (ha ag s σ H Q I h) λc b e=>?_);cases c with
 |true=>exact isTrue_and_nil e
 |false=>exact e
theorem IR(ha:PT X a tA):PW X (.BoolOp .Or [a] pos) tA:=by
 intro d ag s σ H Q I h;refine isTrue_or (fx (ha ag s σ H Q I h) λc b e=>?_);cases c with
 |false=>exact isTrue_or_nil e
 |true=>exact e
theorem IS(ha:PT X a tA)(hb:PW X (.BoolOp .And (b::rest) pos) tB'):PW X (.BoolOp .And (a::b::rest) pos) (NY tA tB'):=by
 intro g ag s σ H Q I h;refine isTrue_and (fx (ha ag s σ H _ I h) λc f ⟨H1,d,e⟩=>?_);cases c with
 |true=>exact hb g ag f σ H1 Q d e
 |false=>exact⟨H1,d,e⟩
theorem L1(ha:PT X a tA)(hb:PW X (.BoolOp .Or (b::rest) pos) tB'):PW X (.BoolOp .Or (a::b::rest) pos) (Pb tA tB'):=by
 intro g ag s σ H Q I h;refine isTrue_or (fx (ha ag s σ H _ I h) λc f ⟨H1,d,e⟩=>?_);cases c with
 |true=>exact⟨H1,d,e⟩
 |false=>exact hb g ag f σ H1 Q d e
theorem IU(ha:PT X a tA):PT X (.UnaryOp .Not a pos) (NP tA):=by
 intro ag s σ H Q I h;exact isTrue_not (ha ag s σ H (λc H1=>Q (!c) H1) I h)
noncomputable def LO(ta tb:TE):TE:=fun σ H Q=>ta σ H λx H1=>∃c,x = .bl c/\if c=M then tb σ H1 Q else Q (.bl J) H1
noncomputable def LH(ta:TE):TE:=fun σ H Q=>ta σ H λx H1=>∃c,x = .bl c/\Q (.bl (!c)) H1
theorem Jf{op}{t:TE}(h:PE X a t):PE X (.BoolOp op [a] pos) t:=λag s σ H Q I b=>BoolOp_one (h ag s σ H Q I b)
theorem Jm(ha:PE X a ta)(hb:PE X (.BoolOp .And (b::rest) pos) tb):PE X (.BoolOp .And (a::b::rest) pos) (LO ta tb):=by
 intro ag s σ H Q I h;refine BoolOp_and (fx (ha ag s σ H _ I h) λv f ⟨x,H1,e,g,d⟩=>?_);obtain⟨c,rfl,d⟩:=d;cases g;refine Qr ?_;cases c with
 |true=>exact hb ag f σ H1 Q e d
 |false=>exact⟨.bl J,H1,e,O,d⟩
theorem Jg(ha:PE X a ta):PE X (.UnaryOp .Not a pos) (LH ta):=by
 intro ag s σ H Q I h;refine UnaryOp_ (fx (ha ag s σ H _ I h) λv f ⟨x,H1,e,d,b⟩=>?_);obtain⟨c,rfl,b⟩:=b;cases d;exact not_of (Qr ⟨.bl (!c),H1,e,O,b⟩)
noncomputable def Pd(t:TT)(ta tb:TE):TE:=fun σ H Q=>t σ H λc H1=>if c=M then ta σ H1 Q else tb σ H1 Q
theorem Cd{c:Expr}(hc:PT X c tA)(ha:PE X a ta)(hb:PE X b tb):PE X (.IfExp c a b pos) (Pd tA ta tb):=by
 intro ag s σ H Q I h;refine wpAny_IfExp (fx (hc ag s σ H _ I h) λd e ⟨H1,f,g⟩=>?_);cases d with
 |true=>exact ha ag e σ H1 Q f g
 |false=>exact hb ag e σ H1 Q f g
end
def nq(K:Fg1)(H:Hp)(a:dB)(xs:List V):Prop:=
 Rd H a (.lst xs) \/
  ∃(o:Obj) (its:Array dz) (n:Nat),K.lookup a=Z o/\o.cls = .type "list"/\o.dict=Y/\o.data = .seq its n/\its.size<=dI/\ez xs its.toList
def kS(K:Fg1)(H:Hp)(a:dB)(xs:List V):Prop:=
 Rd H a (.tup xs) \/
  ∃(o:Obj) (its:Array dz) (n:Nat),K.lookup a=Z o/\o.cls = .type "tuple"/\o.dict=Y/\o.data = .seq its n/\its.size<=dI/\ez xs its.toList
noncomputable def OB:dz->Option V
 | .none=>Z .non
 | .bool b=>Z (.bl b)
 | .int i _=>Z (.int i)
 | .str x _=>Z (.str x)
 | .bytes b _=>Z (.byt b)
 | .float b _=>Z (.flt b)
 | .ref a=>Z (.ref a)
 | .type n=>Z (.ty n)
 |_=>Y
theorem eg.abs{x:V}{u:dz}(r:eg x u):OB u=Z x:=by
 cases x with
 |non=>cases r;rfl
 |bl _=>cases r;rfl
 |int _=>obtain⟨t,rfl⟩:=r;rfl
 |str _=>obtain⟨t,rfl⟩:=r;rfl
 |byt _=>obtain⟨t,rfl⟩:=r;rfl
 |flt _=>obtain⟨t,rfl⟩:=r;rfl
 |ref _=>cases r;rfl
 |ty _=>cases r;rfl
theorem eg.inj{x y:V}{u:dz}(r:eg x u)(q:eg y u):x=y:=Option.some.inj (r.abs.symm.trans q.abs)
theorem ez.inj:∀{xs ys:List V} {a:List dz},ez xs a->ez ys a->xs=ys:=by
 intro xs ys a h g
 induction h generalizing ys with
 |nil=>cases g;rfl
 |cons r t ih=>cases g with
  |cons b c=>rw[r.inj b,ih c]
section
variable{ag:List (dB×Obj)}{σ:St}{H:Hp}{s:dA}{a:dB}{xs ys:List V}
theorem nq.of{K:Fg1}(h:H a=Z (.lst xs)):nq K H a xs:=.inl (.inl h)
theorem kS.of{K:Fg1}(h:H a=Z (.tup xs)):kS K H a xs:=.inl (.inl h)
theorem Inv.list(I:Inv X ag σ H s)(h:nq X.K H a xs):∃b:List dz,ez xs b/\PlainL s.heap a b.toArray/\xs.length<=dI:=by
 rcases h with h|⟨o,b,n,c,hc,d,f,g,r⟩
 ·obtain⟨z,b,n,r,e⟩:=h.ok I.hok;exact⟨b,r,⟨_,n,e,O,O,O⟩,z⟩
 ·refine⟨b.toList,r,⟨o,n,I.kIn a o c,hc,d,by simpa using f⟩,?_⟩;have e:=r.length;simp only[aK]at e;lia
theorem Inv.tuple(I:Inv X ag σ H s)(h:kS X.K H a xs):∃b:List dz,ez xs b/\Qd s.heap a b.toArray/\xs.length<=dI:=by
 rcases h with h|⟨o,b,n,d,hc,_,c,f,r⟩
 ·obtain⟨z,b,r,p⟩:=h.ok I.hok;exact⟨b,r,p.tup,z⟩
 ·refine⟨b.toList,r,⟨o,I.kIn a o d,hc,n,by simpa using c⟩,?_⟩;have e:=r.length;simp only[aK]at e;lia
theorem Inv.tupN(I:Inv X ag σ H s)(h:kS X.K H a xs):∃b:List dz,ez xs b/\mP s.heap a b.toArray/\xs.length<=dI:=by
 rcases h with h|⟨o,b,n,c,hc,d,f,g,r⟩
 ·obtain⟨z,b,r,p⟩:=h.ok I.hok;exact⟨b,r,p,z⟩
 ·refine⟨b.toList,r,⟨o,I.kIn a o c,hc,n,by simpa using f,d⟩,?_⟩;have e:=r.length;simp only[aK]at e;lia
theorem Inv.list_inj(I:Inv X ag σ H s)(h:nq X.K H a xs)(h':nq X.K H a ys):xs=ys:=by
 obtain⟨b,r,⟨o,n,e,_,_,d⟩,_⟩:=I.list h;obtain⟨its',i,⟨o',j,f,_,_,c⟩,_⟩:=I.list h';rw[e]at f;cases f;rw[d]at c;injection c with g _;have:b=its':=by simpa using congrArg Array.toList g
 subst this;exact r.inj i
theorem Inv.tuple_inj(I:Inv X ag σ H s)(h:kS X.K H a xs)(h':kS X.K H a ys):xs=ys:=by
 obtain⟨b,r,⟨o,e,_,n,d⟩,_⟩:=I.tuple h;obtain⟨its',i,⟨o',f,_,j,c⟩,_⟩:=I.tuple h';rw[e]at f;cases f;rw[d]at c;injection c with g _;have:b=its':=by simpa using congrArg Array.toList g
 subst this;exact r.inj i
end
abbrev Cx.wish(X:Cx)(E:dz->dA->Prop):Cx:={X with xe:=E}
abbrev Cx.nox(X:Cx):Cx:=X.wish λ_ _=>False
theorem Cx.Ok.wish{X:Cx}(ok:X.Ok)(E:dz->dA->Prop):(X.wish E).Ok:=
 ⟨ok.mod,ok.kind,ok.glob,ok.blt,ok.above,ok.inj,ok.has,ok.cab,ok.hd,ok.frames,ok.stk,ok.exf,ok.bs,ok.bsz,ok.noex,ok.exfs,ok.funs,ok.frf⟩
theorem Cx.Ok.unwish{X:Cx}{E:dz->dA->Prop}(ok:(X.wish E).Ok):X.Ok:=
 ⟨ok.mod,ok.kind,ok.glob,ok.blt,ok.above,ok.inj,ok.has,ok.cab,ok.hd,ok.frames,ok.stk,ok.exf,ok.bs,ok.bsz,ok.noex,ok.exfs,ok.funs,ok.frf⟩
section
variable{ag:List (dB×Obj)}{σ:St}{H:Hp}{s:dA}{E:dz->dA->Prop}
theorem Inv.wish(I:Inv X ag σ H s)(E:dz->dA->Prop):Inv (X.wish E) ag σ H s:=⟨I.ok.wish E,I.os,I.bare,I.base,I.loc,I.cell,I.free,I.freeC,I.pin,I.hok,I.len⟩
theorem Inv.unwish(I:Inv (X.wish E) ag σ H s):Inv X ag σ H s:=⟨I.ok.unwish,I.os,I.bare,I.base,I.loc,I.cell,I.free,I.freeC,I.pin,I.hok,I.len⟩
theorem SP.unwish{D:jK}{f:Flow}{s':dA}(h:SP (X.wish E) ag D f s'):SP X ag D f s':=by
 cases f with
 |next=>obtain⟨a,H',I,q⟩:=h;exact⟨a,H',I.unwish,q⟩
 |brk=>obtain⟨a,H',I,q⟩:=h;exact⟨a,H',I.unwish,q⟩
 |cont=>obtain⟨a,H',I,q⟩:=h;exact⟨a,H',I.unwish,q⟩
 |ret u=>obtain⟨v,a,H',I,r,q⟩:=h;exact⟨v,a,H',I.unwish,r,q⟩
theorem wd.nox{st:List dP}{t:TS}(h:wd X.nox st t):wd X st t:=λag s σ H D I a=>
 Qo (h ag s σ H D (I.wish _) a) (λ_ _ q=>q.unwish) λ_ _ z=>Qs z
end
section
variable{st:dP}{rest:List dP}{t u:TS}{e:Expr}{te:TE}{pos:Pos}
noncomputable def LI:TS:=λD σ H=>D.nx σ H
noncomputable def NM(t u:TS):TS:=λD σ H=>t {D with nx:=u D} σ H
theorem Fs:wd X [] LI:=λ_ _ σ H _ I h=>Qt ⟨σ,H,I,h⟩
theorem B0(h1:PS X st t)(h2:wd X rest u):wd X (st::rest) (NM t u):=by
 intro ag s σ H D I h;refine wpAny_execs_cons (fx (h1 ag s σ H {D with nx:=u D} I h) λf b q=>?_);cases f with
 |next=>
  obtain⟨a,H',c,q⟩:=q;exact h2 ag b a H' D c q
 |ret v=>exact q
 |brk=>exact q
 |cont=>exact q
theorem Fq(h1:PS X st t):wd X [st] t:=by
 intro ag s σ H D I h;refine wpAny_execs_cons (fx (h1 ag s σ H D I h) λf a q=>?_);cases f with
 |next=>exact Qt q
 |ret v=>exact q
 |brk=>exact q
 |cont=>exact q
theorem Inv.quiet{ag:List (dB×Obj)}{σ:St}{H:Hp}{s:dA}(I:Inv X ag σ H s):interactive X.env=J:=by simp[interactive,I.ok.kind]
noncomputable def LL(te:TE):TS:=λD σ H=>te σ H λ_ H1=>D.nx σ H1
theorem Ft(he:PE X e te)(hs:autoParam (Qu e Y pos.line X.env=pure J) cu0):PS X (.Expr e pos) (LL te):=by
 intro ag s σ H D I h;exact wpAny_Expr_any (fx (he ag s σ H _ I h) λv c ⟨x,H1,a,d,b⟩=>⟨σ,H1,a,b⟩) I.quiet hs
noncomputable def NN(te:TE):TS:=λD σ H=>te σ H D.rt
theorem IW(he:PE X e te):PS X (.Return (Z e) pos) (NN te):=by
 intro ag s σ H D I h;exact wpAny_Return_some (fx (he ag s σ H _ I h) λv d ⟨x,H1,b,a,c⟩=>⟨x,σ,H1,b,a,c⟩)
noncomputable def NU(c:TT)(t u:TS):TS:=λD σ H=>c σ H λb H1=>if b=M then t D σ H1 else u D σ H1
theorem L5{c:Expr}{a b:List dP}{tc:TT}(hc:PT X c tc)(ha:wd X a t)(hb:wd X b u):PS X (.If c a b pos) (NU tc t u):=by
 intro ag s σ H D I h;refine wpAny_If (fx (hc ag s σ H _ I h) λd e ⟨H1,f,g⟩=>?_);cases d with
 |true=>exact ha ag e σ H1 D f g
 |false=>exact hb ag e σ H1 D f g
end
abbrev TG:=V->St->Hp->(St->Hp->Prop)->Prop
abbrev H0:=List V->St->Hp->(St->Hp->Prop)->Prop
def PG(X:Cx)(target:Expr)(t:TG):Prop:=
 ∀(ag:List (dB×Obj)) (s:dA) (σ:St) (H:Hp) (v:V) (u:dz) (Q:St->Hp->Prop),Inv X ag σ H s->eg v u->t v σ H Q ->
  dJ (Qm X.prog X.w) X.A (Qv target X.env u) (λ_ s'=>∃ σ' H',Inv X ag σ' H' s'/\Q σ' H') X.xe s
def Li(X:Cx)(ts:List Expr)(t:H0):Prop:=
 ∀(ag:List (dB×Obj)) (s:dA) (σ:St) (H:Hp) (vs:List V) (us:List dz) (Q:St->Hp->Prop),Inv X ag σ H s->ez vs us->t vs σ H Q ->
  dJ (Qm X.prog X.w) X.A (assignInOrder ((Qw ts X.env).map (·.2)) us) (λ_ s'=>∃ σ' H',Inv X ag σ' H' s'/\Q σ' H') X.xe s
abbrev Lf:=V->V->V->Hp->(Hp->Prop)->Prop
def xr(X:Cx)(t:Lf):Prop:=
 ∀(ag:List (dB×Obj)) (s:dA) (σ:St) (H:Hp) (o i v:V) (ov iv u:dz) (Q:Hp->Prop),Inv X ag σ H s->eg o ov->eg i iv->eg v u->t o i v H Q ->
  dJ (Qm X.prog X.w) X.A (setItem ov iv u) (λ_ s'=>∃H',Inv X ag σ H' s'/\Q H') X.xe s
abbrev OI:=V->V->Hp->VK->Prop
def NF(X:Cx)(op:Qx)(t:OI):Prop:=
 ∀(ag:List (dB×Obj)) (s:dA) (σ:St) (H:Hp) (x y:V) (v u:dz) (Q:VK),Inv X ag σ H s->eg x v->eg y u->t x y H Q ->
  dJ (Qm X.prog X.w) X.A (inplaceOp op v u) (EP X ag σ Q) X.xe s
section
variable{pos:Pos}
noncomputable def yI(i:Nat):TG:=λv σ H Q=>Q (σ.set i (Z v)) H
theorem yb{i:Nat}{x:Str}(hN:X.N.Nodup)(hi:X.N[i]?=Z x)(hx:v9 X.env.scope x)(hf:autoParam (X.fn x=M\/X.env.scope.names.lookup x=Z .local) au0):PG X (.Name x pos) (yI i):=by
 intro ag s σ H v u Q I r h;exact wpAny_assign_Name (jN I hN hi hx r (λs' a=>⟨_,H,a,h⟩) hf)
noncomputable def On:H0:=λvs σ H Q=>vs=[]/\Q σ H
noncomputable def MH(t:TG)(u:H0):H0:=λvs σ H Q=>∃v r,vs=v::r/\t v σ H fun σ' H'=>u r σ' H' Q
theorem FD:Li X [] On:=by
 intro ag s σ H vs a Q I r h;obtain⟨e,h⟩:=h;subst e;cases r;exact assignInOrder_nil ⟨σ,H,I,h⟩
theorem Ca{e:Expr}{es:List Expr}{t:TG}{u:H0}(h1:PG X e t)(h2:Li X es u)(hs:autoParam ((Qw (e::es) X.env).map (·.2)=Qv e X.env::(Qw es X.env).map (·.2)) cu0):Li X (e::es) (MH t u):=by
 intro ag s σ H vs j Q I r h;obtain⟨v,i,b,h⟩:=h;subst b;cases r with
 |cons r f=>
  rw[hs];refine assignInOrder_cons (fx (h1 ag s σ H _ _ _ I r h) λ_ d ⟨a,H1,c,g⟩=>?_);exact h2 ag d a H1 _ _ Q c f g
noncomputable def gTup(K:Fg1)(n:Nat)(t:H0):TG:=λv σ H Q=>∃a xs,v = .ref a/\kS K H a xs/\xs.length=n/\t xs σ H Q
theorem Ja{es:List Expr}{k:Nat}{t:H0}{n:Nat}(hc:X.calm=M)(h:Li X es t)(hn:autoParam ((Qw es X.env).length=n) cu0)(hst:autoParam ((Qw es X.env).findIdx? (·.1)=Y) cu0):PG X (.Tuple es k pos) (gTup X.K n t):=by
 intro ag s σ H v u Q I r c;obtain⟨a,xs,f,j,i,c⟩:=c;subst f;cases r;obtain⟨l,d,m,q⟩:=I.tuple j;refine assign_Tuple_tuple (I.ok.hd hc) m (by simp[hn,<- i,d.length]) hst λh' p=>?_;have g:Inv X ag σ H {s with heap:=h'}:=I.kept (t':=s.toks) λb o e=>p b o (nN1 (hL1 e)) e;exact h ag _ σ H xs _ Q g (by simpa using d) c
noncomputable def gSub(to ti:TE)(t:Lf):TG:=λv σ H Q=>to σ H λo H1=>ti σ H1 λi H2=>t o i v H2 λH3=>Q σ H3
theorem Jb{o i:Expr}{to c:TE}{t:Lf}(ho:PE X o to)(hi:PE X i c)(hs:xr X t)(ha:autoParam (∀v,Qv (.Subscript o i pos) X.env v=(do
   let a<-Qy [v] (eval o X.env)
   let b<-Qy [v,a] (eval i X.env)
   Qz pos
   Qy [v,a,b] (setItem a b v)
   release [v,a,b] [])) du0):PG X (.Subscript o i pos) (gSub to c t):=by
 intro ag s σ H v u Q I r h;rw[ha];refine wB1 (QA (fx (ho ag s σ H _ I h) λa f ⟨x,H1,e,g,k⟩=>?_));refine wB1 (QA (fx (hi ag f σ H1 _ e k) λb n ⟨y,H2,d,r2,l⟩=>?_));refine wB1 (QB (wB1 (QA (fx (hs ag n σ H2 x y v a b u _ d g r2 r l) λ_ q ⟨p,j,m⟩=>?_))));exact wpAny_release ⟨σ,p,j,m⟩
noncomputable def Bt(te:TE)(g:TG):TS:=λD σ H=>te σ H λx H1=>g x σ H1 D.nx
theorem I1{tg e:Expr}{te:TE}{g:TG}(he:PE X e te)(hg:PG X tg g)(hs:autoParam (QC [tg] e pos.line X.env=pure J) cu0)(hw:autoParam (QD [tg] e X.env=pure Y) cu0)(h1:autoParam ((Qw [tg] X.env).map (·.2)=[Qv tg X.env]) cu0):PS X (.Assign [tg] e pos) (Bt te g):=by
 intro ag s σ H D I h;refine wpAny_Assign_stores (fx (he ag s σ H _ I h) λv b ⟨x,H1,a,c,d⟩=>?_) hs hw;rw[h1];exact fx (hg ag b σ H1 x v _ a c d) λ_ f q=>q
theorem IV{i:Nat}{x:Str}{e:Expr}{te:TE}{pos':Pos}(hN:X.N.Nodup)(hi:X.N[i]? = some x)(hx:v9 X.env.scope x)(he:PE X e te)(hs:autoParam (Qu e (some (.Name x pos')) pos.line X.env=pure false) cu0)(hf:autoParam (X.fn x=true\/X.env.scope.names.lookup x=some .local) au0):
  PS X (.Assign [.Name x pos'] e pos) (Bt te (yI i)):=by
 intro ag s σ H D I h;refine wpAny_Assign_Name (fx (he ag s σ H _ I h) λv f ⟨y,H1,b,c,d⟩=>?_) hs;exact jN b hN hi hx c (λg a=>⟨_,H1,a,d⟩) hf
noncomputable def NO(i j:Nat)(ta:TA):TS:=λD σ H=>ta σ H λvs H1=>∃v w,vs=[v,w]/\D.nx ((σ.set i (Z v)).set j (Z w)) H1
theorem IX{i j:Nat}{x y:Str}{a b:Expr}{ta:TA}{n g pt:Pos}{kt k2 pt2}(hc:X.calm=true)(hN:X.N.Nodup)(hi:X.N[i]? = some x)(F:X.N[j]? = some y)(m:i≠j)(hx:X.env.scope.names.lookup x=some .local)(hy:X.env.scope.names.lookup y=some .local)(ha:PA X [a,b] ta)(hw:QD [.Tuple [.Name x n,.Name y g] kt pt] (.Tuple [a,b] k2 pt2) X.env=pure (some [x,y]))(hs:autoParam (QC [.Tuple [.Name x n,.Name y g] kt pt] (.Tuple [a,b] k2 pt2) pos.line X.env=pure false) cu0):
  PS X (.Assign [.Tuple [.Name x n,.Name y g] kt pt] (.Tuple [a,b] k2 pt2) pos) (NO i j ta):=by
 intro ag s σ H D I h;rw[exec_Assign_arm];refine wB1 (QB ?_);rw[hs];refine wB1 (wP1 ?_);rw[aj (by decide)];refine wB1 (Tuple_ (fx (ha _ ag s σ H _ I h) λz d ⟨vs,H1,E,A,l⟩=>?_));obtain⟨v,w,ao,l⟩:=l;subst ao;obtain⟨c,u2,rfl,K,k⟩:∃c u2,z=[c,u2]/\eg v c/\eg w u2:=by
  cases A with
  |cons p q=>
   cases q with
   |cons C t=>
    cases t;exact⟨_,_,O,p,C⟩
 refine wO1 ?_ (by show 2<=dI;decide);have u:Inv X ag σ H1 {d with heap:=d.heap.push {cls:=.type "tuple",data:=.seq [c,u2].toArray}}:=E.kept (t':=d.toks) λb o e=>hP1 _ e;rw[hw];refine wB1 (wP1 ?_);show dJ (Qm X.prog X.w) X.A (do rule "assign.swapped-stores";let items<-unpackItems (.ref d.heap.objs.size) 2 Y;assignInOrder [λv=>bindName X.env y v,λv=>bindName X.env x v] items.reverse;pure Flow.next) _ _ _;refine wB1 (QE (wB1 (unpackItems_tuple (items:= #[c,u2]) (I.ok.hd hc) (IsTup.new d.heap _) λh' f=>?_)));have B:=u.kept (h':=h') (t':=d.toks) λb o e=>f b o (nN1 (hL1 e)) e;show dJ _ _ (assignInOrder [λv=>bindName X.env y v,λv=>bindName X.env x v] [u2,c] >>= λ_=>pure Flow.next) _ _ _;refine wB1 (assignInOrder_cons (wpAny_bindName (jN B hN F (.inl hy) k (λaq G=>?_) (.inr hy))));refine assignInOrder_cons (wpAny_bindName (jN G hN hi (.inl hx) K (λL r=>assignInOrder_nil (wP1 ?_)) (.inr hx)));rw[List.set_comm _ _ (Qk m)]at r;exact⟨_,H1,r,l⟩
noncomputable def NX(i:Nat)(te:TE)(ti:OI):TS:=λD σ H=>∃x,σ[i]?=Z (Z x)/\te σ H λy H1=>ti x y H1 λz H2=>D.nx (σ.set i (Z z)) H2
theorem I0{i:Nat}{x:Str}{e:Expr}{te:TE}{op:Qx}{n:OI}{pos':Pos}(hN:X.N.Nodup)(hi:X.N[i]? = some x)(hx:v9 X.env.scope x)(he:PE X e te)(ho:NF X op n)(hf:autoParam (X.fn x=true\/X.env.scope.names.lookup x=some .local) au0):
  PS X (.AugAssign (.Name x pos') op e pos) (NX i te n):=by
 intro ag s σ H D I h;obtain⟨v,F,h⟩:=h;obtain⟨m,o,C⟩:=I.loc;have g:Vis X.env.scope x:=by rcases hx with k|k;exact .inl k;exact .inr (.inl k)
 obtain⟨u,r,l⟩:=C i x v hi F g;refine wpAny_AugAssign_Name ?_;have j:dJ (Qm X.prog X.w) X.A (eval e X.env) (λw f=>dJ (Qm X.prog X.w) X.A (inplaceOp op u w) (λr d=>dJ (Qm X.prog X.w) X.A (storeName X.env x r) (λ_=>SP X ag D .next) X.xe d) X.xe f) X.xe s:=by
  refine fx (he ag s σ H _ I h) λw G ⟨y,H1,B,t,E⟩=>?_;refine fx (ho ag G σ H1 v y u w _ B r t E) λz aq ⟨K,H2,q,r2,ao⟩=>?_;exact jN q hN hi hx r2 (λL A=>⟨_,H2,A,ao⟩) hf
 rcases l with⟨a,p⟩|⟨a,c,hc,b⟩
 ·exact Qq I.ok.kind a o p j
 ·rcases a with a|a
  ·exact wpAny_loadName_cell I.ok.kind a hc b j
  ·rcases hx with k|k
   ·have:X.env.scope.names.lookup x=Z .free:=a;rw[k]at this;cases this
   ·have:X.env.scope.names.lookup x=Z .free:=a;rw[k]at this;cases this
noncomputable def Bm(c:TT)(tb:TS):TS:=λD σ H=>∃W:Nat->St->Hp->Prop,(∃m,W m σ H) /\ ∀m σ H,W m σ H ->
 c σ H λb H1=>if b=M then∃N:St->Hp->Prop,(∀ σ' H',N σ' H' -> ∃m',m'<m/\W m' σ' H')/\tb {D with nx:=N,ct:=N,bk:=D.nx} σ H1 else D.nx σ H1
theorem B1{c:Expr}{e:List dP}{tc:TT}{tb:TS}(hp:QF (Qm X.prog X.w) X.A X.env X.xe)(hc:PT X c tc)(hb:wd X e tb):PS X (.While c e [] pos) (Bm tc tb):=by
 intro ag s σ H D I h;obtain⟨W,⟨A,w⟩,j⟩:=h;refine wpAny_While (codeAny_whileLoop (λn s'=>∃g H',Inv X ag g H' s'/\W n g H') ?_ A ⟨σ,H,I,w⟩);rintro n B ⟨d,H1,x,y⟩;refine QG hp (fx (hc ag B d H1 _ x (j n d H1 y)) λb z ⟨H2,t,l⟩=>?_);cases b with
 |true=>
  obtain⟨N,u,l⟩:=l;rw[ak O];refine QG hp (fx (hb ag z d H2 _ t l) λf C k=>?_);cases f with
  |next=>
   obtain⟨a,i,p,r⟩:=k;obtain⟨o,m,q⟩:=u a i r;exact⟨o,m,a,i,p,q⟩
  |cont=>
   obtain⟨a,i,p,r⟩:=k;obtain⟨o,m,q⟩:=u a i r;exact⟨o,m,a,i,p,q⟩
  |brk=>exact k
  |ret v=>exact k
 |false=>
  rw[aj aL];exact Qt ⟨d,H2,t,l⟩
end
structure It where
 go:Nat->Hp->Prop
 yld:Nat->Hp->V->Hp->Prop
 stop:Nat->Hp->Prop
def kX(X:Cx)(ag:List (dB×Obj))(H:Hp)(b:dB):Prop:=
 H b=Y/\b≠X.env.locals/\b∉X.fs/\(b∈X.ex\/X.s₀.heap.objs.size<=b)/\(∀x c,X.env.cells.lookup x=Z c->c≠b) /\ ∀p∈X.pn++ag,p.1≠b
theorem Inv.fpOk{X:Cx}{ag:List (dB×Obj)}{σ:St}{H H':Hp}{s:dA}{b:dB}(I:Inv X ag σ H s)(hb:s.heap.objs.size<=b)(hn:H' b=Y):kX X ag H' b:=by
 refine⟨hn,nG1 (nL1 I.lt hb),I.nofs hb,.inr (aD I.sz hb),λx c e z=>?_,λp a z=>?_⟩
 ·obtain⟨v,q⟩:=I.cell x c e;exact absurd (nL1 q.lt (by rw[z];exact hb)) (aA _)
 ·exact absurd (nL1 (hL1 (I.pin p a).1) (by rw[z];exact hb)) (aA _)
structure xp (P:dD)(w:dF)(K:Fg1)(tg:Expr)(ao:It)(fp:List dB)(it:dB)(tn:Nat->dM->Prop):Prop where
 mem:it∈fp
 obj:∀i h,tn i h -> ∀b∈fp,∃o,h.get? b=some o /\ ∀v,o.data ≠ .cell v
 keep:∀i h h',tn i h->(∀b∈fp,∀o,h.get? b=some o->h'.get? b=some o)->tn i h'
 item:∀(X:Cx),X.prog=P->X.w=w->X.K=K->X.calm=true -> ∀(i:Nat) (ag:List (dB×Obj)) (s:dA) (σ:St) (H:Hp) (E:dz->dA->Prop),Inv X ag σ H s->(∀b∈fp,kX X ag H b)->tn i s.heap->ao.go i H ->
  dJ (Qm P w) X.A (QH (.ref it)) (λr s1=>∃u,r=some u /\
   dJ (Qm P w) X.A (QI tg (.ref it) u) (λ_ s2=>∃x H',Inv X ag σ H' s2/\eg x u/\ao.yld i H x H'/\tn (i+1) s2.heap /\ ∀b∈fp,H' b=none) E s1) E s
 done:∀(X:Cx),X.prog=P->X.w=w->X.K=K->X.calm=true -> ∀(i:Nat) (ag:List (dB×Obj)) (s:dA) (σ:St) (H:Hp) (E:dz->dA->Prop),Inv X ag σ H s->(∀b∈fp,kX X ag H b)->tn i s.heap->ao.stop i H ->
  dJ (Qm P w) X.A (QH (.ref it)) (λr s1=>r=none/\Inv X ag σ H s1) E s
 self:∀(A:dE) (i:Nat) (s:dA) (Q:dz->dA->Prop) (E:dz->dA->Prop),tn i s.heap->Q (.ref it) s->dJ (Qm P w) A (QJ (.ref it)) Q E s
abbrev TI:=St->Hp->(It->Hp->Prop)->Prop
def O3(X:Cx)(ag:List (dB×Obj))(σ:St)(tg:Expr)(R:It->Hp->Prop)(itv:dz)(s2:dA):Prop:=
 ∃(it:dB) (fp:List dB) (tn:Nat->dM->Prop) (ao:It) (H':Hp),itv = .ref it/\Inv X ag σ H' s2/\xp X.prog X.w X.K tg ao fp it tn/\tn 0 s2.heap/\(∀b∈fp,kX X ag H' b)/\R ao H'
def PI(X:Cx)(tg iter:Expr)(wi:TI):Prop:=
 ∀(ag:List (dB×Obj)) (s:dA) (σ:St) (H:Hp) (R:It->Hp->Prop),Inv X ag σ H s->wi σ H R ->
  dJ (Qm X.prog X.w) X.A (eval iter X.env) (λv s1=>dJ (Qm X.prog X.w) X.A (QJ v) (O3 X ag σ tg R) X.xe s1) X.xe s
theorem Dj {aq:Model}{A:dE}{E:dz->dA->Prop}{s:dA}{tg:Expr}{it:dB}{u:dz}{o:Obj}{n:String}{vs:Array dz}{Q:Unit->dA->Prop}(ho:s.heap.get? it=some o)(hc:o.cls = .type n)(hd:o.data = .fields vs)
   (hn:["enumerate","zip","dict_itemiterator","dict_reverseitemiterator","odict_iterator","itertools.zip_longest","itertools.pairwise"].contains n=J) (a:Q () s):dJ aq A (QI tg (.ref it) u) Q E s:=by
 unfold QI;cases tg <;> first
   |exact wP1 a
   | (cases u<;>first
       |exact wP1 a
       | (refine wB1 (wpAny_load ho ?_)
          rw[hc,hd];show dJ aq A (if(["enumerate","zip","dict_itemiterator","dict_reverseitemiterator","odict_iterator","itertools.zip_longest","itertools.pairwise"].contains n&&vs[0]? == Z (QK _))=M then _ else _) Q E s;rw[aj (by intro h;rw[hn,Bool.false_and]at h;cases h)];exact wP1 a))
noncomputable def O7(K:Fg1)(a:dB):It:=
 ⟨λi H=>∃xs x,nq K H a xs/\xs[i]?=Z x,λi H x H'=>H'=H /\ ∀xs,nq K H a xs->xs[i]?=Z x,λi H=>∃xs,nq K H a xs/\xs.length<=i⟩
noncomputable def O6(K:Fg1)(a:dB):It:=
 ⟨λi H=>∃xs x,kS K H a xs/\xs[i]?=Z x,λi H x H'=>H'=H /\ ∀xs,kS K H a xs->xs[i]?=Z x,λi H=>∃xs,kS K H a xs/\xs.length<=i⟩
noncomputable def Nm(lo:Int)(n:Nat):It:=⟨λi _=>i<n,λi H x H'=>H'=H/\x = .int (lo+i),λi _=>n<=i⟩
theorem zp{P:dD}{w:dF}{K:Fg1}{tg:Expr}(a it:dB):xp P w K tg (O7 K a) [it] it (λi h=>h.IsListIter it a i) where
 mem:=by simp
 obj:=λi h st b f=>by
  have e:b=it:=by simpa using f
  subst e;obtain⟨o,e,c,d⟩:=st;exact⟨o,e,λv z=>by rw[d]at z;cases z⟩
 keep:=λi h h' st k=>st.at λo e=>k it (by simp) o e
 item:=by
  intro X C r A hc i ag s σ H E I j st F;subst C r A;obtain⟨xs,x,g,m⟩:=F;obtain⟨l,D,p,aq⟩:=I.list g;obtain⟨u,ao,Q⟩:=D.get m;obtain⟨t,y,L,n,B,q⟩:=j it (by simp);refine QL st p.isList (x:=u) (by simpa using ao) λh' st' av=>?_;have N:Inv X ag σ H {s with heap:=h'}:=I.turned (t':=s.toks) (λb o f e=>(av.2 b f).trans e) t y n B q;obtain⟨o,e,c,d⟩:=id st';exact⟨u,O,Dj (s:={s with heap:=h'}) e c d (by decide) ⟨x,H,N,Q,⟨O,λys G=>by rw[I.list_inj G g];exact m⟩,st',λb f=>(j b f).1⟩⟩
 done:=by
  intro X C r A hc i ag s σ H E I j st F;subst C r A;obtain⟨xs,g,m⟩:=F;obtain⟨l,D,p,aq⟩:=I.list g;obtain⟨t,y,L,n,B,q⟩:=j it (by simp);have R:=D.length;exact QM (I.ok.hd hc) st p.isList (by simp;lia) λh' eb=>⟨O,I.turned (t':=s.toks) (λb o f e=>eb b o f e) t y n B q⟩
 self:=λ_ _ _ _ _ st h=>wpAny_pyIter_listiter st h
theorem wm{P:dD}{w:dF}{K:Fg1}{tg:Expr}(a it:dB):xp P w K tg (O6 K a) [it] it (λi h=>h.IsTupleIter it a i) where
 mem:=by simp
 obj:=λi h st b g=>by
  have e:b=it:=by simpa using g
  subst e;obtain⟨o,e,c,d⟩:=st;exact⟨o,e,λv z=>by rw[d]at z;cases z⟩
 keep:=λi h h' st k=>st.at λo e=>k it (by simp) o e
 item:=by
  intro X C r A hc i ag s σ H E I l st F;subst C r A;obtain⟨xs,x,j,m⟩:=F;obtain⟨f,D,p,aq⟩:=I.tuple j;obtain⟨u,ao,Q⟩:=D.get m;obtain⟨t,y,L,n,B,q⟩:=l it (by simp);refine wpAny_pyNext_tuple_item st (show s.heap.IsTuple a f.toArray from p) (x:=u) (by simpa using ao) λh' st' av=>?_;have N:Inv X ag σ H {s with heap:=h'}:=I.turned (t':=s.toks) (λb o g e=>(av.2 b g).trans e) t y n B q;obtain⟨o,e,c,d⟩:=id st';exact⟨u,O,Dj (s:={s with heap:=h'}) e c d (by decide) ⟨x,H,N,Q,⟨O,λys G=>by rw[I.tuple_inj G j];exact m⟩,st',λb g=>(l b g).1⟩⟩
 done:=by
  intro X C r A hc i ag s σ H E I l st F;subst C r A;obtain⟨xs,j,m⟩:=F;obtain⟨f,D,p,aq⟩:=I.tuple j;obtain⟨t,y,L,n,B,q⟩:=l it (by simp);have R:=D.length;exact wpAny_pyNext_tuple_end (I.ok.hd hc) st (show s.heap.IsTuple a f.toArray from p) (by simp;lia) λh' eb=>⟨O,I.turned (t':=s.toks) (λb o g e=>eb b o g e) t y n B q⟩
 self:=λ_ _ _ _ _ st h=>wpAny_pyIter_tupleiter st h
theorem wo{P:dD}{w:dF}{K:Fg1}{tg:Expr}(it:dB)(lo:Int)(n:Nat):xp P w K tg (Nm lo n) [it] it (λi h=>IsRangeIter h it (lo+(i:Nat)*1) ((n:Int)-(i:Nat)) 1) where
 mem:=by simp
 obj:=λi h st b a=>by
  have e:b=it:=by simpa using a
  subst e;exact⟨_,st,λv z=>by
   have B:Data.fields _=Data.cell v:=z;cases B⟩
 keep:=λi h h' st k=>k it (by simp) _ st
 item:=by
  intro X g l p hc i ag s σ H E I c st m;subst g l p;obtain⟨q,r,x,f,d,j⟩:=c it (by simp);have W:=Walks.range (prog:=X.prog) (w:=X.w) (I.ok.hd hc) it lo 1 n;refine W.item i s _ _ m st λv h' tk A st' y=>?_;obtain⟨t,rfl⟩:=A;have u:Inv X ag σ H {s with heap:=h',toks:=tk}:=I.turned (λb o a e=>y b o (by simpa using a) e) q r f d j;refine⟨_,O,Dj (s:={s with heap:=h',toks:=tk}) (n:="range_iterator") st' O O (by decide) ⟨.int (lo+i),H,u,⟨t,?_⟩,⟨O,O⟩,st',λb a=>(c b a).1⟩⟩;rw[Int.mul_one]
 done:=by
  intro X g l p hc i ag s σ H E I c st m;subst g l p;obtain⟨q,r,x,f,d,j⟩:=c it (by simp);exact wpAny_pyNext_range_end (I.ok.hd hc) st (by have:n<=i:=m;lia) λh' eb=>⟨O,I.turned (t':=s.toks) (λb o a e=>eb b o a e) q r f d j⟩
 self:=λ_ _ _ _ _ st h=>wpAny_pyIter_rangeiter st h
section
variable{tg:Expr}
def MC(K:Fg1)(tl:TE):TI:=fun σ H R=>tl σ H λx H1=>∃a,x = .ref a/\(∃xs,nq K H1 a xs)/\R (O7 K a) H1
def Om(K:Fg1)(tl:TE):TI:=fun σ H R=>tl σ H λx H1=>∃a,x = .ref a/\(∃xs,kS K H1 a xs)/\R (O6 K a) H1
theorem FB{l:Expr}{tl:TE}(g:PE X l tl):PI X tg l (MC X.K tl):=by
 intro ag s σ H R I h;refine fx (g ag s σ H _ I h) λv d ⟨x,H1,c,j,m⟩=>?_;obtain⟨a,e,⟨xs,i⟩,q⟩:=m;subst e;cases j;obtain⟨k,n,p,r⟩:=c.list i;refine wpAny_pyIter_list p.isList ?_;refine⟨d.heap.objs.size,[d.heap.objs.size],_,_,H1,O,c.kept (t':=d.toks) λb o e=>hP1 _ e,zp a _,⟨_,hS1 _ O,O,O⟩,λb f=>?_,q⟩;have e:b=d.heap.objs.size:=by simpa using f
 subst e;exact c.fpOk (nR1 _) (c.hok.fresh (nR1 _))
theorem I9{l:Expr}{tl:TE}(i:PE X l tl):PI X tg l (Om X.K tl):=by
 intro ag s σ H R I h;refine fx (i ag s σ H _ I h) λv c ⟨x,H1,d,k,m⟩=>?_;obtain⟨a,e,⟨xs,j⟩,q⟩:=m;subst e;cases k;obtain⟨f,n,p,r⟩:=d.tuple j;refine wpAny_pyIter_tuple (show c.heap.IsTuple a f.toArray from p) ?_;refine⟨c.heap.objs.size,[c.heap.objs.size],_,_,H1,O,d.kept (t':=c.toks) λb o e=>hP1 _ e,wm a _,⟨_,hS1 _ O,O,O⟩,λb g=>?_,q⟩;have e:b=c.heap.objs.size:=by simpa using g
 subst e;exact d.fpOk (nR1 _) (d.hok.fresh (nR1 _))
theorem uO{ag:List (dB×Obj)}{σ:St}{H:Hp}{s:dA}{R:It->Hp->Prop}{E:dz->dA->Prop}{lo hi:Int}{t u v:Tok}{tk:Nat}(I:Inv X ag σ H s)(h1: -(2^62)<=lo)(h2:lo<2^62)(h: -(2^62)<=hi)(f:hi<2^62)(q:R (Nm lo (hi-lo).toNat) H):dJ (Qm X.prog X.w) X.A (QJ (.ref s.heap.objs.size)) (O3 X ag σ tg R) E {s with heap:=s.heap.push {cls:=.type "range",data:=.fields #[.int lo t,.int hi u,.int 1 v]},toks:=tk}:=by
 refine wpAny_pyIter_range (IsRange.new ..) (small_one h1 h2 h f) ?_;have a:Inv X ag σ H {s with heap:=s.heap.push {cls:=.type "range",data:=.fields #[.int lo t,.int hi u,.int 1 v]},toks:=tk}:=I.kept λb o e=>hP1 _ e;refine⟨(s.heap.push {cls:=.type "range",data:=.fields #[.int lo t,.int hi u,.int 1 v]}).objs.size,[(s.heap.push {cls:=.type "range",data:=.fields #[.int lo t,.int hi u,.int 1 v]}).objs.size],_,_,H,O,
  a.kept (t':=tk) λb o e=>hP1 _ e,wo _ lo (hi-lo).toNat,?_,λb d=>?_,q⟩
 ·have c:lo+((0:Nat):Int)*1=lo:=by simp
  have g:(((hi-lo).toNat:Nat):Int)-((0:Nat):Int)=Builtin.Range.rangeSize lo hi 1:=by rw[rangeSize_one];split<;>lia
  show IsRangeIter _ _ (lo+((0:Nat):Int)*1) ((((hi-lo).toNat:Nat):Int)-((0:Nat):Int)) 1;rw[c,g];exact hS1 _ O
 ·have e:b=(s.heap.push {cls:=.type "range",data:=.fields #[.int lo t,.int hi u,.int 1 v]}).objs.size:=by simpa using d
  subst e;exact a.fpOk (nR1 _) (a.hok.fresh (nR1 _))
def MB(ta:TA):TI:=fun σ H R=>ta σ H λvs H1=>∃j:Int,vs=[.int j] /\ -(2^62)<=j/\j<2^62/\R (Nm 0 j.toNat) H1
def Mz(ta:TA):TI:=fun σ H R=>ta σ H λvs H1=>∃i j:Int,vs=[.int i,.int j]/\(-(2^62)<=i/\i<2^62 /\ -(2^62)<=j/\j<2^62)/\R (Nm i (j-i).toNat) H1
theorem zN {a:Expr}{ta:TA}{p pos:Pos}(hg:Gl X "range")(hm:X.mg "range"=Y)(ha:PA X [a] ta)(hs:autoParam (dH [a] X.env=[(J,eval a X.env)]) cu0):PI X tg (.Call (.Name "range" p) [a] [] pos) (MB ta):=by
 intro ag s σ H R I h;refine Call_ (j2 I hg hm boot_range (QN (fx (ha pos ag s σ H _ I h) λi k ⟨vs,H1,c,d,b⟩=>?_) hs O));obtain⟨j,e,b,f,q⟩:=b;subst e;cases d with
 |cons r g=>
  cases g;obtain⟨t,rfl⟩:=r;exact call_range_1 (uO c (by lia) (by lia) b f (by simpa using q))
theorem zM {a b:Expr}{ta:TA}{p pos:Pos}(hg:Gl X "range")(hm:X.mg "range"=none)(ha:PA X [a,b] ta)(hs:autoParam (dH [a,b] X.env=[(false,eval a X.env),(false,eval b X.env)]) cu0)(hs2:autoParam (dH [b] X.env=[(false,eval b X.env)]) cu0):
  PI X tg (.Call (.Name "range" p) [a,b] [] pos) (Mz ta):=by
 intro ag s σ H R I h;refine Call_ (j2 I hg hm boot_range (QN (fx (ha pos ag s σ H _ I h) λo u ⟨vs,H1,f,l,d⟩=>?_) (by rw[hs,hs2]) (by rw[hs2];rfl)));obtain⟨i,j,e,⟨d,m,n,g⟩,q⟩:=d;subst e;cases l with
 |cons r c=>
  cases c with
  |cons k c=>
   cases c;obtain⟨t,rfl⟩:=r;obtain⟨v,rfl⟩:=k;exact call_range_2 (uO f d m n g q)
noncomputable def LK(wi:TI)(g:TG)(tb:TS):TS:=λD σ H=>wi σ H λao H1=>∃W:Nat->Nat->St->Hp->Prop,(∃m,W 0 m σ H1) /\ ∀i m σ H,W i m σ H ->
 (ao.stop i H/\D.nx σ H)\/(ao.go i H /\ ∃N:St->Hp->Prop,(∀ σ' H',N σ' H' -> ∃m',m'<m/\W (i+1) m' σ' H') /\ ∀x H',ao.yld i H x H'->g x σ H' fun σ2 H2=>tb {D with nx:=N,ct:=N,bk:=D.nx} σ2 H2)
noncomputable def o4(fp:List dB)(h:dM):List (dB×Obj):=fp.filterMap λb=>(h.get? b).map λo=>(b,o)
theorem jx{fp:List dB}{h:dM}{b:dB}{o:Obj}(hb:b∈fp)(e:h.get? b=Z o):(b,o)∈o4 fp h:=aM.mpr ⟨b,hb,by rw[e];rfl⟩
theorem zR{fp:List dB}{h:dM}{p:dB×Obj}(hp:p∈o4 fp h):p.1∈fp/\h.get? p.1=Z p.2:=by
 obtain⟨b,c,e⟩:=aM.mp hp;cases q:h.get? b with
 |none=>rw[q]at e;cases e
 |some o=>
  rw[q]at e;have a:(b,o)=p:=Option.some.inj e;subst a;exact⟨c,q⟩
theorem Inv.pinned{ag:List (dB×Obj)}{σ:St}{H:Hp}{s:dA}{fp:List dB}(I:Inv X ag σ H s)(hf:∀b∈fp,kX X ag H b)(ho:∀b∈fp,∃o,s.heap.get? b=Z o /\ ∀v,o.data ≠ .cell v):Inv X (ag++o4 fp s.heap) σ H s:=
 I.pins_of λp g=>(aG.mp g).elim (λz=>I.pin p (mA1 _ z)) λz=>by
  obtain⟨a,e⟩:=zR z;obtain⟨h,i,f,_⟩:=hf p.1 a;obtain⟨o,c,d⟩:=ho p.1 a;rw[e]at c;cases c;exact⟨e,h,i,f,d⟩
theorem Inv.unpinned{ag pl:List (dB×Obj)}{σ:St}{H:Hp}{s:dA}(I:Inv X (ag++pl) σ H s):Inv X ag σ H s:=I.pins_of λp a=>I.pin p (mA1 _ (aH _ a))
theorem IZ{iter:Expr}{t:List dP}{wq:TI}{g:TG}{tb:TS}{pos:Pos}(hp:QF (Qm X.prog X.w) X.A X.env X.xe)(hc:X.calm=M)(hi:PI X tg iter wq)(hg:PG X tg g)(hb:wd X t tb)(hs:autoParam (∀x,QO iter X.env x=pure x) du0):PS X (.For tg iter t [] pos) (LK wq g tb):=by
 intro ag s σ H D I h;refine wpAny_For (fx (hi ag s σ H _ I h) λv s1 h1=>fx h1 λitv s2 h2=>?_) hs;obtain⟨it,fp,Q,ao,H2,e,I2,T,K,S,W,⟨m0,w0⟩,A⟩:=h2;subst e
 -- what stays M of the iterator's objects through the loop
 have k:∀{H':Hp},(∀b∈fp,H' b=Y) -> ∀b∈fp,kX X ag H' b:=λhn b hb=>⟨hn b hb,(S b hb).2⟩;refine codeAny_forLoop_any (λn s'=>∃i c H',Inv X ag c H' s'/\Q i s'.heap/\(∀b∈fp,H' b=Y)/\W i n c H') ?_ m0 ⟨0,σ,H2,I2,K,λb hb=>(S b hb).1,w0⟩;rintro n V ⟨i,l,F,U,B,z,w3⟩;rcases A i n l F w3 with⟨C,qn⟩|⟨go,N,hN,step⟩
 ·refine QG hp (fx (T.done X O O O hc i ag V l F X.xe U (k z) B C) λr s4 ⟨G,I4⟩=>?_);subst G;exact Qt ⟨l,F,I4,qn⟩
 ·refine QG hp (fx (T.item X rfl rfl rfl hc i ag V l F X.xe U (k z) B go) fun r s4 ⟨u,G,h4⟩=>?_);subst G;refine QG hp (fx h4 fun _ au ⟨x,R,I5,r5,y5,y,L⟩=>?_);have av:=I5.pinned (k L) (T.obj _ _ y);refine QG hp (fx (hg _ au l R x u _ av r5 (step x R y5)) fun _ s6 ⟨P,H6,I6,q6⟩=>?_);refine QG hp (fx (hb _ s6 P H6 _ I6 q6) fun f aq w=>?_);have p:∀ {a:St} {q:Hp},Inv X (ag++o4 fp au.heap) a q aq->N a q -> ∃ m,m<n /\ ∃ i c H',Inv X ag c H' aq/\Q i aq.heap/\(∀ b∈fp,H' b=none)/\W i m c H':=fun {a q} j E=>by
   obtain⟨m',hm,w7⟩:=hN a q E;refine⟨m',hm,i+1,a,q,j.unpinned,T.keep _ _ _ y λb hb o e=>(j.pin (b,o) (mA1 _ (mA1 _ (jx hb e)))).1,λb hb=>?_,w7⟩;obtain⟨o,e,d⟩:=T.obj _ _ y b hb;exact(j.pin (b,o) (mA1 _ (mA1 _ (jx hb e)))).2.1
  cases f with
  |next=>obtain⟨a,q,j,E⟩:=w;exact p j E
  |cont=>obtain⟨a,q,j,E⟩:=w;exact p j E
  |brk=>obtain⟨a,q,j,w⟩:=w;exact⟨a,q,j.unpinned,w⟩
  |ret v=>obtain⟨x7,a,q,j,r7,w⟩:=w;exact⟨x7,a,q,j.unpinned,r7,w⟩
end
abbrev R2:=V->V->Hp->VK->Prop
def gU(X:Cx)(f:dz->dz->Sem dz)(r:R2):Prop:=
 ∀(ag:List (dB×Obj)) (s:dA) (σ:St) (H:Hp) (x y:V) (v u:dz) (Q:VK),Inv X ag σ H s->eg x v->eg y u->r x y H Q ->
  dJ (Qm X.prog X.w) X.A (f v u) (EP X ag σ Q) X.xe s
def fc(X:Cx)(f:dz)(r:List V->Hp->VK->Prop):Prop:=
 ∀(ag:List (dB×Obj)) (s:dA) (σ:St) (H:Hp) (xs:List V) (us:List dz) (Q:VK),Inv X ag σ H s->ez xs us->r xs H Q ->
  dJ (Qm X.prog X.w) X.A (call f us) (EP X ag σ Q) X.xe s
def OH(X:Cx)(r:V->Hp->(Bool->Hp->Prop)->Prop):Prop:=
 ∀(ag:List (dB×Obj)) (s:dA) (σ:St) (H:Hp) (x:V) (v:dz) (Q:Bool->Hp->Prop),Inv X ag σ H s->eg x v->r x H Q ->
  dJ (Qm X.prog X.w) X.A (truthy v) (TP X ag σ Q) X.xe s
noncomputable def LG(r:R2)(ta tb:TE):TE:=fun σ H Q=>ta σ H λx H1=>tb σ H1 λy H2=>r x y H2 Q
def rI(C:Int->Int->Prop)(g:Int->Int->V):R2:=λx y H Q=>∃i j,x = .int i/\y = .int j/\C i j/\Q (g i j) H
noncomputable def HE(g:Int->Int->V):R2:=λx y H Q=>∃i j,x = .int i/\y = .int j/\Q (g i j) H
def rU(g:Int->V):V->Hp->VK->Prop:=λx H Q=>∃i,x = .int i/\Q (g i) H
section
variable{a b c:Expr}{ta tb tc:TE}{pos:Pos}
theorem K5(ha:PE X a ta)(hb:PE X b tb){ag:List (dB×Obj)}{s:dA}{σ:St}{H:Hp}{R:V->V->Hp->Prop}(I:Inv X ag σ H s)(h:ta σ H fun x H1=>tb σ H1 fun y H2=>R x y H2){Q:dz->dA->Prop}{f:dz->dz->Sem dz}(hf:∀v u e x y H2,Inv X ag σ H2 e->eg x v->eg y u->R x y H2->dJ (Qm X.prog X.w) X.A (f v u) Q X.xe e):
  dJ (Qm X.prog X.w) X.A (eval a X.env) (λv d=>dJ (Qm X.prog X.w) X.A (eval b X.env) (λu c=>dJ (Qm X.prog X.w) X.A (f v u) Q X.xe c) X.xe d) X.xe s:=by
 refine fx (ha ag s σ H _ I h) λv j ⟨x,H1,i,k,m⟩=>?_;refine fx (hb ag j σ H1 _ i m) λu e ⟨y,H2,g,r2,l⟩=>?_;exact hf v u e x y H2 g k r2 l
theorem L7{op:Qx}{r:R2}(ho:gU X (QP op) r)(ha:PE X a ta)(hb:PE X b tb):PE X (.BinOp a op b pos) (LG r ta tb):=by
 intro ag s σ H Q I h;exact wpAny_BinOp (K5 ha hb I h λv u f x y H2 c e d q=>ho ag f σ H2 x y v u Q c e d q)
theorem Nx{f:dz->dz->Sem dz}{C:Int->Int->Prop}{g:Int->Int->Int}(a:∀(i j:Int) (t u:Tok) (s:dA) (Q:dz->dA->Prop) (E:dz->dA->Prop),C i j->Q (.int (g i j) s.toks) {s with toks:=s.toks+1}->dJ (Qm X.prog X.w) X.A (f (.int i t) (.int j u)) Q E s):
  gU X f (rI C λi j=>.int (g i j)):=by
 intro ag s σ H x y v u Q I b c h;obtain⟨i,j,rfl,rfl,hc,q⟩:=h;obtain⟨t,rfl⟩:=b;obtain⟨d,rfl⟩:=c;exact a i j t d s _ _ hc ⟨.int (g i j),H,I.tok _,⟨_,O⟩,q⟩
theorem Me{f:dz->dz->Sem dz}{g:Int->Int->Int}(a:∀(i j:Int) (t u:Tok) (s:dA) (Q:dz->dA->Prop) (E:dz->dA->Prop),Q (.int (g i j) s.toks) {s with toks:=s.toks+1}->dJ (Qm X.prog X.w) X.A (f (.int i t) (.int j u)) Q E s):
  gU X f (HE λi j=>.int (g i j)):=by
 intro ag s σ H x y v u Q I b c h;obtain⟨i,j,rfl,rfl,q⟩:=h;obtain⟨t,rfl⟩:=b;obtain⟨d,rfl⟩:=c;exact a i j t d s _ _ ⟨.int (g i j),H,I.tok _,⟨_,O⟩,q⟩
theorem Jv{f:dz->dz->Sem dz}{g:Int->Int->Bool}(a:∀(i j:Int) (t u:Tok) (s:dA) (Q:dz->dA->Prop) (E:dz->dA->Prop),Q (.bool (g i j)) s->dJ (Qm X.prog X.w) X.A (f (.int i t) (.int j u)) Q E s):
  gU X f (HE λi j=>.bl (g i j)):=by
 intro ag s σ H x y v u Q I b c h;obtain⟨i,j,rfl,rfl,q⟩:=h;obtain⟨t,rfl⟩:=b;obtain⟨d,rfl⟩:=c;exact a i j t d s _ _ ⟨.bl (g i j),H,I,O,q⟩
def No(i j:Int):Prop:=0<j/\j<1073741824
def Nn(i j:Int):Prop:=0<=j/\j<=1000000/\i.natAbs<2^64
theorem Ju:gU X (QP .Add) (HE λi j=>.int (i+j)):=Me λ_ _ _ _ _ _ _ q=>add_int q
theorem FR:gU X (QP .FloorDiv) (rI No λi j=>.int (i/j)):=Nx λi j _ _ _ _ _ hc q=>by
 have h1:(0:Int)<j:=hc.1;have h2:j<1073741824:=hc.2;exact floordiv_int (by lia) (by rw[Int.fdiv_eq_ediv_of_nonneg i (by lia)];exact q) (.inl (PyProof.noPylong_small (by lia)))
theorem Jr:gU X (QP .Mod) (rI (λ_ j=>0<j) λi j=>.int (i%j)):=Nx λi j _ _ _ _ _ hc q=>by
 have h1:(0:Int)<j:=hc;exact mod_int' (by lia) (by rw[Int.fmod_eq_emod_of_nonneg i (by lia)];exact q)
theorem Jq:gU X (QP .Pow) (rI Nn λi j=>.int (i^j.toNat)):=Nx λ_ _ _ _ _ _ _ hc q=>pow_int_small hc.1 hc.2.1 hc.2.2 q
theorem GJ:gU X (inplaceOp .Add) (HE λi j=>.int (i+j)):=Me λ_ _ _ _ _ _ _ q=>iadd_int q
theorem Dt{ag:List (dB×Obj)}{σ:St}{H:Hp}{s:dA}{Q:VK}{k k':Bool}(I:Inv X ag σ H s)(q:Q (.bl k) H)(e:k=k'):EP X ag σ Q (.bool k') s:=by
 subst e;exact⟨.bl k,H,I,O,q⟩
theorem Mb:gU X (QQ .LtE) (HE λi j=>.bl (decide (i<=j))):=Jv λ_ _ _ _ _ _ _ q=>le_int q
theorem Mc:gU X (QQ .Gt) (HE λi j=>.bl (decide (j<i))):=Jv λ_ _ _ _ _ _ _ q=>gt_int q
theorem Md:gU X (QQ .GtE) (HE λi j=>.bl (decide (j<=i))):=Jv λ_ _ _ _ _ _ _ q=>ge_int q
theorem Js:gU X (QQ .Is) (λx y H Q=>y = .non/\Q (.bl (decide (x = .non))) H):=by
 intro ag s σ H x y v u Q I a b h;obtain⟨rfl,q⟩:=h;cases b;refine is_none_gen (Dt I q ?_);cases x<;>first
  |(cases a;rfl)
  |(obtain⟨t,rfl⟩:=a;rfl)
theorem FQ:gU X (QQ .IsNot) (λx y H Q=>y = .non/\Q (.bl (!decide (x = .non))) H):=by
 intro ag s σ H x y v u Q I a b h;obtain⟨rfl,q⟩:=h;cases b;refine isnot_none_gen (Dt I q ?_);cases x<;>first
  |(cases a;rfl)
  |(obtain⟨t,rfl⟩:=a;rfl)
theorem Cv(b:Expr){op:QR}(h:autoParam (op ≠ .In) bu0)(h2:autoParam (op ≠ .NotIn) bu0):QS op b=J:=by
 have a:(op == CmpOp.In)=J:=by cases op<;>first|rfl|exact absurd rfl h
 have c:(op == CmpOp.NotIn)=J:=by cases op<;>first|rfl|exact absurd rfl h2
 cases b<;>simp[QS,a,c]
theorem FK{op:QR}{r:R2}(ho:gU X (QQ op) r)(ha:PE X a ta)(hb:PE X b tb)(hm:QS op b=J):PE X (.Compare a [op] [b] pos) (LG r ta tb):=by
 intro ag s σ H Q I h;exact wpAny_Compare1 (K5 ha hb I h λv u f x y H2 c e d q=>ho ag f σ H2 x y v u Q c e d q) hm
noncomputable def LC(t:TE):TT:=fun σ H Q=>t σ H λx H'=>∃k,x = .bl k/\Q k H'
theorem Fp{op:QR}{r:R2}(ho:gU X (QQ op) r)(ha:PE X a ta)(hb:PE X b tb)(hm:QS op b=J):PT X (.Compare a [op] [b] pos) (LC (LG r ta tb)):=by
 intro ag s σ H Q I h;refine wpAny_isTrue_Compare1 (fx (ha ag s σ H _ I h) λv i ⟨x,H1,f,j,m⟩=>fx (hb ag i σ H1 _ f m) λu p ⟨y,H2,d,r2,n⟩=>
  fx (ho ag p σ H2 x y v u _ d j r2 n) λc t ⟨z,q,l,g,k,e,o⟩=>?_) hm
 subst e;cases g;exact Qr ⟨q,l,o⟩
noncomputable def Br(r r':R2)(ta tb tc:TE):TE:=fun σ H Q=>ta σ H λx H1=>tb σ H1 λy H2=>r x y H2 λz H3=>∃k,z = .bl k /\
 (if k=M then tc σ H3 λw' H4=>r' y w' H4 Q else Q (.bl J) H3)
theorem Cf{op op':QR}{r i:R2}(ho:gU X (QQ op) r)(ho':gU X (QQ op') i)(ha:PE X a ta)(hb:PE X b tb)(hc:PE X c tc)(hm:lastMarks [op,op'] [b,c]=J:=by with_unfolding_all rfl):PE X (.Compare a [op,op'] [b,c] pos) (Br r i ta tb tc):=by
 intro ag s σ H Q I h;refine Compare_chain (fx (ha ag s σ H _ I h) λv F ⟨x,H1,w,q,D⟩=>chain_link (fx (hb ag F σ H1 _ w D) λu C ⟨y,H2,n,r2,ao⟩=>
  fx (ho ag C σ H2 x y v u _ n q r2 ao) λd A ⟨z,g,j,l,k,e,f⟩=>?_)) hm
 subst e;cases l;refine Qr ?_;cases k with
 |false=>exact ite_ff ⟨.bl J,g,j,O,f⟩
 |true=>exact ite_tt (chain_last (fx (hc ag A σ g _ j f) λp t ⟨o,m,B,G,E⟩=>ho' ag t σ m y o u p Q B r2 G E))
def Hs(K:Fg1)(x:V)(H:Hp)(k:Bool):Prop:=
 match x with
 | .non=>k=J
 | .bl b=>k=b
 | .int i=>k=(i != 0)
 | .str y=>y.length<=dI/\k=((y.length:Int) != 0)
 | .byt y=>y.size<=dI/\k=((y.size:Int) != 0)
 | .ref p=>(∃xs,nq K H p xs/\k = !xs.isEmpty)\/(∃xs,kS K H p xs/\k = !xs.isEmpty) \/ ∃kvs,H p=Z (.dK kvs)/\k = !kvs.isEmpty
 |_=>False
theorem wS{κ:Type}{kvs:List (κ×V)}{vs:List (κ×dz)}(r:KV kvs vs):(!vs.isEmpty) = !kvs.isEmpty:=by
 cases r<;>rfl
theorem pB{xs:List V}{its:List dz}(r:ez xs its):(!its.toArray.isEmpty) = !xs.isEmpty:=by
 cases r<;>simp
theorem m6:(dI:Nat)<2^63:=by rw[QT];decide
theorem Io:OH X (λx H Q=>∃k,Hs X.K x H k/\Q k H):=by
 intro ag s σ H x v Q I d h;obtain⟨k,e,q⟩:=h;have o:=m6;have u:dI=16777216:=QT;cases x with
 |non=>
  cases d;have a:k=J:=e;subst a;exact truthy_none ⟨H,I,q⟩
 |bl b=>
  cases d;have a:k=b:=e;subst a;exact Qr ⟨H,I,q⟩
 |int i=>
  obtain⟨t,rfl⟩:=d;have a:k=(i != 0):=e;subst a;exact PySem.P.truthy_int ⟨H,I,q⟩
 |str y=>
  obtain⟨t,rfl⟩:=d;obtain⟨n,a⟩:y.length<=dI/\k=((y.length:Int) != 0):=e;subst a;exact PySem.P.truthy_str (by lia) ⟨H,I.tok _,q⟩
 |byt y=>
  obtain⟨t,rfl⟩:=d;obtain⟨n,a⟩:y.size<=dI/\k=((y.size:Int) != 0):=e;subst a;exact PySem.W.truthy_bytes (by lia) ⟨H,I.tok _,q⟩
 |ref p=>
  cases d;have a:(∃xs,nq X.K H p xs/\k = !xs.isEmpty)\/(∃xs,kS X.K H p xs/\k = !xs.isEmpty) \/ ∃kvs,H p=Z (.dK kvs)/\k = !kvs.isEmpty:=e;rcases a with⟨xs,f,a⟩|⟨xs,f,a⟩|⟨kvs,f,a⟩
  ·subst a;obtain⟨g,r,pl,j⟩:=I.list f;have c:=r.length;exact wpAny_truthy_list pl.isList (by simp only[sT1];lia) ⟨H,I.tok _,by rw[pB r];exact q⟩
  ·subst a;obtain⟨g,r,pl,j⟩:=I.tuple f;have c:=r.length;exact truthy_tuple pl (by simp only[sT1];lia) ⟨H,I.tok _,by rw[pB r];exact q⟩
  ·subst a;obtain⟨j,l,vs,r,m⟩:kvs.length<=dI/\(p == Qe)=false /\ ∃vs,KV kvs vs/\s.heap.DictOf (ft X.prog X.w) p vs:=I.hok p _ f;have c:kvs.length=vs.length:=Paired.length r;exact wpAny_truthy_dict l m (by lia) ⟨H,I.tok _,by rw[wS r];exact q⟩
 |_=>exact(show False from e).elim
theorem BZ(ha:PE X a ta)(he:∀ b,isTrue a X.env b=(do let v<-b;Qz a.pos;Qy [v] (truthy v))):
  PT X a (fun σ H Q=>ta σ H λx H'=>∃k,Hs X.K x H' k/\Q k H'):=by
 intro ag s σ H Q I h;exact isTrue_plain (fx (ha ag s σ H _ I h) λv d ⟨x,H1,c,e,f⟩=>Io ag d σ H1 x v Q c e f) (he _)
theorem wH:gU X (QP .Add) (λx y H Q=>∃i j,x = .str i/\y = .str j/\i.length+j.length<=dI/\Q (.str (i++j)) H):=by
 intro ag s σ H x y v u Q I a b h;obtain⟨i,j,rfl,rfl,c,q⟩:=h;obtain⟨t,rfl⟩:=a;obtain⟨d,rfl⟩:=b;exact add_str (λd tk=>⟨.str (i++j),H,I.tok _,⟨_,O⟩,q⟩) c
theorem iP{x:V}{a:List dz}(r:ez [x] a):∃u,a=[u]/\eg x u:=by
 cases r with
 |cons b r2=>cases r2;exact⟨_,O,b⟩
theorem Ba{x y:V}{a:List dz}(r:ez [x,y] a):∃u w',a=[u,w']/\eg x u/\eg y w':=by
 cases r with
 |cons b r2=>
  cases r2 with
  |cons d c=>cases c;exact⟨_,_,O,b,d⟩
theorem AL(hc:X.calm=M):fc X (.builtin "max") (λxs H Q=>∃i j,xs=[.int i,.int j]/\Q (.int (if j>i then j else i)) H):=by
 intro ag s σ H xs b Q I r h;obtain⟨i,j,rfl,q⟩:=h;obtain⟨u,d,rfl,⟨t,rfl⟩,⟨c,rfl⟩⟩:=Ba r;refine max_two_ints (I.ok.hd hc) λh' tk k=>⟨_,H,I.kept k,?_,q⟩;by_cases a:j>i
 ·rw[ak a,ak a];exact⟨_,O⟩
 ·rw[aj a,aj a];exact⟨_,O⟩
theorem AK(hc:X.calm=M):fc X (.builtin "min") (λxs H Q=>∃i j,xs=[.int i,.int j]/\Q (.int (if j<i then j else i)) H):=by
 intro ag s σ H xs b Q I r h;obtain⟨i,j,rfl,q⟩:=h;obtain⟨u,d,rfl,⟨t,rfl⟩,⟨c,rfl⟩⟩:=Ba r;refine min_two_ints (I.ok.hd hc) λh' tk k=>⟨_,H,I.kept k,?_,q⟩;by_cases a:j<i
 ·rw[ak a,ak a];exact⟨_,O⟩
 ·rw[aj a,aj a];exact⟨_,O⟩
theorem r9:fc X (.type "int") (λxs H Q=>(∃i,xs=[.int i]/\Q (.int i) H) \/ ∃k,xs=[.bl k]/\Q (.int (if k then 1 else 0)) H):=by
 intro ag s σ H xs b Q I r h;rcases h with⟨i,rfl,q⟩|⟨k,rfl,q⟩
 ·obtain⟨u,rfl,t,rfl⟩:=iP r;exact call_int_int ⟨.int i,H,I,⟨_,O⟩,q⟩
 ·obtain⟨u,rfl,a⟩:=iP r;cases a;exact call_int_bool ⟨.int (if k then 1 else 0),H,I.tok _,⟨_,O⟩,q⟩
end
structure Lj (h:dM)(x dx C:dB)(mA:Str->Option dz):Prop where
 obj:h.get? x=some (PySem.W.instObj C dx)
 ns:h.Ns1 dx mA
 ne:dx≠x
theorem Ab{h:dM}{dx:dB}{mA:Str->Option dz}(n:h.Ns1 dx mA):∃c,h.get? dx=Z c /\ ∀name,PySem.W.lookIn name c=Z (mA name):=by
 obtain⟨o,es,ep,k,j,i,_,d⟩:=n;refine⟨o,k,λname=>?_⟩;have e:=d name;unfold nsFind findBy at e;rw[<- Array.find?_toList]at e;unfold PySem.W.lookIn;rw[j];dsimp only;split
 ·rename_i y q;rw[q]at e;exact congrArg Z e
 ·rename_i q;rw [q] at e;have a:es.toList.any (·.refKey)=false:=by
   rw[List.any_eq_false];intro y g;obtain⟨z,t,b⟩:=i y (Array.mem_toList_iff.mp g);simp[DictEntry.refKey,b]
  have f:¬ es.toList.any (·.refKey)=M:=by rw[a];exact aL
  rw[aj f];exact congrArg Z e
theorem Lj.look{h:dM}{x dx C:dB}{mA:Str->Option dz}(I:Lj h x dx C mA):∃a,PySem.W.InstAt h x (PySem.W.instObj C dx) C (Z a) /\ ∀name,PySem.W.lookIn name a=Z (mA name):=
 let ⟨a,ho,hl⟩:=Ab I.ns
 ⟨a,⟨I.obj,O,O,ho⟩,hl⟩
section
variable{prog:dD}{w:dF}{A:dE}{E:dz->dA->Prop}{s:dA}{K:Fg1}{x dx C f:dB}{mA:Str->Option dz}{name:Str}{v:dz}
end
theorem nr.some_of{v:V}{o:Option dz}(r:nr (Z v) o):∃u,o=Z u/\eg v u:=by
 cases o with
 |none=>exact(show False from r).elim
 |some u=>exact⟨u,O,r⟩
section
variable{P:dD}{w:dF}{H H':Hp}{h h':dM}{a C dx:dB}{fs fs':List (Str×V)}
theorem GK(b:lJ P w H h)(e:H a=Z (.ins C dx fs)):∃mA,Lj h a dx C mA/\(∀f,nr (fs.lookup f) (mA f))/\PySem.Within mA (fs.map (·.1))/\fs.length<=1000/\H dx=Z (.own a):=by
 obtain⟨d,z,ne,c,mA,n,r,q⟩:=(show e9 P w H h a (.ins C dx fs)from b a _ e);exact⟨mA,⟨c,n,ne⟩,r,q,z,d⟩
end
structure OO (K:Fg1)(C:dB):Prop where
 pg:PySem.W.plainGet K C Str.empty=true
 hd:PySem.W.hasDictIn K C=true
 po:PySem.W.plainOver K C=true
 sa:PySem.W.findIn K (.ref C) "__setattr__"=some (some (.builtin "object.__setattr__"))
theorem OO.get{K:Fg1}{C:dB}(c:OO K C)(f:Str):PySem.W.plainGet K C f=M:=c.pg
section
variable{ag:List (dB×Obj)}{σ:St}{H:Hp}{s:dA}{a C dx:dB}{fs:List (Str×V)}{f:Str}{v:V}{A:dE}{E:dz->dA->Prop}
end
section
variable{o e value:Expr}{f:Str}{pos pos' tpos:Pos}{ta tv:TE}
end
section
variable{ag:List (dB×Obj)}{σ:St}{H:Hp}{s:dA}{A:dE}{E:dz->dA->Prop}{Q:dz->dA->Prop}{c:dz}{b:Bool}
inductive oh (K:Fg1)(H:Hp):V->dz->Prop where
 |non:oh K H .non (.type "NoneType")
 |bl (x:Bool):oh K H (.bl x) (.type "bool")
 |int (i:Int):oh K H (.int i) (.type "int")
 |str (x:Str):oh K H (.str x) (.type "str")
 |flt (x:UInt64):oh K H (.flt x) (.type "float")
 |lst {a:dB} {xs:List V} (e:H a=some (.lst xs)):oh K H (.ref a) (.type "list")
 |frz {a:dB} {o:Obj} {xs:List V} (e:H a=some (.frz o (.lst xs))):oh K H (.ref a) (.type "list")
 |tup {a:dB} {xs:List V} (e:H a=some (.tup xs)):oh K H (.ref a) (.type "tuple")
 |dK {a:dB} {kvs:List (Key×V)} (e:H a=some (.dK kvs)):oh K H (.ref a) (.type "dict")
 |dT {a:dB} {kvs:List (List Key×V)} (e:H a=some (.dT kvs)):oh K H (.ref a) (.type "dict")
 | ins {a C dx:dB} {fs:List (Str×V)} (e:H a=some (.ins C dx fs)) (cl:OO K C) (ha:PySem.W.findIn K (.ref C) "__class__"=some (some (.builtin "object.__class__")))
   (hn:PySem.W.specialIn K (.builtin "object.__class__") "__get__"=some (some (.builtin "getset_descriptor.__get__"))) (htk:PySem.W.takesIn K (.builtin "object.__class__")=some true)
   (hm:PySem.W.mroIn K C (.type "object")=some true):oh K H (.ref a) (.ref C)
theorem jj{x:V}{u t:dz}(I:Inv X ag σ H s)(f:eg x u)(ty:oh X.K H x t)(e:QU X.K t c=some b)(h:∀ tk,Q (.bool b) {s with toks:=tk}):
  dJ (Qm X.prog X.w) A (call (.builtin "isinstance") [u,c]) Q E s:=by
 cases ty with
 |non=>cases(show u=P9 from f);exact QV PySem.W.kitx_none I.kIn QW e (λz=>nomatch z) h
 |bl y=>cases(show u=Qa y from f);exact QV PySem.W.kitx_bool I.kIn QW e (λz=>nomatch z) h
 |int i=>obtain⟨t,q⟩:=(show∃t,u=ab i t from f);cases q;exact QV PySem.W.kitx_int I.kIn QW e (λz=>nomatch z) h
 |str y=>obtain⟨t,q⟩:=(show∃t,u=ae y t from f);cases q;exact QV PySem.W.kitx_str I.kIn QW e (λz=>nomatch z) h
 |flt y=>obtain⟨t,q⟩:=(show∃t,u=Value.float y t from f);cases q;exact QV PySem.W.kitx_float I.kIn QW e (λz=>nomatch z) h
 | @lst a xs d=>
  cases(show u=Qb a from f);obtain⟨_,_,n,_,h1⟩:=(show e9 X.prog X.w H s.heap a (.lst xs)from I.hok a _ d);exact QV PySem.W.kitx_list I.kIn ⟨_,h1,O⟩ e (λz=>nomatch z) h
 | @frz a r xs d=>
  cases(show u=Qb a from f);obtain⟨_,_,_,n,_,h1⟩:=(show e9 X.prog X.w H s.heap a (.frz r (.lst xs))from I.hok a _ d);exact QV PySem.W.kitx_list I.kIn ⟨_,h1,O⟩ e (λz=>nomatch z) h
 | @tup a xs d=>
  cases(show u=Qb a from f);obtain⟨_,_,_,p⟩:=(show e9 X.prog X.w H s.heap a (.tup xs)from I.hok a _ d);obtain⟨o,h1,h2,_⟩:=p;exact QV PySem.W.kitx_tuple I.kIn ⟨o,h1,h2⟩ e (λz=>nomatch z) h
 | @dK a kvs d=>
  cases(show u=Qb a from f);obtain⟨_,_,vs,_,p⟩:=(show e9 X.prog X.w H s.heap a (.dK kvs)from I.hok a _ d);obtain⟨o,es,ep,h1,h2,_⟩:=p;exact QV PySem.W.kitx_dict I.kIn ⟨o,h1,h2.1⟩ e (λz=>nomatch z) h
 | @dT a kvs d=>
  cases(show u=Qb a from f);obtain⟨_,_,xs,_,o,es,ep,h1,h2,_⟩:=(show e9 X.prog X.w H s.heap a (.dT kvs)from I.hok a _ d);exact QV PySem.W.kitx_dict I.kIn ⟨o,h1,h2.1⟩ e (λz=>nomatch z) h
 | @ins a C dx fs d j k m g l=>
  cases(show u=Qb a from f);obtain⟨mA,av,_⟩:=GK I.hok d;obtain⟨v,ao,_⟩:=av.look;exact QV (PySem.W.kitx_own (j.get _) j.hd k m g l) I.kIn ao e (λz=>nomatch z) h
end
structure ga (k:Nat)(A:dE):Prop where
 hd:A.handled=none
 dp:A.depth+3*k+5<recursionLimit
 un:A.units+16*k+200<QX
 gd:A.guards=some []
theorem ga.mono{j k:Nat}{A:dE}(r:ga k A)(h:j<=k):ga j A:=⟨r.hd,by have:=r.dp;lia,by have:=r.un;lia,r.gd⟩
theorem ga.deeper{k:Nat}{A:dE}(r:ga (k+1) A)(env:Env):ga k (A.deeper env):=
 ⟨r.hd,by have:=r.dp;show A.depth+1+3*k+5<_;lia,by have:=r.un;show A.units+3+16*k+200<_;lia,r.gd⟩
theorem ga.depth{k:Nat}{A:dE}(r:ga k A):A.depth<recursionLimit:=by have:=r.dp;lia
theorem ga.units{k:Nat}{A:dE}(r:ga k A):A.units+64<QX:=by have:=r.un;lia
noncomputable def NQ:TA:=λ_ H Q=>Q [] H
noncomputable def LN(ta:TE)(tr:TA):TA:=fun σ H Q=>ta σ H λx H1=>tr σ H1 λxs H2=>Q (x::xs) H2
section
variable{e:Expr}{es:List Expr}{te:TE}{t:TA}{pos:Pos}
theorem lC:PA X [] NQ:=λ_ _ _ _ H Q I h=>Calls.spliced_nil ⟨[],H,I,.nil,h⟩
theorem iR(ha:PE X e te)(hr:PA X es t)(hs:autoParam (dH (e::es) X.env=(J,eval e X.env)::dH es X.env) cu0):PA X (e::es) (LN te t):=by
 intro pos ag s σ H Q I h;rw[hs];show dJ _ _ (spliced ((J,eval e X.env)::Qn pos (dH es X.env))) _ _ s;refine Calls.spliced_cons (fx (ha ag s σ H _ I h) λu d ⟨x,H1,b,c,g⟩=>?_);exact fx (hr pos ag d σ H1 _ b g) λi j ⟨xs,H2,a,r2,f⟩=>⟨x::xs,H2,a,.cons c r2,f⟩
def NL(t:TA):TE:=fun σ H Q=>t σ H λxs H1=>xs.length<=dI /\ ∀p,H1 p=Y->Q (.ref p) (upd H1 p (.tup xs))
def NT(t:TA):TE:=fun σ H Q=>t σ H λxs H1=>xs.length<=dI /\ ∀p,H1 p=Y->Q (.ref p) (upd H1 p (.lst xs))
theorem Jd{x1}(h:PA X es t):PE X (.Tuple es x1 pos) (NL t):=by
 intro ag s σ H Q I f;refine wpAny_Tuple_spliced (fx (h pos ag s σ H _ I f) λg a ⟨xs,H1,c,r,z,q⟩=>⟨by rw[<- r.length];exact z,?_⟩);have d:H1 a.heap.objs.size=Y:=c.hok.fresh (nR1 _);refine⟨.ref a.heap.objs.size,upd H1 a.heap.objs.size (.tup xs),c.laid (t':=a.toks) (λb u e=>hP1 _ e) (nR1 _) ?_,O,q _ d⟩;exact⟨z,g,r,⟨_,hS1 _ O,O,_,O,O⟩⟩
theorem Ji(h:PA X es t):PE X (.List es pos) (NT t):=by
 intro ag s σ H Q I f;refine wpAny_List_spliced (fx (h pos ag s σ H _ I f) λg a ⟨xs,H1,c,r,z,q⟩=>⟨by rw[<- r.length];exact z,?_⟩);have d:H1 a.heap.objs.size=Y:=c.hok.fresh (nR1 _);refine⟨.ref a.heap.objs.size,upd H1 a.heap.objs.size (.lst xs),c.laid (t':=a.toks) (λb u e=>hP1 _ e) (nR1 _) ?_,O,q _ d⟩;exact⟨z,g,0,r,hS1 _ O⟩
end
abbrev Sp:=List V->Hp->VK->XK->Prop
abbrev AS:=List Env->Hp->dA->XK->dz->dA->Prop
structure Hw (P:dD)(w:dF)(K:Fg1)(mg:Str->Option dz)(base:dM)(A:dE)(outer:List Env)(s:dA)(H:Hp):Prop where
 frames:A.frames=some outer
 mod:Mod K mg base
 bs:∀b o,base.get? b=some o->s.heap.get? b=some o/\H b=none
 bsz:base.objs.size<=s.heap.objs.size
 funs:s.heap.FunFrames base outer
 frf:∀b∈frs outer,H b=none
 hok:lJ P w H s.heap
 bare:Qh s.gens
def CE(outer:List Env)(P:dD)(w:dF)(H:Hp)(s:dA)(Q:VK)(u:dz)(s':dA):Prop:=
 ∃v H',s'.os=s.os/\Qh s'.gens/\Un (frs outer) [] H H' s.heap s'.heap/\lJ P w H' s'.heap/\eg v u/\Q v H'
def CR(CX:AS)(outer:List Env)(P:dD)(w:dF)(H:Hp)(s:dA)(Q:VK)(E:XK)(r:QY)(s':dA):Prop:=
 match r with
 | .ok (.ret u)=>CE outer P w H s Q u s'
 | .ok _=>False
 | .error e=>CX outer H s E e s'
structure kn (P:dD)(w:dF)(K:Fg1)(mg:Str->Option dz)(base:dM)(CX:AS)(k:Nat)(f:dB)(fd:dN)(ps:List Str)(sp:Sp):Prop where
 len:∀vs H Q E,sp vs H Q E->vs.length=ps.length
 run:∀(A:dE) (outer:List Env) (s:dA) (H:Hp) (args:Args) (us:List dz) (vs:List V) (Q:VK) (E:XK),ga k A->Hw P w K mg base A outer s H->BindsTo s fd args (ps.zip us)->ez vs us->sp vs H Q E ->
  dL (Qm P w) A (.call (.ref f) args) (CR CX outer P w H s Q E) s
theorem kn.imp{P:dD}{w:dF}{K:Fg1}{mg:Str->Option dz}{base:dM}{CX:AS}{k:Nat}{f:dB}{fd:dN}{ps:List Str}{sp sp':Sp}(F:kn P w K mg base CX k f fd ps sp)(h:∀vs H Q E,sp' vs H Q E->sp vs H Q E):kn P w K mg base CX k f fd ps sp':=
 ⟨λvs H Q E q=>F.len vs H Q E (h _ _ _ _ q),λA a s H b e vs Q E g d c j i=>F.run A a s H b e vs Q E g d c j (h _ _ _ _ i)⟩
section
variable{ag:List (dB×Obj)}{σ:St}{H:Hp}{s s':dA}
theorem Inv.env0(I:Inv X ag σ H s):Hw X.prog X.w X.K X.mg X.base X.A X.stack s H:=
 ⟨I.ok.frames,I.ok.mod,I.bs,aD I.ok.bsz I.sz,I.stack,I.stkFree,I.hok,I.bare⟩
theorem Inv.after{Q:VK}{u:dz}(I:Inv X ag σ H s)(h:CE X.stack X.prog X.w H s Q u s'):EP X ag σ Q u s':=by
 obtain⟨v,H',f,a,un,e,r,q⟩:=h;obtain⟨i,g,d,t,c⟩:=s';obtain rfl:c=s.os:=f;exact⟨v,H',I.call (h':=i) (g':=g) (d':=d) (t':=t) (ch:=[]) un e a (λb z=>absurd z (by simp)),r,q⟩
end
noncomputable def HB(sp:Sp)(dvs:List V)(E:XK)(t:TA):TE:=fun σ H Q=>t σ H λvs H1=>sp (vs++dvs) H1 Q E
def ly(K:Fg1)(fd:dN)(ps:List Str)(ds:List dz):Prop:=
 ∀(s:dA) (us:List dz),K.In s.heap->(us++ds).length=ps.length->BindsTo s fd ⟨us,[]⟩ (ps.zip (us++ds))
theorem ly.all{K:Fg1}{fd:dN}{ps:List Str}(h:∀a:List dz,a.length=ps.length->bindArgs fd ⟨a,[]⟩=pure (ps.zip a)):ly K fd ps []:=λs a _ b=>by
 rw[aN]at b ⊢;exact .of_eq (h a b)
def um(CX:AS)(X:Cx)(E:XK):Prop:=∀(ag:List (dB×Obj)) (σ:St) (H:Hp) (s:dA) (e:dz) (s':dA),Inv X ag σ H s->CX X.stack H s E e s'->X.xe e s'
section
variable{CX:AS}{k:Nat}{f C:dB}{fd:dN}{ps:List Str}{sp:Sp}{dvs:List V}{ds:List dz}{E:XK}{x m:Str}{p pos apos:Pos}{e o:Expr}{es:List Expr}{ta:TE}{t:TA}
theorem BV{ag:List (dB×Obj)}{σ:St}{H:Hp}{s:dA}{Q:VK}{a:List dz}{vs:List V}(F:kn X.prog X.w X.K X.mg X.base CX k f fd ps sp)(hr:ga k X.A)(hb:ly X.K fd ps ds)(hd:ez dvs ds)(hx:um CX X E)(I:Inv X ag σ H s)(r:ez vs a)(h:sp (vs++dvs) H Q E):dJ (Qm X.prog X.w) X.A (call (.ref f) a) (EP X ag σ Q) X.xe s:=by
 have r2:ez (vs++dvs) (a++ds):=r.append hd;have c:(a++ds).length=ps.length:=by rw[<- r2.length];exact F.len _ _ _ _ h
 refine wpAny_call (QZ (F.run X.A X.stack s H ⟨a,[]⟩ (a++ds) (vs++dvs) Q E hr I.env0 (hb s a I.kIn c) r2 h) λr s' b=>?_);cases r with
 |error e=>exact hx ag σ H s e s' I b
 |ok d=>
  cases d with
  |ret u=>exact I.after b
  |next=>exact Qs b
  |brk=>exact Qs b
  |cont=>exact Qs b
theorem FL (F:kn X.prog X.w X.K X.mg X.base CX k f fd ps sp)(hr:ga k X.A)(hg:Gl X x)(hm:X.mg x=some (.ref f))(hk:wK1 X.K (.ref f)=true)(hb:ly X.K fd ps ds)(hd:ez dvs ds)(hx:um CX X E)
  (ha:PA X (e::es) t) (hdb:autoParam ((x == ("__debug__":Str))=J) bu0) (he:autoParam (dH (e::es) X.env=(J,eval e X.env)::dH es X.env) cu0) (hpl:autoParam ((Qn pos (dH es X.env)).any (·.1)=J) cu0):
  PE X (.Call (.Name x p) (e::es) [] pos) (HB sp dvs E t):=by
 intro ag s σ H Q I h;refine Q0 (yw I hg hm ?_ hdb);refine PySem.W.callWith_K (h₀:=X.base) I.ok.mod.kin hk (fx (ha pos ag s σ H _ I h) λb c ⟨vs,H1,a,r,q⟩=>⟨a.kIn,?_⟩) he hpl;exact BV F hr hb hd hx a r q
end
section
variable{CX:AS}{k:Nat}{f C:dB}{fd:dN}{ps ks:List Str}{sp:Sp}{E:XK}{x m:Str}{p pos apos kpos:Pos}{e o:Expr}{es:List Expr}{kws:List Q1}{te ta:TE}{t tk:TA}{nm:Option Str}
variable{g:List dz->List dz->List dz}{gV:List V->List V->List V}
end
structure hH (N P:List Str)(sc:dQ):Prop where
 kind:sc.kind = .function
 co:sc.isCoroutine=false
 gen:sc.isGenerator=false
 nd:N.Nodup
 pre:N.take P.length=P
 par:∀x∈P,sc.names.lookup x=some .local\/sc.names.lookup x=some .cell
 nofree:∀y∈sc.names,y.2 ≠ .free
theorem sf{kindOf:Str->Option Q2}{x:Str}:∀{binds:List (Str×dz)} {m:Str->Option dz},(∀v,(x,v)∉binds)->bindL kindOf binds m x=m x
 |[],_,_=>rfl
 |(n,v)::r,m,h=>by
  unfold bindL;rw[sf λw a=>h w (mC1 _ a)];split
  ·have:x≠n:=by rintro rfl;exact h v mS1
   simp[this]
  ·rfl
theorem sj{kindOf:Str->Option Q2}{x:Str}:∀{binds:List (Str×dz)} {m:Str->Option dz},(∀v,(x,v)∉binds)->bindC kindOf binds m x=m x
 |[],_,_=>rfl
 |(n,v)::r,m,h=>by
  unfold bindC;rw[sj λw a=>h w (mC1 _ a)];split
  ·rfl
  ·have:x≠n:=by rintro rfl;exact h v mS1
   simp[this]
theorem si{kindOf:Str->Option Q2}{x:Str}{v:dz}:∀ {P:List Str} {vs:List dz} {i:Nat} {m:Str->Option dz},P.Nodup->P[i]? = some x->vs[i]? = some v->kindOf x=some .local ->
  bindL kindOf (P.zip vs) m x=Z v
 |[],_,_,_,_,h,_,_=>by simp at h
 |_::_,[],_,_,_,_,h,_=>by simp at h
 |p::P,w::vs,0,m,nd,h1,h2,hk=>by
  simp at h1 h2;subst h1;subst h2;show bindL kindOf ((p,w)::P.zip vs) m p=_;unfold bindL;rw[sf λv a=>(aO.mp nd).1 (List.of_mem_zip a).1,ak hk];simp
 |p::P,w::vs,i+1,m,nd,h1,h2,hk=>by
  show bindL kindOf ((p,w)::P.zip vs) m x=_;unfold bindL;exact si (i:=i) (aO.mp nd).2 (by simpa using h1) (by simpa using h2) hk
theorem sn{kindOf:Str->Option Q2}{x:Str}{v:dz}:∀ {P:List Str} {vs:List dz} {i:Nat} {m:Str->Option dz},P.Nodup->P[i]? = some x->vs[i]? = some v->kindOf x≠some .local ->
  bindC kindOf (P.zip vs) m x=Z v
 |[],_,_,_,_,h,_,_=>by simp at h
 |_::_,[],_,_,_,_,h,_=>by simp at h
 |p::P,w::vs,0,m,nd,h1,h2,hk=>by
  simp at h1 h2;subst h1;subst h2;show bindC kindOf ((p,w)::P.zip vs) m p=_;unfold bindC;rw[sj λv a=>(aO.mp nd).1 (List.of_mem_zip a).1,aj hk];simp
 |p::P,w::vs,i+1,m,nd,h1,h2,hk=>by
  show bindC kindOf ((p,w)::P.zip vs) m x=_;unfold bindC;exact sn (i:=i) (aO.mp nd).2 (by simpa using h1) (by simpa using h2) hk
noncomputable def jO(N:List Str)(vs:List V):St:=vs.map Z++aP (N.length-vs.length) Y
noncomputable def og(CX:AS)(P:dD)(w:dF)(K:Fg1)(mg:Str->Option dz)(base:dM)(N:List Str)(qual:Str)(scope:dQ)(f:dB)(cd:dz)(A:dE)(outer:List Env)(s:dA)(H:Hp)(E:XK):Cx where
 prog:=P
 w:=w
 K:=K
 mg:=mg
 base:=base
 A:=A.deeper (Q3 qual scope s.heap.objs.size f cd)
 N:=N
 s₀:=s
 H₀:=H
 env:=Q3 qual scope s.heap.objs.size f cd
 outer:=outer
 stack:=Q3 qual scope s.heap.objs.size f cd::outer
 ex:=[]
 calm:=M
 fn:=λ_=>M
 pn:=[]
 xe:=λe s'=>dJ (Qm P w) (A.deeper (Q3 qual scope s.heap.objs.size f cd)) (leaving (Q3 qual scope s.heap.objs.size f cd) e) (λ_ s''=>CX outer H s E e s'') (λe' s''=>CX outer H s E e' s'') s'
theorem vS{a:dQ}{n:Nat}{x:Str}(h:a.names.lookup x=Z .cell):∃c,(Q4 n a.names []).lookup x=Z c:=by
 have q:=Q5 a.names n [] (.inl h);exact aQ.mp q
theorem Ah{CX:AS}{P:dD}{w:dF}{K:Fg1}{mg:Str->Option dz}{base:dM}{N ps:List Str}{g:Str}{scope:dQ}{f:dB}{B:dz}{A:dE}{d:List Env}{s s1:dA}{H:Hp}{E:XK}{C:List dz}{vs:List V}(S:hH N ps scope)(hd:A.handled=none)(j:Hw P w K mg base A d s H)(L:vs.length=ps.length)(r:ez vs C)(x:InCallC s s.heap.objs.size (bindL (Q3 g scope s.heap.objs.size f B).kindOf (ps.zip C) fun _=>none) (Q4 (s.heap.objs.size+1) scope.names []) (bindC (Q3 g scope s.heap.objs.size f B).kindOf (ps.zip C) fun _=>none) s1):
  Inv (og CX P w K mg base N g scope f B A d s H E) [] (jO N vs) H s1:=by
 have ao:ps.length<=N.length:=by have:=congrArg List.length S.pre;rw[aR]at this;lia
 obtain⟨h1,tk,rfl,D⟩:=x.done;have l:∀b:dB,b∉(og CX P w K mg base N g scope f B A d s H E).ex:=λb z=>absurd (show b∈([]:List dB)from z) (by simp);refine⟨⟨j.mod,S.kind,O,O,nR1 _,λy z c h1 h2=>?_,λy m=>?_,λy c _ h=>?_,λ_=>hd,Around.frames_deeper j.frames,.inr ⟨O,O⟩,λb z=>absurd z (l b),j.bs,j.bsz,λb _ _=>l b,λb z=>absurd z (l b),j.funs,j.frf⟩,
  rfl,j.bare,Un.kept D,⟨_,x.toInCall.ns,λi y v h1 h2 aq=>?_⟩,λy c h=>⟨_,x.cell y c h⟩,j.hok.fresh (nR1 _),λy c h=>?_,λp t=>absurd (show p∈([]:List (dB×Obj))from t) (by simp),j.hok.kept D,?_⟩
 ·exact name_of_addr x.apart (Q6 h1) (Q6 h2)
 ·have m:scope.names.lookup y=Z .cell\/scope.names.lookup y=Z .free:=m;rcases m with m|m
  ·exact vS m
  ·exact absurd O (S.nofree _ (Q6 m))
 ·exact Nat.le_of_lt (x.above y c (Q6 h))
 ·have hi:i<vs.length:=by
   unfold jO at h2;by_cases hi:i<vs.length
   ·exact hi
   ·rw[gR1 (by simpa using hi)]at h2;rw[aS]at h2;split at h2<;>cases h2
  have G:vs[i]?=Z v:=by
   unfold jO at h2;rw[gL1 (by simpa using hi),gP1]at h2;cases e:vs[i]? with
   |none=>rw[e]at h2;cases h2
   |some a=>rw[e]at h2;cases h2;rfl
  obtain⟨u,F,I⟩:=r.get G;have t:ps[i]?=Z y:=by
   rw[<- S.pre,aT (by lia)];exact h1
  have o:ps.Nodup:=by rw[<- S.pre];exact S.nd.sublist (aU _ _)
  refine⟨u,I,?_⟩;rcases S.par y (gM1 t)with k|k
  ·exact .inl ⟨k,si o t F k⟩
  ·obtain⟨c,e⟩:=vS (n:=s.heap.objs.size+1) k;refine .inr ⟨.inl k,c,e,?_⟩;have q:=x.cell y c e;rw[sn o t F (by show scope.names.lookup y≠_;rw[k];decide)]at q;exact q
 ·exact j.hok.fresh (Nat.le_of_lt (x.above y c (Q6 h)))
 ·unfold jO;show _=N.length;rw[lA1,lM1,lR1];lia
theorem MK{CX:AS}{P:dD}{w:dF}{K:Fg1}{mg:Str->Option dz}{base:dM}{k:Nat}{f:dB}{name c:Str}{params:Arguments}{g:List dP}{scope:dQ}{L kV B T d ct oc:dz}{av X:Option dB}{C:Array (Option dz)}{N ps:List Str}{sp:Sp}(lk:K.lookup f=some ⟨oc,X,.func (wF1 name c params g scope L kV B T av d ct),C⟩)(hcd:wC1 K d c=true)(S:hH N ps scope)(len:∀vs H Q E,sp vs H Q E->vs.length=ps.length)(j:∀(A:dE) (a:List Env) (s:dA) (H:Hp) (vs:List V) (Q:VK) (E:XK),ga k (A.deeper (Q3 c scope s.heap.objs.size f d))->sp vs H Q E ->
   ∃t,wd (og CX P w K mg base N c scope f d A a s H E) g t/\t {nx:=λ_ H'=>Q .non H',rt:=Q} (jO N vs) H):
  kn P w K mg base CX (k+1) f (wF1 name c params g scope L kV B T av d ct) ps sp:=by
 refine⟨len,λA a s H aq au vs Q E D m hb r p=>?_⟩;have hl:=len _ _ _ _ p;have R:K.In s.heap:=m.mod.kin.keeps λb o e=>(m.bs b o e).1;have F:s.heap.NoLimit:=m.mod.nolimit.keeps λb o e=>(m.bs b o e).1;have i:∀y∈ps.zip au,scope.names.lookup y.1=Z .local\/(scope.names.lookup y.1=Z .cell/\((Q4 (s.heap.objs.size+1) scope.names []).lookup y.1).isSome=M):=λ⟨n,v⟩ W=>by
  rcases S.par n (List.of_mem_zip W).1 with q|q
  ·exact .inl q
  ·exact .inr ⟨q,Q5 _ _ _ (.inl q)⟩
 refine codeAny_call_function D.depth (R _ _ lk) O S.co S.gen O (PySem.W.codeRec_of R hcd) (hb _ _ _ _ ?_);refine wpAny_newFunctionEnv_cells S.kind i λwq he s1 x=>?_;subst he;refine⟨F.keeps x.toInCall.keep,codeAny_func ?_⟩;obtain⟨t,ht,U⟩:=j A a s H vs Q E (D.deeper _) p;have I:Inv (og CX P w K mg base N c scope f d A a s H E) [] (jO N vs) H s1:=Ah S D.hd m hl r x;refine Qo (ht [] s1 (jO N vs) H _ I U) (λfl s' l=>?_) λe s' l=>l;have z:∀{h:St} {H':Hp} {v:V} {u:dz},Inv (og CX P w K mg base N c scope f d A a s H E) [] h H' s'->eg v u->Q v H'->CE a P w H s Q u s':=
  λ{h H' v u} ao G q=>⟨v,H',ao.os,ao.bare,ao.base,ao.hok,G,q⟩
 cases fl with
 |ret u=>
  obtain⟨v,h,H',ao,G,q⟩:=l;exact z ao G q
 |next=>
  obtain⟨h,H',ao,q⟩:=l;exact z (v:=V.non) (u:=P9) ao O q
 |brk=>
  obtain⟨_,_,_,q⟩:=l;exact Qs q
 |cont=>
  obtain⟨_,_,_,q⟩:=l;exact Qs q
section
variable{x:Str}{p pos:Pos}{e:Expr}{es:List Expr}{t:TA}{id T:String}{r:List V->Hp->VK->Prop}
def OR(r:List V->Hp->VK->Prop)(t:TA):TE:=fun σ H Q=>t σ H λvs H1=>r vs H1 Q
theorem l6 (hc:fc X (.builtin id) r)(hg:Gl X x)(hm:X.mg x=none)(hv:Qg x=some (.builtin id))(ha:PA X (e::es) t)(hn:autoParam (x≠"__name__") bu0)(hdb:autoParam ((x == ("__debug__":Str))=false) bu0)
  (he:autoParam (dH (e::es) X.env=(J,eval e X.env)::dH es X.env) cu0) (hpl:autoParam ((Qn pos (dH es X.env)).any (·.1)=J) cu0):PE X (.Call (.Name x p) (e::es) [] pos) (OR r t):=by
 intro ag s σ H Q I h;refine Q0 (j2 I hg hm hv ?_ hn hdb);exact PyProof.Rows.callWith_builtin1 (fx (ha pos ag s σ H _ I h) λb d ⟨vs,H1,a,c,f⟩=>hc ag d σ H1 vs b Q a c f) he hpl
theorem kE (hc:fc X (.type T) r)(hg:Gl X x)(hm:X.mg x=none)(hv:Qg x=some (.type T))(ha:PA X (e::es) t)(hn:autoParam (x≠"__name__") bu0)(hdb:autoParam ((x == ("__debug__":Str))=false) bu0)
  (he:autoParam (dH (e::es) X.env=(J,eval e X.env)::dH es X.env) cu0) (hpl:autoParam ((Qn pos (dH es X.env)).any (·.1)=J) cu0):PE X (.Call (.Name x p) (e::es) [] pos) (OR r t):=by
 intro ag s σ H Q I h;refine Q0 (j2 I hg hm hv ?_ hn hdb);exact QN (fx (ha pos ag s σ H _ I h) λb d ⟨vs,H1,a,c,f⟩=>hc ag d σ H1 vs b Q a c f) he hpl
end
end L2
namespace HT
open PySem PyProof.Rows
section
open PySem.SeqAt
open PySem.AutoSeq1 (wpAny_loadPart')
open PySem.MeetsSeq PySem.MeetsSeq2 PySem.MeetsSeq3
end
section
variable{prog:dD}{w:dF}{A:dE}{E:dz->dA->Prop}{s:dA}
theorem G9 {t b:dB}{vs ws:List dz}{Q:dz->dA->Prop}(ht:Qd s.heap t vs.toArray)(hb:Qd s.heap b ws.toArray)(hv:vs≠[])
  (h1:ws=[]->Q (.ref t) s) (h2:ws≠[]->Q (.ref s.heap.objs.size) {s with heap:=s.heap.push {cls:=.type "tuple",data:=.seq (vs++ws).toArray}})
  (hsz:vs.length+ws.length<=dI):dJ (Qm prog w) A (QP .Add (.ref t) (.ref b)) Q E s:=by
 obtain⟨⟨cls,l,data,k⟩,i,hc,n,m⟩:=id ht;obtain⟨⟨o,c,j,d⟩,a,g,p,f⟩:=id hb;simp only at hc m g f;subst hc m g f;have e:vs.toArray++ws.toArray=(vs++ws).toArray:=by simp
 by_cases h:ws=[]
 ·exact concat_meets ⟨_,i,rfl⟩ ⟨_,a,rfl⟩ noFill_tuple_add seq_tuple_add Q7 Q8 (Q9 _ _)
   (tuple_addW1 t b vs.toArray ws.toArray n p l c k d (by simpa using hv) (by simp[h])) ⟨i,a,h1 h⟩
 ·refine concat_meets ⟨_,i,rfl⟩ ⟨_,a,rfl⟩ noFill_tuple_add seq_tuple_add Q7 Q8 (Q9 _ _)
   (tuple_addW2 t b vs.toArray ws.toArray n p l c k d (by simpa using hv) (by simpa using h) (by rw[sT1,sT1];exact hsz)) ⟨i,a,?_⟩
  rw[e];exact h2 h
noncomputable def sIx(n d:Nat):Option Int->Nat
 |none=>d
 |some v=>if v<0 then(v+(n:Int)).toNat else min v.toNat n
theorem uG(n d:Nat):sIx n d Y=d:=rfl
theorem xV(n d k:Nat):sIx n d (Z (k:Int))=min k n:=by
 show(if(k:Int)<0 then((k:Int)+(n:Int)).toNat else min (k:Int).toNat n)=min k n;rw[aj (by lia),Ra]
theorem IK(n d:Nat)(hd:d<=n)(o:Option Int):sIx n d o<=n:=by
 cases o with
 |none=>exact hd
 |some v=>
  show(if v<0 then(v+(n:Int)).toNat else min v.toNat n)<=n;by_cases a:v<0
  ·rw[ak a];lia
  ·rw[aj a];exact Nat.min_le_right _ _
theorem yW(v:Int)(n d:Nat):(if v<0 then max (v+(n:Int)) 0 else min v (n:Int))=((sIx n d (Z v):Nat):Int):=by
 show(if v<0 then max (v+(n:Int)) 0 else min v (n:Int))=(((if v<0 then(v+(n:Int)).toNat else min v.toNat n):Nat):Int);by_cases a:v<0
 ·simp only[ak a];lia
 ·simp only[aj a];lia
theorem xj(lo hi:Option Int)(n:Nat):Rb lo hi 1 (n:Int)=(((sIx n 0 lo:Nat):Int),((sIx n n hi:Nat):Int)):=by
 have h1:¬ ((1:Int)<0):=by lia
 unfold Rb;simp only[h1,Rc];refine Prod.ext ?_ ?_
 ·cases lo with
  |none=>rfl
  |some v=>exact yW v n 0
 ·cases hi with
  |none=>rfl
  |some v=>exact yW v n n
theorem wC(i j:Nat):Re (i:Int) (j:Int) 1=j-i:=by
 unfold Re;have h1:(1:Int)>0:=by lia
 simp only[h1,Rf,Int.ediv_one];split<;>lia
theorem oP{v:dz}{o:Option Int}{Q:Option Int->dA->Prop}(p:Rg v o)(h:Q o s):dJ (Qm prog w) A (Builtin.Slice.slicePartIndex v) Q E s:=by
 cases p with
 |none=>exact slicePart_none h
 |int i t=>exact slicePart_int h
theorem i7{sl:dB}{c d:dz}{lo hi:Option Int}{n:Nat}{Q:Int×Int×Nat->dA->Prop}(hs:s.heap.IsSliceOf sl c d .none)(pl:Rg c lo)(e:Rg d hi)(h:Q (((sIx n 0 lo:Nat):Int),1,sIx n n hi-sIx n 0 lo) s):dJ (Qm prog w) A (Builtin.Slice.sliceApplied (.ref sl) (pure (n:Int))) Q E s:=by
 obtain⟨g,a,f,b⟩:=id hs;unfold Builtin.Slice.sliceApplied Builtin.Slice.sliceFields;refine wB1 (wB1 (Rh a b (x:=c) O (wB1 (Rh a b (x:=d) O (wB1 (Rh a b (x:=.none) O (wP1 ?_)))))));refine wB1 (slicePart_none ?_);show dJ _ _ (if((1:Int) == 0)=M then _ else _) _ _ s;rw[aj (by decide)];refine wB1 (oP pl (wB1 (oP e (wB1 (wP1 ?_)))));show dJ _ _ (match Rb lo hi 1 (n:Int)with|(lo,hi)=>pure (lo,(1:Int),Re lo hi 1)) _ _ s;rw[xj lo hi n];show dJ _ _ (pure (((sIx n 0 lo:Nat):Int),(1:Int),Re ((sIx n 0 lo:Nat):Int) ((sIx n n hi:Nat):Int) 1)) _ _ s;rw[wC];exact wP1 h
theorem B8(xs:Array dz)(i k:Nat):((af k).filterMap λ(m:Nat)=>xs[((i:Int)+(m:Int)*1).toNat]?).toArray=((xs.toList.drop i).take k).toArray:=by
 have e:(λ(m:Nat)=>xs[((i:Int)+(m:Int)*1).toNat]?)=λm=>xs[i+m]?:=by
  funext m
  have:((i:Int)+(m:Int)*1).toNat=i+m:=by lia
  rw[this]
 rw[e];have:=pick_run xs i k;rw[List.filterMap_map]at this;have a:((λx=>xs[x]?)∘λx=>i+x)=λm=>xs[i+m]?:=rfl;rw[a]at this;rw[this]
theorem mr {t sl:dB}{items:Array dz}{f g:dz}{lo hi:Option Int}{Q:dz->dA->Prop}(ht:Qd s.heap t items)(hs:s.heap.IsSliceOf sl f g .none)(pl:Rg f lo)(j:Rg g hi)
  (hw:¬ (sIx items.size 0 lo=0/\sIx items.size items.size hi=items.size))
  (h:Q (.ref s.heap.objs.size) {s with heap:=s.heap.push {cls:=.type "tuple",data:=.seq ((items.toList.drop (sIx items.size 0 lo)).take (sIx items.size items.size hi-sIx items.size 0 lo)).toArray}})
  (hsz:items.size<=dI):dJ (Qm prog w) A (getItem (.ref t) (.ref sl)) Q E s:=by
 have a:sizeOk (.seq ((items.toList.drop (sIx items.size 0 lo)).take (sIx items.size items.size hi-sIx items.size 0 lo)).toArray):=by
  show((items.toList.drop (sIx items.size 0 lo)).take (sIx items.size items.size hi-sIx items.size 0 lo)).toArray.size<=dI;rw[sT1,aR,List.length_drop,aK];omega
 have l:sIx items.size items.size hi<=items.size:=IK _ _ (nR1 _) hi;obtain⟨i,e,d,k⟩:=id hs;have b:s.TypeIs (.ref sl) "slice":=⟨i,e,d⟩;unfold getItem
 try with_reducible refine QA ?_
 first|refine wB1 (wP1 ?_)|skip
 refine wB1 (wpAny_sequenceKey ht.typeIs (by decide) ?_);refine wB1 (Ri (name:=Rj "__getitem__") ht.typeIs Rk
  (wE1 Rk ht.typeIs entry_tuple_getitem ?_ (args_tuple_getitem _ _)))
 show dJ _ _ (Rl (.ref t) >>= _) _ _ s;refine wB1 (tupleItemsOf_ ht ?_);refine wB1 (Rm b ?_);rw[ak (by decide)];refine wB1 (i7 hs pl j ?_);have c:¬ ((((sIx items.size 0 lo:Nat):Int) == 0&&(1:Int) == 1&&(sIx items.size items.size hi-sIx items.size 0 lo) == items.size)=M):=by
  intro q;rw[bA1,bA1]at q;have o:((sIx items.size 0 lo:Nat):Int)=0:=eq_of_beq q.1.1;have n:sIx items.size items.size hi-sIx items.size 0 lo=items.size:=eq_of_beq q.2;exact hw ⟨by omega,by omega⟩
 show dJ _ _ (if(((sIx items.size 0 lo:Nat):Int) == 0&&(1:Int) == 1&&(sIx items.size items.size hi-sIx items.size 0 lo) == items.size)=M then _ else _) _ _ s;rw[aj c,B8]
 first
  |exact wB1 (m:=Rn _) (wO1 (wP1 ⟨_,rfl,wP1 h⟩) a)
  |exact wB1 (m:=Rn _) (wO1 (wB1 (wP1 (wP1 ⟨_,rfl,wP1 h⟩))) a)
  |exact wB1 (wB1 (m:=Rn _) (wO1 (wP1 (wP1 ⟨_,rfl,wP1 h⟩)) a))
  |exact wB1 (wB1 (m:=Rn _) (wO1 (wP1 ⟨_,rfl,wP1 h⟩) a))
end
end HT
namespace L2
open PySem PySem.Spec PyProof.Rows
abbrev TO:=St->Hp->(Option Int->Hp->Prop)->Prop
def PO(X:Cx)(e:Option Expr)(t:TO):Prop:=
 ∀(ag:List (dB×Obj)) (s:dA) (σ:St) (H:Hp) (Q:Option Int->Hp->Prop),Inv X ag σ H s->t σ H Q ->
  dJ (Qm X.prog X.w) X.A (evalPart e X.env) (λu s'=>∃o H',Inv X ag σ H' s'/\Rg u o/\Q o H') X.xe s
noncomputable def EY:TO:=λ_ H Q=>Q Y H
noncomputable def LF(t:TE):TO:=fun σ H Q=>t σ H λx H1=>∃i,x = .int i/\Q (Z i) H1
variable{X:Cx}
section
variable{e:Expr}{te:TE}{lo hi:Option Expr}{tl th:TO}{pos p2:Pos}
theorem Fx:PO X Y EY:=by
 intro ag s σ H Q I h;rw[evalPart_none];exact wP1 ⟨Y,H,I,.none,h⟩
theorem Fw(h:PE X e te):PO X (Z e) (LF te):=by
 intro ag s σ H Q I c;rw[evalPart_some];refine fx (h ag s σ H _ I c) λu f ⟨x,H1,a,b,d⟩=>?_;obtain⟨i,rfl,q⟩:=d;obtain⟨t,rfl⟩:=b;exact⟨Z i,H1,a,.int i t,q⟩
def EF(X:Cx)(r:V->Option Int->Option Int->Hp->VK->Prop):Prop:=
 ∀(ag:List (dB×Obj)) (s:dA) (σ:St) (H:Hp) (x:V) (v vl vu:dz) (lo hi:Option Int) (sl:dB) (Q:VK),Inv X ag σ H s->eg x v->s.heap.IsSliceOf sl vl vu .none->Rg vl lo->Rg vu hi->r x lo hi H Q ->
  ∃T id,typeLookup (.type T) "__getitem__"=pure (Z (.builtin id))/\s.TypeIs v T/\dJ (Qm X.prog X.w) X.A (getItem v (.ref sl)) (EP X ag σ Q) X.xe s
theorem EF.or{r c:V->Option Int->Option Int->Hp->VK->Prop}(h:EF X r)(h':EF X c):EF X (λx lo hi H Q=>r x lo hi H Q\/c x lo hi H Q):=by
 intro ag s σ H x v d e lo hi a Q I f g pl b q;rcases q with q|q
 ·exact h ag s σ H x v d e lo hi a Q I f g pl b q
 ·exact h' ag s σ H x v d e lo hi a Q I f g pl b q
def Pa(r:V->Option Int->Option Int->Hp->VK->Prop)(te:TE)(tl th:TO):TE:=fun σ H Q=>te σ H λx H1=>tl σ H1 λl H2=>th σ H2 λu H3=>r x l u H3 Q
theorem Cc{r:V->Option Int->Option Int->Hp->VK->Prop}(hr:EF X r)(he:PE X e te)(t:PO X lo tl)(k:PO X hi th):PE X (.Subscript e (.Slice lo hi Y p2) pos) (Pa r te tl th):=by
 intro ag s σ H Q I h;refine Subscript_ (fx (he ag s σ H _ I h) λv A ⟨x,H1,p,m,z⟩=>?_);refine wpAny_Slice (fx (t ag A σ H1 _ p z) λd y ⟨l,H2,j,pl,C⟩=>fx (k ag y σ H2 _ j C) λc a ⟨u,f,o,g,i⟩=>?_);rw[evalPart_none];refine wP1 ?_;have w:Inv X ag σ f {a with heap:=a.heap.push {cls:=.type "slice",data:=.fields #[d,c,.none]}}:=o.kept (t':=a.toks) λb E q=>hP1 _ q;obtain⟨T,id,n,D,B⟩:=hr ag {a with heap:=a.heap.push {cls:=.type "slice",data:=.fields #[d,c,.none]}} σ f x v d c l u a.heap.objs.size Q w m (Heap.IsSliceOf.new ..) pl g i;show dJ (Qm X.prog X.w) X.A (Ro e (.Slice lo hi Y p2) v (.ref a.heap.objs.size)) (EP X ag σ Q) X.xe {a with heap:=a.heap.push {cls:=.type "slice",data:=.fields #[d,c,.none]}};exact tail_any (ops:=[.ref a.heap.objs.size,v]) D n B (by with_unfolding_all rfl)
def vK(xs:List V)(lo hi:Option Int):List V:=(xs.drop (HT.sIx xs.length 0 lo)).take (HT.sIx xs.length xs.length hi-HT.sIx xs.length 0 lo)
theorem nN(xs:List V)(lo hi:Option Int):(vK xs lo hi).length<=xs.length:=by
 unfold vK;rw[aR,List.length_drop];lia
def N3(K:Fg1):V->Option Int->Option Int->Hp->VK->Prop:=λx lo hi H Q=>∃a xs,x = .ref a/\kS K H a xs /\
 ¬ (HT.sIx xs.length 0 lo=0/\HT.sIx xs.length xs.length hi=xs.length) /\ ∀p,H p=Y->Q (.ref p) (upd H p (.tup (vK xs lo hi)))
theorem IG:EF X (N3 X.K):=by
 intro ag s σ H x v p t lo hi m Q I j k pl g h;obtain⟨a,xs,rfl,l,i,q⟩:=h;cases j;obtain⟨d,r,f,e⟩:=I.tuple l;have c:d.toArray.size=xs.length:=by rw[sT1];exact r.length.symm
 refine⟨"tuple",_,PyProof.Rows.slot_tuple_getitem.lookup,f.typeIs,?_⟩;refine HT.mr f k pl g (by rw[c];exact i) ?_ (by rw[c];exact e);rw[c];refine⟨.ref s.heap.objs.size,_,I.laid (t':=s.toks) (o:=.tup (vK xs lo hi)) (λb n q=>hP1 _ q) (nR1 _) ?_,O,q _ (I.hok.fresh (nR1 _))⟩;exact⟨aD (nN xs lo hi) e,_,(r.drop (HT.sIx xs.length 0 lo)).take (HT.sIx xs.length xs.length hi-HT.sIx xs.length 0 lo),mP.new _ _⟩
def L0(K:Fg1):R2:=λx y H Q=>∃a b xs ys,x = .ref a/\y = .ref b/\kS K H a xs/\kS K H b ys/\xs≠[]/\xs.length+ys.length<=dI /\
 (ys=[]->Q (.ref a) H)/\(ys≠[] -> ∀p,H p=Y->Q (.ref p) (upd H p (.tup (xs++ys))))
theorem ez.nil_iff{xs:List V}{a:List dz}(r:ez xs a):a=[]↔xs=[]:=by
 cases r with
 |nil=>simp
 |cons _ _=>simp
theorem FU:gU X (QP .Add) (L0 X.K):=by
 intro ag s σ H x y v u Q I l j h;obtain⟨a,b,xs,ys,rfl,rfl,g,f,n,e,p,m⟩:=h;cases l;cases j;obtain⟨i,c,k,_⟩:=I.tuple g;obtain⟨d,r2,p2,_⟩:=I.tuple f;refine HT.G9 k p2 (λz=>n (c.nil_iff.mp z)) (λz=>⟨.ref a,H,I,O,p (r2.nil_iff.mp z)⟩) (λz=>?_) (by rw[<- c.length,<- r2.length];exact e);refine⟨.ref s.heap.objs.size,_,I.laid (t':=s.toks) (o:=.tup (xs++ys)) (λb r q=>hP1 _ q) (nR1 _) ?_,O,m (λw=>z (r2.nil_iff.mpr w)) _ (I.hok.fresh (nR1 _))⟩;exact⟨by rw[lA1];exact e,_,c.append r2,mP.new _ _⟩
end
noncomputable def Ag(n:Nat)(i:Int):Option Nat:=if 0<=i then(if i<n then Z i.toNat else Y)else if-(n:Int)<=i then Z (i+n).toNat else Y
def xh{α:Type}(xs:List α)(i:Int):Option α:=(Ag xs.length i).bind λj=>xs[j]?
theorem tP{n:Nat}{i:Int}{j:Nat}(h:Ag n i=Z j):seqIndex? i n=Z j/\j<n /\ -(n:Int)<=i/\i<n:=by
 unfold Ag at h;by_cases a:0<=i
 ·rw[ak a]at h;by_cases h1:i<n
  ·rw[ak h1]at h;have e:i.toNat=j:=Option.some.inj h;exact⟨by rw[seqIndex_of a h1,e],by lia,by lia,h1⟩
  ·rw[aj h1]at h;cases h
 ·rw[aj a]at h;by_cases h1: -(n:Int)<=i
  ·rw[ak h1]at h;have e:(i+n).toNat=j:=Option.some.inj h;exact⟨by rw[seqIndex_neg (by lia) h1,e],by lia,h1,by lia⟩
  ·rw[aj h1]at h;cases h
theorem zd{α:Type}{xs:List α}{i:Int}{v:α}(h:xh xs i=Z v):∃j,seqIndex? i xs.length=Z j/\xs[j]?=Z v/\j<xs.length /\ -(xs.length:Int)<=i/\i<xs.length:=by
 unfold xh at h;cases e:Ag xs.length i with
 |none=>rw[e]at h;cases h
 |some j=>
  rw[e]at h;obtain⟨h1,h2,a,b⟩:=tP e;exact⟨j,h1,h,h2,a,b⟩
def oD(b:Expr):Prop:=∀o i,subscripted b J o i=operate [o,i] (getItem o i)
def H7(X:Cx)(r:R2):Prop:=
 ∀(value slice:Expr) (ag:List (dB×Obj)) (s:dA) (σ:St) (H:Hp) (x y:V) (v u:dz) (Q:VK),Inv X ag σ H s->eg x v->eg y u->r x y H Q ->
  subscripted slice J v u=operate [v,u] (getItem v u)->dJ (Qm X.prog X.w) X.A (Ro value slice v u) (EP X ag σ Q) X.xe s
def Et(X:Cx)(id:String)(r:V->List V->Hp->VK->Prop):Prop:=
 ∀(ag:List (dB×Obj)) (s:dA) (σ:St) (H:Hp) (x:V) (xs:List V) (v:dz) (us:List dz) (Q:VK),Inv X ag σ H s->eg x v->ez xs us->r x xs H Q ->
  dJ (Qm X.prog X.w) X.A (call (.builtin id) (v::us)) (EP X ag σ Q) X.xe s
section
variable{a b:Expr}{ta tb:TE}{pos:Pos}
theorem L8{r:R2}(hr:H7 X r)(ha:PE X a ta)(hb:PE X b tb)(hs:oD b):PE X (.Subscript a b pos) (LG r ta tb):=by
 intro ag s σ H Q I h;exact Subscript_ (K5 ha hb I h λv u f x y H2 c e d q=>hr a b ag f σ H2 x y v u Q c e d q (hs _ _))
def N6(K:Fg1):R2:=λx y H Q=>∃p xs i v,x = .ref p/\y = .int i/\nq K H p xs/\xh xs i=Z v/\Q v H
def N5(K:Fg1):R2:=λx y H Q=>∃p xs i v,x = .ref p/\y = .int i/\kS K H p xs/\xh xs i=Z v/\Q v H
theorem GD:H7 X (N6 X.K):=by
 intro value c ag s σ H x y v u Q I B A h g;obtain⟨p,xs,i,z,rfl,rfl,m,o,q⟩:=h;cases B;obtain⟨t,rfl⟩:=A;obtain⟨d,r,pl,E⟩:=I.list m;obtain⟨j,h1,h2,F,n,C⟩:=zd o;obtain⟨w,k,b⟩:=r.get h2;have l:=r.length;have D:=m6;have a:EP X ag σ Q w s:=⟨z,H,I,b,q⟩;by_cases f:0<=i
 ·have e:i.toNat=j:=by
   rw[seqIndex_of f C]at h1;exact Option.some.inj h1
  exact item_listR pl.isList f (by lia) (by rw[e];simpa using k) a g
 ·have e:(i+(d.toArray.size:Int)).toNat=j:=by
   rw[seqIndex_neg (by lia) n]at h1;rw[sT1,<- l];exact Option.some.inj h1
  exact subscriptTail_builtinR (x:=w) pl.isList.typeIs slot_list_getitem.lookup
   (wpAny_getItem_list_neg (Q:=λr s'=>r=w/\EP X ag σ Q r s') pl.isList (by lia) (by rw[sT1]<;>lia) (by lia) (by rw[e];simpa using k) ⟨O,a⟩) g
theorem Kx:H7 X (N5 X.K):=by
 intro value b ag s σ H x y v u Q I k l h m;obtain⟨p,xs,i,z,rfl,rfl,e,g,q⟩:=h;cases k;obtain⟨t,rfl⟩:=l;obtain⟨f,r,pl,B⟩:=I.tuple e;obtain⟨j,h1,h2,C,A,D⟩:=zd g;obtain⟨w,n,a⟩:=r.get h2;have d:=r.length;have o:=m6;have c:EP X ag σ Q w s:=⟨z,H,I,a,q⟩;exact subscriptTail_builtinR (x:=w) pl.typeIs slot_tuple_getitem.lookup
  (getItem_tuple (j:=j) (Q:=λr s'=>r=w/\EP X ag σ Q r s') pl (by lia) (by lia) (by rw[sT1,<- d];exact h1) (by simpa using n) ⟨O,c⟩) m
theorem wQ(its:List dz)(n j:Nat)(u:dz):Rp (·.setIfInBounds j u) {cls:=.type "list",data:=.seq its.toArray n}={cls:=.type "list",data:=.seq (its.set j u).toArray n}:=by
 simp[Rp]
theorem Inv.lst{ag:List (dB×Obj)}{σ:St}{H:Hp}{s:dA}{p:dB}{xs:List V}(I:Inv X ag σ H s)(h:H p=some (.lst xs)):
  ∃(its:List dz) (n:Nat),ez xs its/\s.heap.get? p=Z {cls:=.type "list",data:=.seq its.toArray n}/\xs.length<=dI:=by
 obtain⟨z,its,n,r,e⟩:=I.hok p _ h;exact⟨its,n,r,e,z⟩
theorem Inv.lstUpd {ag:List (dB×Obj)}{σ:St}{H:Hp}{s:dA}{p:dB}{xs ys:List V}{its its':List dz}{n a:Nat}{f:Obj->Obj}(I:Inv X ag σ H s)(h:H p=some (.lst xs))
  (ho:s.heap.get? p=Z {cls:=.type "list",data:=.seq its.toArray n}) (hf:f {cls:=.type "list",data:=.seq its.toArray n}={cls:=.type "list",data:=.seq its'.toArray a}) (r:ez ys its') (hz:ys.length<=dI) (t:Nat):
  Inv X ag σ (upd H p (.lst ys)) {s with heap:=s.heap.update p f,toks:=t}:=by
 have e:(s.heap.update p f).get? p=Z {cls:=.type "list",data:=.seq its'.toArray a}:=by
  rw[hW1 f ho (by rw[hf]<;>rfl),hf]
 refine I.write (x:=p) (e:=p) (by rw[h];trivial) (.inl O) (λb u c q=>(Heap.get?_update_other _ _ (Qk c)).trans q) ⟨_,e⟩ ?_;exact⟨hz,its',a,r,e⟩
def LX:V->V->V->Hp->(Hp->Prop)->Prop:=λo i v H Q=>∃p xs k j,o = .ref p/\i = .int k/\H p=Z (.lst xs)/\Ag xs.length k=Z j/\Q (upd H p (.lst (xs.set j v)))
theorem BN:xr X LX:=by
 intro ag s σ H o i v C D u Q I y A w h;obtain⟨p,xs,k,j,rfl,rfl,g,x,q⟩:=h;cases y;obtain⟨t,rfl⟩:=A;obtain⟨a,n,r,d,z⟩:=I.lst g;obtain⟨h1,h2,l,e⟩:=tP x;have b:=r.length;have B:=m6;have m:Inv X ag σ (upd H p (.lst (xs.set j v))) {s with heap:=s.heap.update p (Rp (·.setIfInBounds j u))}:=
  I.lstUpd g d (wQ a n j u) (r.set w j) (by rw[aV];exact z) s.toks
 by_cases f:0<=k
 ·have c:k.toNat=j:=by
   rw[seqIndex_of f e]at h1;exact Option.some.inj h1
  exact PySem.W.ki_setAt d f (by lia) (by rw[sT1,<- b];exact e) (by rw[c];exact⟨_,m,q⟩)
 ·have c:(k+(a.toArray.size:Int)).toNat=j:=by
   rw[seqIndex_neg (by lia) l]at h1;rw[sT1,<- b];exact Option.some.inj h1
  exact PySem.W.ki_setBack d (by lia) (by rw[sT1,<- b];exact l) (by lia) (by rw[c];exact⟨_,m,q⟩)
theorem sK(lo hi:Option Int)(n:Nat):(Rq lo hi Y n).1=((HT.sIx n 0 lo:Nat):Int)/\(Rq lo hi Y n).2.1=((HT.sIx n n hi:Nat):Int)/\(Rq lo hi Y n).2.2=1:=by
 refine⟨?_,?_,O⟩
 ·cases lo with
  |none=>simp[Rq,HT.sIx]
  |some i=>
   simp only[Rq,HT.sIx,Option.getD_none,show(1:Int)>0 by decide,Rf];by_cases h:i<0
   ·simp only[h,Rf]<;>lia
   ·simp only[h,Rc]<;>lia
 ·cases hi with
  |none=>simp[Rq,HT.sIx]
  |some i=>
   simp only[Rq,HT.sIx,Option.getD_none,show(1:Int)>0 by decide,Rf];by_cases h:i<0
   ·simp only[h,Rf]<;>lia
   ·simp only[h,Rc]<;>lia
theorem qm(its:List dz)(lo hi:Option Int):slicePick its.toArray lo hi Y=((its.drop (HT.sIx its.length 0 lo)).take (HT.sIx its.length its.length hi-HT.sIx its.length 0 lo)).toArray:=by
 obtain⟨h1,h2,a⟩:=sK lo hi its.toArray.size;unfold slicePick;rw[h1,h2,a];simp only[sliceRange_one,pick_run,sT1]<;>rfl
def N4(K:Fg1):V->Option Int->Option Int->Hp->VK->Prop:=λx lo hi H Q=>∃a xs,x = .ref a/\nq K H a xs /\ ∀p,H p=Y->Q (.ref p) (upd H p (.lst (vK xs lo hi)))
theorem E9:EF X (N4 X.K):=by
 intro ag s σ H x v n p lo hi l Q I i j pl e h;obtain⟨a,xs,rfl,k,q⟩:=h;cases i;obtain⟨f,r,d,g⟩:=I.list k;have c:=r.length;refine⟨"list",_,slot_list_getitem.lookup,d.isList.typeIs,?_⟩;refine wpAny_getItem_list_slice d.isList j pl e .none (by simp) ?_ (by rw[sT1]<;>lia);rw[qm,<- c];refine⟨.ref s.heap.objs.size,_,I.laid (t':=s.toks) (o:=.lst (vK xs lo hi)) (λb m q=>hP1 _ q) (nR1 _) ?_,O,q _ (I.hok.fresh (nR1 _))⟩;exact⟨aD (nN xs lo hi) g,_,0,(r.drop (HT.sIx xs.length 0 lo)).take (HT.sIx xs.length xs.length hi-HT.sIx xs.length 0 lo),hS1 _ O⟩
noncomputable def lm:V->Bool
 | .non=>M
 | .bl _=>M
 | .int _=>M
 | .str _=>M
 |_=>J
noncomputable def wc:V->V->Bool
 | .non,.non=>M
 | .bl a,.bl b=>a == b
 | .bl a,.int b=>(if a then 1 else 0) == b
 | .int a,.bl b=>a == (if b then 1 else 0)
 | .int a,.int b=>a == b
 | .str a,.str b=>a == b
 |_,_=>J
theorem lG{A:dE}{s:dA}{y x:V}{u v:dz}(f:eg y u)(c:eg x v)(g:lm y=M)(e:lm x=M):Rr A s u v (wc y x):=by
 cases y with
 |non=>
  cases f;cases x with
  |non=>cases c;exact SeqAt.EqAt.same _
  |bl b=>cases c;exact SeqAt.EqAt.none_bool b
  |int b=>obtain⟨t,rfl⟩:=c;exact SeqAt.EqAt.none_int b t
  |str b=>obtain⟨t,rfl⟩:=c;exact SeqAt.EqAt.none_str b t
  |_=>exact absurd (show J=M from e) aL
 |bl a=>
  cases f;cases x with
  |non=>cases c;exact SeqAt.EqAt.bool_none a
  |bl b=>cases c;exact SeqAt.EqAt.bool_bool a b
  |int b=>obtain⟨t,rfl⟩:=c;exact SeqAt.EqAt.bool_int a b t
  |str b=>obtain⟨t,rfl⟩:=c;exact SeqAt.EqAt.bool_str a b t
  |_=>exact absurd (show J=M from e) aL
 |int a=>
  obtain⟨d,rfl⟩:=f;cases x with
  |non=>cases c;exact SeqAt.EqAt.int_none a d
  |bl b=>cases c;exact SeqAt.EqAt.int_bool a d b
  |int b=>obtain⟨t,rfl⟩:=c;exact SeqAt.EqAt.int_int a d b t
  |str b=>obtain⟨t,rfl⟩:=c;exact SeqAt.EqAt.int_str a d b t
  |_=>exact absurd (show J=M from e) aL
 |str a=>
  obtain⟨d,rfl⟩:=f;cases x with
  |non=>cases c;exact SeqAt.EqAt.str_none a d
  |bl b=>cases c;exact SeqAt.EqAt.str_bool a d b
  |int b=>obtain⟨t,rfl⟩:=c;exact SeqAt.EqAt.str_int a d b t
  |str b=>obtain⟨t,rfl⟩:=c;exact SeqAt.EqAt.str_str a d b t
  |_=>exact absurd (show J=M from e) aL
 |_=>exact absurd (show J=M from g) aL
theorem ug:fc X (.builtin "len") (λxs H Q=>∃p ys,xs=[.ref p]/\(nq X.K H p ys\/kS X.K H p ys)/\Q (.int ys.length) H):=by
 intro ag s σ H xs i Q I r h;obtain⟨p,ys,rfl,b,q⟩:=h;obtain⟨u,rfl,f⟩:=iP r;cases f;have g:=m6;rcases b with b|b
 ·obtain⟨d,c,pl,e⟩:=I.list b;have a:=c.length;exact Calls.call_len_list pl.isList (by simp only[sT1]<;>lia) ⟨.int ys.length,H,I.tok _,⟨s.toks+1,by rw[sT1,a]⟩,q⟩
 ·obtain⟨d,c,pl,e⟩:=I.tuple b;have a:=c.length;exact len_tuple pl (by simp only[sT1]<;>lia) ⟨.int ys.length,H,I.tok _,⟨s.toks+1,by rw[sT1,a]⟩,q⟩
theorem uf:fc X (.builtin "len") (λxs H Q=>∃z,xs=[.str z]/\z.length<=dI/\Q (.int z.length) H):=by
 intro ag s σ H xs a Q I r h;obtain⟨z,rfl,b,q⟩:=h;obtain⟨u,rfl,t,rfl⟩:=iP r;have c:=m6;exact len_str (by lia) ⟨.int z.length,H,I.tok _,⟨_,O⟩,q⟩
theorem ue:fc X (.type "list") (λxs H Q=>∃p ys,xs=[.ref p]/\(nq X.K H p ys\/kS X.K H p ys) /\ ∀l,H l=Y->Q (.ref l) (upd H l (.lst ys))):=by
 intro ag s σ H xs w Q I r h;obtain ⟨p,ys,rfl,g,q⟩:=h;obtain ⟨u,rfl,v⟩:=iP r;cases v;have k:∀ (a:List dz),ez ys a->ys.length<=dI -> ∀ (h':dM) (c:Nat),(∀ b o',s.heap.get? b=some o'->h'.get? b=some o') ->
   h'.get? s.heap.objs.size=Z {cls:=.type "list",dict:=Y,data:=.seq a.toArray c,slots:= #[]}->EP X ag σ Q (.ref s.heap.objs.size) {s with heap:=h'}:=λa d j h' c i e=>
  ⟨.ref s.heap.objs.size,_,I.laid (t':=s.toks) i (nR1 _) (show e9 X.prog X.w _ h' _ (.lst ys)from⟨j,a,c,d,e⟩),O,q _ (I.hok.fresh (nR1 _))⟩
 rcases g with g|g
 ·obtain⟨a,d,pl,j⟩:=I.list g;have f:=d.length;obtain⟨o,t,hc,n,m⟩:=pl.isList;exact call_list_seq p (.inl O) t hc m (λh' c i e=>k a d j h' c i e) (by simp only[sT1]<;>lia)
 ·obtain⟨a,d,pl,j⟩:=I.tuple g;have f:=d.length;obtain⟨o,t,hc,n,m⟩:=pl;exact call_list_seq p (.inr O) t hc m (λh' c i e=>k a d j h' c i e) (by simp only[sT1]<;>lia)
theorem qC:fc X (.type "tuple") (λxs H Q=>∃p ys,xs=[.ref p]/\((nq X.K H p ys /\ ∀l,H l=Y->Q (.ref l) (upd H l (.tup ys)))\/(kS X.K H p ys/\Q (.ref p) H))):=by
 intro ag s σ H xs n Q I r h;obtain⟨p,ys,rfl,h⟩:=h;obtain⟨u,rfl,m⟩:=iP r;cases m;rcases h with⟨c,q⟩|⟨c,q⟩
 ·obtain ⟨a,d,pl,i⟩:=I.list c;have g:=d.length;refine call_tuple_list pl.isList (fun h' k=>?_) (by simp only [sT1]<;>lia);have f:Inv X ag σ H {s with heap:=h'}:=I.kept (t':=s.toks) k;have j:Inv X ag σ (upd H h'.objs.size (.tup ys)) {s with heap:=h'.push {cls:=.type "tuple",data:=.seq a.toArray}}:=
   f.laid (t':=s.toks) (λb o e=>hP1 _ e) (nR1 _) (show e9 X.prog X.w _ _ _ (.tup ys)from⟨i,a,d,mP.new _ _⟩)
  exact⟨.ref h'.objs.size,_,j,O,q _ (f.hok.fresh (nR1 _))⟩
 ·obtain⟨a,d,pl,i⟩:=I.tuple c;exact call_tuple_same pl ⟨.ref p,H,I,O,q⟩
def OP(K:Fg1)(T:String)(x:V)(H:Hp):Prop:=match x with
 | .str _=>T="str"
 | .int _=>T="int"
 | .ref p=>(T="list" /\ ∃ xs,nq K H p xs)\/(T="tuple" /\ ∃ o,K.lookup p=some o/\o.cls = .type "tuple"/\o.dict=none) \/
   (T="dict"/\((∃kvs,H p=Z (.dK kvs)) \/ ∃kvs,H p=Z (.dT kvs)))\/(T="set" /\ ∃S n,H p=Z (.set S n))
 |_=>False
theorem Ih{ag:List (dB×Obj)}{σ:St}{H:Hp}{s:dA}{T:String}{x:V}{v:dz}(I:Inv X ag σ H s)(r:eg x v)(ty:OP X.K T x H):
  s.TypeIs v T /\ ∀a,v = .ref a -> ∃g,s.heap.get? a=Z g/\g.dict=Y:=by
 cases x with
 |str z=>
  obtain⟨t,rfl⟩:=r;cases(show T="str" from ty);exact⟨typeIs_str s z t,λ_ e=>nomatch e⟩
 |int i=>
  obtain⟨t,rfl⟩:=r;cases(show T="int" from ty);exact⟨typeIs_int s i t,λ_ e=>nomatch e⟩
 |ref p=>
  cases r;rcases ty with⟨rfl,xs,h⟩|⟨rfl,o,b,hc,f⟩|⟨rfl,b⟩|⟨rfl,S,n,b⟩
  ·obtain⟨j,_,pl,_⟩:=I.list h;refine⟨pl.isList.typeIs,λa e=>?_⟩;cases e;obtain⟨o,n,e,c,f,_⟩:=pl;exact⟨o,e,f⟩
  ·refine⟨⟨o,I.kIn p o b,hc⟩,λa e=>?_⟩;cases e;exact⟨o,I.kIn _ o b,f⟩
  ·have z:∃ o,s.heap.get? p=some o/\o.ExactDict:=by
    rcases b with⟨kvs,b⟩|⟨kvs,b⟩
    ·obtain⟨_,_,_,_,o,_,_,e,ex,_⟩:=I.hok p _ b;exact⟨o,e,ex⟩
    ·obtain⟨_,_,_,_,o,_,_,e,ex,_⟩:=I.hok p _ b;exact⟨o,e,ex⟩
   obtain⟨o,e,ex⟩:=z;refine⟨⟨o,e,ex.1⟩,λa d=>?_⟩;cases d;exact⟨o,e,ex.2.1⟩
  ·obtain⟨o,_,_,_,e,ex,_⟩:=I.hok p _ b;refine⟨⟨o,e,ex.1⟩,λa d=>?_⟩;cases d;exact⟨o,e,ex.2.1⟩
 |_=>exact Qs ty
def Pe(K:Fg1)(T:String)(r:V->List V->Hp->VK->Prop)(to:TE)(t:TA):TE:=fun σ H Q=>to σ H λx H1=>OP K T x H1/\t σ H1 λxs H2=>r x xs H2 Q
variable{o e:Expr}{es:List Expr}{to:TE}{t:TA}{name:Str}{apos cpos:Pos}{T id:String}{r:V->List V->Hp->VK->Prop}
theorem L9 (i:PlainAttrs T)(slot:Slot T name id)(hty:typeOf (.builtin id)=pure (.type "method_descriptor"))(hm:Et X id r)(ho:PE X o to)(ha:PA X (e::es) t)
  (hbase:autoParam (Rs o name X.env (eval o X.env)=eval o X.env) cu0)
  (hfew:autoParam (((Qn cpos (dH (e::es) X.env)).all (λx=> !x.1)&&(Rt cpos (Ru [] X.env)).all (λx=>x.1.isSome)
   && decide ((e::es).length+([]:List Q1).length+(if([]:List Q1).isEmpty then 0 else 1)<30))=M) cu0)
  (hline:autoParam ((apos.endLine == cpos.line)=M) cu0) (hs:autoParam (dH (e::es) X.env=(J,eval e X.env)::dH es X.env) cu0) (hplain:autoParam ((Qn cpos (dH es X.env)).any (·.1)=J) cu0):
  PE X (.Call (.Attribute o name apos) (e::es) [] cpos) (Pe X.K T r to t):=by
 intro ag s σ H Q I h;refine wpAny_Call_method_late hbase hfew hline O (fx (ho ag s σ H _ I h) λv g ⟨x,H1,a,b,ty,l⟩=>?_);obtain⟨h1,h2⟩:=Ih a b ty;refine⟨T,id,i,slot,hty,h1,h2,?_⟩;have c:=ha cpos ag g σ H1 _ a l;rw[hs]at c ⊢;refine Rv (by show(J||(Qn cpos (dH es X.env)).any (·.1))=J;rw[hplain]<;>rfl) (Rx ?_);exact fx c λf k ⟨vs,H2,d,r2,j⟩=>hm ag k σ H2 x vs v f Q d b r2 j
end
def O4(X:Cx)(id:String)(r:V->List V->Hp->VK->Prop):Prop:=
 ∀(ag:List (dB×Obj)) (s:dA) (σ:St) (H:Hp) (x:V) (xs:List V) (v:dz) (us:List dz) (Q:VK),Inv X ag σ H s->eg x v->ez xs us->r x xs H Q ->
  dJ (Qm X.prog X.w) X.A (call (.builtin id) (v::us)) (EP X ag σ Q) X.xe s
theorem ez.one:∀{x:V} {a:List dz},ez [x] a -> ∃u,a=[u]/\eg x u:=by
 intro x a h;cases h with
 |cons r t=>cases t;exact⟨_,O,r⟩
theorem ez.eraseIdx:∀{xs:List V} {a:List dz} (i:Nat),ez xs a->ez (xs.eraseIdx i) (a.eraseIdx i)
 |_,_,_,.nil=>.nil
 |_,_,0,.cons _ t=>t
 |_,_,i+1,.cons r t=>.cons r (ez.eraseIdx i t)
theorem ez.reverse{xs:List V}{a:List dz}(h:ez xs a):ez xs.reverse a.reverse:=by
 induction h with
 |nil=>exact .nil
 |cons r t ih=>rw[aW,aW];exact ez.append ih (.cons r .nil)
theorem rF{α:Type}:∀(l:List α) (i:Nat),(l.eraseIdx i).length<=l.length
 |[],_=>nR1 _
 |_::_,0=>aX _
 |_::r,i+1=>Nat.succ_le_succ (rF r i)
section
variable{ag:List (dB×Obj)}{σ:St}{H:Hp}{s:dA}{l b:dB}{xs ys zs:List V}
theorem Inv.lset {its its':List dz}{n:Nat}{f:Array dz->Array dz}{t':Nat}(I:Inv X ag σ H s)(b:H l=some (.lst xs))
  (e:s.heap.get? l=Z {cls:=.type "list",data:=.seq its.toArray n}) (hf:f its.toArray=its'.toArray) (hv:ez ys its') (hz:ys.length<=dI):
  Inv X ag σ (upd H l (.lst ys)) {s with heap:=s.heap.update l (Rp f),toks:=t'}:=by
 have q:=PySem.IsL.update e f;rw[hf]at q;refine I.write (x:=l) (e:=l) (by rw[b];exact trivial) (.inl O) (λd u a c=>(Heap.get?_update_other s.heap (Rp f) (Qk a)).trans c) ⟨_,q⟩ ?_;exact⟨hz,its',_,hv,q⟩
theorem Inv.lnew{its:List dz}{t':Nat}(I:Inv X ag σ H s)(hv:ez ys its)(hz:ys.length<=dI):
  Inv X ag σ (upd H s.heap.objs.size (.lst ys)) {s with heap:=s.heap.push {cls:=.type "list",data:=.seq its.toArray},toks:=t'}:=
 I.laid (λ_ _ q=>hP1 _ q) (nR1 _) ⟨hz,its,0,hv,hS1 _ O⟩
theorem Inv.fresh(I:Inv X ag σ H s):H s.heap.objs.size=Y:=I.hok.fresh (nR1 _)
theorem Inv.lstM(I:Inv X ag σ H s)(a:H l=Z (.lst xs)):xs.length<=dI /\ ∃(its:List dz) (n:Nat),ez xs its/\xs.length=its.length/\s.heap.get? l=Z {cls:=.type "list",data:=.seq its.toArray n}:=by
 obtain⟨z,its,n,r,e⟩:=I.hok l _ a;exact⟨z,its,n,r,r.length,e⟩
end
def Fm:V->List V->Hp->VK->Prop:=λx vs H Q=>∃l xs y,x = .ref l/\vs=[y]/\H l=Z (.lst xs)/\xs.length<dI/\Q .non (upd H l (.lst (xs++[y])))
theorem rA:O4 X "list.append" Fm:=by
 intro ag s σ H x vs v i Q I f c h;obtain⟨l,xs,y,rfl,rfl,b,j,q⟩:=h;cases f;obtain⟨u,rfl,d⟩:=c.one;obtain⟨z,a,n,r,g,e⟩:=I.lstM b;refine call_meets F.slot_list_append ⟨_,e,O⟩ F.entry_list_append (F.args_list_append_2 _ _) (PySem.list_append l a.toArray n u (by rw[sT1];lia)) ⟨e,?_⟩;refine⟨.non,_,I.lset (its':=a++[u]) b e (by simp) (r.append (.cons d .nil)) ?_,O,q⟩;rw[lA1,aY];lia
def IQ:V->List V->Hp->VK->Prop:=λx vs H Q=>∃l xs i k y,x = .ref l/\vs=[.int i]/\H l=Z (.lst xs) /\ -(2^63)<=i/\i<2^63/\seqIndex? i xs.length=Z k/\xs[k]?=Z y/\Q y (upd H l (.lst (xs.eraseIdx k)))
theorem CD:O4 X "list.pop" IQ:=by
 intro ag s σ H x vs v A Q I p f h;obtain⟨l,xs,i,k,y,rfl,rfl,c,h1,h2,o,m,q⟩:=h;cases p;obtain⟨u,rfl,g⟩:=f.one;obtain⟨t,rfl⟩:=g;obtain⟨z,a,n,r,d,e⟩:=I.lstM c;obtain⟨w,j,b⟩:=r.get m;refine call_meets F.slot_list_pop ⟨_,e,O⟩ F.entry_list_pop (F.args_list_pop_2 _ _)
  (MeetsSeq.list_pop_at l a.toArray n i t k w (fitsIndex_both h1 h2) (by rw[sT1,<- d];exact o) (by rw[<- aT1];exact j) (by rw[sT1];lia)) ⟨e,?_⟩
 refine⟨y,_,I.lset (its':=a.eraseIdx k) c e ?_ (r.eraseIdx k) ?_,b,q⟩
 ·show a.toArray.eraseIdxIfInBounds k=(a.eraseIdx k).toArray;rw[List.eraseIdxIfInBounds_toArray]
 ·have:=rF xs k;lia
def N7:R2:=λx y H Q=>∃l b xs zs,x = .ref l/\y = .ref b/\H l=Z (.lst xs)/\H b=Z (.lst zs)/\xs.length+zs.length<=dI /\ ∀p,H p=Y->Q (.ref p) (upd H p (.lst (xs++zs)))
theorem Jt:gU X (QP .Add) N7:=by
 intro ag s σ H x y v u Q I m i h;obtain⟨l,b,xs,zs,rfl,rfl,j,k,t,q⟩:=h;cases m;cases i;obtain⟨z,c,n,r,p,e⟩:=I.lstM j;obtain⟨o,a,w,r2,d,f⟩:=I.lstM k;refine PySem.P.add_list e f ?_ (by rw[sT1,sT1];lia);have g:c.toArray++a.toArray=(c++a).toArray:=by simp
 rw[g];exact⟨.ref _,_,I.lnew (t':=s.toks) (r.append r2) (by rw[lA1];lia),O,q _ I.fresh⟩
section
variable{prog:dD}{w:dF}{A:dE}{E:dz->dA->Prop}{s:dA}
end
end L2
namespace Att
open PySem PySem.W PySem.Calls PyProof.Rows
theorem n9{P:Params}{h:dM}:∀(ns:List Int) (vs:List dz),WellAll P h vs (ns.map WData.int)->Ry vs ns:=by
 intro ns
 induction ns with
 |nil=>
  intro vs w;rw[aZ]at w;cases w;exact .nil
 |cons n ns ih=>
  intro vs w;rw[mP1]at w;cases w with
  |cons a b=>
   cases a;exact .cons _ _ (ih _ b)
theorem zF{l:OpenLaw}{n:Nat}(hn:l.most=some n){P:Params}{h:dM}{args:List WData}{c:List dz}(b:l.row.toRowW.claim.pre args=true)(k:WellAll P h c args):
  ∃a vs ns,c=[Qb a]/\args=[WData.list (ns.map WData.int)]/\h.get? a=Z {cls:=.type "list",data:=.seq vs.toArray}/\Ry vs ns/\ns.length<=n:=by
 have j:WShape.hasAll [] args [.list .int]=M:=(pre_splitW b).1;have hc:l.pre.holds [] {args:=args}=M:=(pre_splitW b).2;obtain⟨d,r,rfl,h1,h2⟩:=hasAllW_cons j;obtain rfl:=hasAllW_nil h2;obtain⟨xs,rfl,o⟩:=hasW_list h1;obtain⟨ns,rfl⟩:=items_int o;have e:ns.length<=n:=by
  unfold OpenLaw.pre at hc;have g:(WTm.not (.lt (.lit (.int (n:Int))) (.len (.arg 0)))).holds [] {args:=[.list (ns.map .int)]}=M:=by
   have g:=(holds_andW hc).1;rw[hn]at g;exact g
  have i:=condW_of g (w_not (w_lt w_lit (w_len_list (w_arg O))));rw[lM1]at i;refine a0 λq=>?_;have m:(n:Int)<((ns.length:Nat):Int):=by omega
  first
   |(rw[ah m]at i;exact absurd i (by decide))
   |(simp at i;omega)
 cases k with
 |cons t p=>
  cases p;cases t with
  |list s f=>exact⟨_,_,ns,O,O,s,n9 ns _ f,e⟩
theorem zL(l:OpenLaw)(args:List WData):l.row.toRowW.claim.post args (.bool M) args=M:=
 postW_of (r:=l.row.toRowW) (X:=(M == M))
  (show WShape.has [] (.bool M) .bool=M by first|rfl|decide|simp[WShape.has,WShape.arms,WShape.armsAll])
  (show(WTm.eq .res (.lit (.bool M))).value [] {args:=args,res:=Z (.bool M),after:=args}=Z (.bool (M == M))from w_eq_bool (w_res O) w_lit) O
theorem attach_call {l:OpenLaw}{n:Nat}{q:dD}{e:List Str}{XP:(Str->Option dz)->dM->Prop}{D:dF->dM->Prop}{d:DefRec}
  (hn:l.most=Z n) (x:d.params.defaults=[])
  (call:∀(w:dF) (c b:dA) (mg t:Str->Option dz) (i:dB) (o:Obj) (y p h:dz) (a:dB) (vs:List dz) (ns:List Int),
   Ground q e [] XP w c mg t b.heap->D w b.heap ->
   b.heap.get? i=Z o->o.data = .func (docDef d.name d.params d.body d.scope y p h)->b.heap.CodeRec p d.name->mg d.name=Z (.ref i) ->
   b.heap.get? a=Z {cls:=.type "list",data:=.seq vs.toArray}->Ry vs ns->ns.length<=n->b.gens = #[] ->
   dL (Qm l.prog w) callerA (.call (.ref i) ⟨[.ref a],[]⟩) (λr s'=>r = .ok (.ret (.bool M))/\OldK b.heap s'.heap/\s'.os=b.os/\Qh s'.gens) b):
  WalkO q e XP D l.row.toRowW d [] (λf vs=>PySem.call f vs):=by
 intro w c b mg t G au i o y p h F kV av ao u B v N C A as m z aq s L;obtain rfl:F = .none:=Dflts.none B x;obtain rfl:kV = .none:=Dflts.noKw B;obtain⟨a,vs,ns,rfl,rfl,j,g,k⟩:=zF hn m s;refine enter_call (QZ (call w c b mg t i o y p h a vs ns G au av (fd_plain ao) u v j g k N) λr s' H=>?_);obtain⟨rfl,h2,I,K⟩:=H;exact⟨.inl ⟨.bool M,.bool M,[],O,λ_=>rfl,.bool M,zL l _,λ_=>⟨List.Pairwise.nil,λ_ E=>(nomatch E)⟩⟩,h2,I,K⟩
section
variable{prog:dD}{w:dF}{A:dE}{E:dz->dA->Prop}{s:dA}{K:Frag}
end
end Att
namespace L2
open PySem PySem.Spec PyProof.Rows
theorem zo:∀{vs:List dz} {ns:List Int},Ry vs ns->ez (ns.map V.int) vs:=by
 intro vs ns h
 induction h with
 |nil=>exact .nil
 |cons n t h ih=>exact .cons ⟨t,O⟩ ih
def Hu(H:Hp):Prop:=∀b,H b=Y \/ ∃o xs,H b=Z (.frz o (.lst xs))
theorem C4 {P:dD}{w:dF}{K:Fg1}{mg C:Str->Option dz}{CX:AS}{k:Nat}{E a:dB}{fd:dN}{x:Str}{sp:Sp}{s₁:dA}{vs:List dz}{ns:List Int}
  (S:K.In s₁.heap) (p:s₁.heap.Ns dG mg) (hb:s₁.heap.Ns builtinsNs C) (G:∀x:Str,x≠"__name__"->C x=Qg x) (l:s₁.heap.NoLimit) (hg:s₁.gens = #[])
  (ha:s₁.heap.get? a=Z {cls:=.type "list",data:=.seq vs.toArray}) (hi:Ry vs ns) (av:ns.length<=dI) (hr:ga k callerA)
  (F:∀base:dM,K.In base->base.Ns dG mg->kn P w K mg base CX k E fd [x] sp) (g:∀(s:dA) (u:dz),BindsTo s fd ⟨[u],[]⟩ [(x,u)])
  (D:∀H:Hp,Hu H->nq K H a (ns.map V.int)->sp [.ref a] H (λv _=>v = .bl M) λ_ _ _=>False)
  (I:∀H e s',CX [] H s₁ (λ_ _ _=>False) e s'->False):
  dL (Qm P w) callerA (.call (.ref E) ⟨[.ref a],[]⟩) (λr s'=>r = .ok (.ret (.bool M))/\OldK s₁.heap s'.heap/\s'.os=s₁.os/\Qh s'.gens) s₁:=by
 have R:=zo hi;have t:=hi.length
 -- from an abstract heap in which nothing but the script may be tracked
 have f:∀ H:Hp,Hu H->nq K H a (ns.map V.int)->lJ P w H s₁.heap->(∀ b,H b≠none->b=a)->(H a≠none->K.lookup a=none) ->
   dL (Qm P w) callerA (.call (.ref E) ⟨[.ref a],[]⟩) (λr s'=>r = .ok (.ret (.bool M))/\OldK s₁.heap s'.heap/\s'.os=s₁.os/\Qh s'.gens) s₁:=by
  intro H N hS y aq hK;have base_of:∀{b:dB} {o:Obj},s₁.heap.get? b=Z o->H b=Y->(tU s₁.heap H).get? b=Z o:=λe n=>Dg e n;have ao:∀{b:dB} {o:Obj} {es:Array DictEntry} {ep:Nat},s₁.heap.get? b=Z o->o.data = .dict es ep->H b=Y:=λ{b o es ep} e d=>by
   cases q:H b with
   |none=>rfl
   |some u=>
    have L:b=a:=aq b (by rw[q];simp);subst L;rw[ha]at e;cases e;have T:Data.seq vs.toArray _=Data.dict es ep:=d;cases T
  have c:∀{b:dB} {m:Str->Option dz},s₁.heap.Ns b m->(tU s₁.heap H).Ns b m:=λ{b m} ⟨o,es,ep,e,d,r⟩=>⟨o,es,ep,base_of e (ao e d),d,r⟩;have A:K.In (tU s₁.heap H):=λb o e=>base_of (S b o e) (by
   cases q:H b with
   |none=>rfl
   |some u=>
    have L:b=a:=aq b (by rw[q];simp);subst L;rw[hK (by rw[q];simp)]at e;cases e)
  have wq:Mod K mg (tU s₁.heap H):=⟨A,c p,⟨C,c hb,G⟩,let ⟨mc,h1,h2⟩:=l;⟨mc,c h1,h2⟩⟩;have W:Hw P w K mg (tU s₁.heap H) callerA [] s₁ H:=⟨O,wq,λb o e=>FX e,Nat.le_of_eq (Am _ _),trivial,λb hb=>absurd (show b∈([]:List dB)from hb) (by simp),y,.of_eq hg⟩;refine QZ ((F _ A (c p)).run callerA [] s₁ H ⟨[.ref a],[]⟩ [.ref a] [.ref a] _ _ hr W (g s₁ (.ref a)) (.cons O .nil) (D H N hS)) λr s' h=>?_;cases r with
  |error e=>exact(I H e s' h).elim
  |ok fl=>
   cases fl with
   |next=>exact Qs h
   |brk=>exact Qs h
   |cont=>exact Qs h
   |ret u=>
    obtain⟨v,H',os,B,un,i,r',q⟩:=h;have X:v = .bl M:=q;subst X;obtain rfl:u=Qa true:=r';refine⟨O,OldK.of_keep λb o e=>?_,os,B⟩;cases q:H b with
    |none=>exact un.keep b o e q (by intro z;exact absurd (show b∈([]:List dB)from z) (by simp)) (by simp)
    |some u=>
     rcases N b with z|⟨U,xs,z⟩
     ·rw[q]at z;cases z
     ·have au:=un.frzs b U _ z;obtain⟨Q,_⟩:=y b _ z;obtain⟨e2,_⟩:=i b _ au;rw[e]at Q;cases Q;exact e2
 cases hk:K.lookup a with
 |some o=>
  -- the script is one of the module's own objects
  have e:=S a o hk;rw[ha]at e;cases e;refine f (λ_=>Y) (λ_=>.inl O) (.inr ⟨_,vs.toArray,_,hk,O,O,O,by rw[sT1,t];exact av,by simpa using R⟩) (λb u z=>by have j:(Y:Option HO)=Z u:=z;cases j) (λb z=>absurd O z) λz=>absurd O z
 |none=>
  refine f (λb=>if b=a then Z (.frz {cls:=.type "list",data:=.seq vs.toArray} (.lst (ns.map V.int)))else Y) (λb=>?_) (.inl (.inr ⟨{cls:=.type "list",data:=.seq vs.toArray},ak O⟩)) (λb u z=>?_) (λb z=>?_) λ_=>hk
  ·by_cases hb:b=a
   ·exact .inr ⟨_,_,ak hb⟩
   ·exact .inl (aj hb)
  ·by_cases hb:b=a
   ·have j:=(ak hb).symm.trans z;cases j;subst hb;exact⟨ha,by rw[lM1];exact av,vs,_,R,ha⟩
   ·have j:=(aj hb).symm.trans z;cases j
  ·by_cases hb:b=a
   ·exact hb
   ·exact absurd (aj hb) z
theorem EV{l:PySem.W.OpenLaw}{n k:Nat}{q:dD}{c:List Str}{XP:(Str->Option dz)->dM->Prop}{B:dF->dM->Prop}{d:DefRec}{K:Params->Fg1}{CX:dF->AS}{sp:dF->Sp}{x:Str}(hn:l.most=some n)(z:n<=dI)(y:d.params.defaults=[])(hr:ga k callerA)(D:∀(w:dF) (h:dM),B w h->(K w.params).In h)(F:∀(w:dF) (mg:Str->Option dz) (m:dB) (h:dM),(K w.params).In h->h.Ns dG mg->mg d.name=some (.ref m) ->
   ∃fd:dN,(∀(s:dA) (u:dz),BindsTo s fd ⟨[u],[]⟩ [(x,u)]) /\
    ∀base:dM,(K w.params).In base->base.Ns dG mg->kn l.prog w (K w.params) mg base (CX w) k m fd [x] (sp w))(p:∀(w:dF) (H:Hp) (a:dB) (ns:List Int),ns.length<=n->Hu H->nq (K w.params) H a (ns.map V.int)->sp w [.ref a] H (λv _=>v = .bl M) λ_ _ _=>False)(t:∀(w:dF) (H:Hp) (s:dA) (e:dz) (s':dA),CX w [] H s (λ_ _ _=>False) e s'->False):
  PySem.W.WalkO q c XP B l.row.toRowW d [] (λf vs=>PySem.call f vs):=by
 refine Att.attach_call hn y λw A i mg Q m o T P av a vs ns G au S R ao r j g b N=>?_;have C:=D w _ au;obtain⟨fd,L,I⟩:=F w mg m _ C G.T.g r;exact C4 C G.T.g G.T.b G.T.builtins G.T.nolimit N j g (aD b z) hr I L (λH E aq=>p w H a ns b E aq) λH e s'=>t w H i e s'
noncomputable def iW(s:dP):Arguments:=match s with
 | .FunctionDef _ a _ _ _ _ _ _ _ _=>a
 |_=>{posonlyargs:=[],args:=[],vararg:=Y,kwonlyargs:=[],kw_defaults:=[],kwarg:=Y,defaults:=[]}
noncomputable def fJ(s:dP):List dP:=match s with
 | .FunctionDef _ _ b _ _ _ _ _ _ _=>b
 |_=>[]
noncomputable def ej(s:dP):dQ:=match s with
 | .FunctionDef _ _ _ _ _ _ sc _ _ _=>sc
 |_=>{kind:=.function,names:=[],isGenerator:=J,isCoroutine:=J}
abbrev wa:AS:=λ_ _ _ _ _ _=>False
abbrev E0:XK:=λ_ _ _=>False
theorem HF{X:Cx}:um wa X E0:=λ_ _ _ _ _ _ _ h=>h.elim
structure AV (K:Fg1)(x qual:Str)(st:dP)(f:dB)(fd:dN):Prop where
 ex:∃(oc:dz) (od:Option dB) (kV doc pm:dz) (an:Option dB) (cdv ct:dz) (osl:Array (Option dz)),
  fd=wF1 x qual (iW st) (fJ st) (ej st) .none kV doc pm an cdv ct/\K.lookup f=some ⟨oc,od,.func fd,osl⟩/\wC1 K cdv qual=true
 kp:wK1 K (.ref f)=true
section
variable{P:dD}{w:dF}{K:Fg1}{mg:Str->Option dz}{base:dM}
theorem AV.ok{x b:Str}{st:dP}{f:dB}{fd:dN}{N ps:List Str}{k:Nat}{sp:Sp}(F:AV K x b st f fd)(S:hH N ps (ej st))(len:∀ vs H Q E,sp vs H Q E->vs.length=ps.length)(d:∀(c:dz) (A:dE) (a:List Env) (s:dA) (H:Hp) (vs:List V) (Q:VK) (E:XK),ga k (A.deeper (Q3 b (ej st) s.heap.objs.size f c))->sp vs H Q E ->
   ∃t,wd (og wa P w K mg base N b (ej st) f c A a s H E).nox (fJ st) t/\t {nx:=λ_ H'=>Q .non H',rt:=Q} (jO N vs) H):kn P w K mg base wa (k+1) f fd ps sp:=by
 obtain⟨o,p,kV,l,n,m,c,ct,i,rfl,lk,g⟩:=F.ex;refine MK lk g S len λA a s H vs Q E j e=>?_;obtain⟨t,h,q⟩:=d c A a s H vs Q E j e;exact⟨t,h.nox,q⟩
theorem AV.binds{x a:Str}{st:dP}{f:dB}{fd:dN}{ps:List Str}(F:AV K x a st f fd)(h:∀(kV c g:dz) (e:Option dB) (b ct:dz) (d:List dz),d.length=ps.length->bindArgs (wF1 x a (iW st) (fJ st) (ej st) .none kV c g e b ct) ⟨d,[]⟩=pure (ps.zip d)):ly K fd ps []:=by
 obtain⟨k,l,kV,c,g,e,b,ct,i,rfl,lk,j⟩:=F.ex;exact .all (h kV c g e b ct)
theorem Dp{x a:Str}{st:dP}{f:dB}{i:dz}{j g:Option dB}{e:Array (Option dz)}{kV d h b ct:dz}(l:K.lookup f=Z ⟨i,j,.func (wF1 x a (iW st) (fJ st) (ej st) .none kV d h g b ct),e⟩)(c:wC1 K b a=M)(k:wK1 K (.ref f)=M):AV K x a st f (wF1 x a (iW st) (fJ st) (ej st) .none kV d h g b ct):=⟨⟨i,j,kV,d,h,g,b,ct,e,O,l,c⟩,k⟩
end
variable{X:Cx}
def AN(H H':Hp):Prop:=∀b o,H b=Z o->H' b=Z o
theorem AN.trans{H H1 H2:Hp}(a:AN H H1)(b:AN H1 H2):AN H H2:=λc o h=>b c o (a c o h)
theorem AN.free{H H':Hp}(e:AN H H'){l:dB}(h:H' l=Option.none):H l=Option.none:=by
 cases q:H l with
 |none=>rfl
 |some o=>
  rw[e l o q]at h;cases h
section
variable{κ:Type} [DecidableEq κ]
noncomputable def ib(kvs:List (κ×V))(k:κ):Option V:=(kvs.find? λkv=>decide (kv.1=k)).map (·.2)
noncomputable def iq(kvs:List (κ×V))(k:κ)(v:V):List (κ×V):=
 if(kvs.any λkv=>decide (kv.1=k))=M then kvs.map (λkv=>if kv.1=k then(kv.1,v)else kv)else kvs++[(k,v)]
theorem oI{p:κ×V}{r:List (κ×V)}{k:κ}(e:p.1=k):ib (p::r) k=Z p.2:=by simp[ib,bc,e]
theorem oJ{p:κ×V}{r:List (κ×V)}{k:κ}(e:¬ p.1=k):ib (p::r) k=ib r k:=by simp[ib,bc,e]
theorem uw(k:κ):∀kvs:List (κ×V),(kvs.any λa=>decide (a.1=k))=(ib kvs k).isSome
 |[]=>rfl
 |p::r=>by
  rw[bd];by_cases e:p.1=k
  ·simp only[oI e,ah e,Bool.true_or,Option.isSome_some]
  ·rw[oJ e,ai e,Bool.false_or];exact uw k r
theorem iT(kvs:List (κ×V))(k:κ)(v:V):(iq kvs k v).length<=kvs.length+1:=by
 unfold iq;split
 ·rw[lM1];lia
 ·rw[lA1,lC1,bf];lia
theorem nr.isSome_eq{o:Option V}{u:Option dz}(r:nr o u):o.isSome=u.isSome:=by
 cases o with
 |none=>cases u with
  |none=>rfl
  |some _=>exact(show False from r).elim
 |some _=>cases u with
  |none=>exact(show False from r).elim
  |some _=>rfl
theorem KV.val{kvs:List (κ×V)}{vs:List (κ×dz)}(r:KV kvs vs)(k:κ):nr (ib kvs k) (Rz vs k):=by
 unfold KV at r
 induction r with
 |nil=>exact QW
 | @cons p q ps c h t ih=>
  obtain⟨h1,h2⟩:=h;by_cases e:p.1=k
  ·have a:q.1=k:=h1.symm.trans e;have b:Rz (q::c) k=Z q.2:=by simp[Rz,bc,a]
   rw[oI e,b];exact h2
  ·have a:¬ q.1=k:=λz=>e (h1.trans z);have b:Rz (q::c) k=Rz c k:=by simp[Rz,bc,a]
   rw[oJ e,b];exact ih
theorem KV.any{kvs:List (κ×V)}{vs:List (κ×dz)}(r:KV kvs vs)(k:κ):(kvs.any λa=>decide (a.1=k))=vs.any λa=>decide (a.1=k):=by
 unfold KV at r
 induction r with
 |nil=>rfl
 |cons h t ih=>rw[bd,bd,ih,h.1]
theorem KV.repl{kvs:List (κ×V)}{vs:List (κ×dz)}(r:KV kvs vs)(k:κ){y:V}{u:dz}(b:eg y u):
  KV (kvs.map λa=>if a.1=k then(a.1,y)else a) (vs.map λa=>if a.1=k then(a.1,u)else a):=by
 unfold KV at r ⊢
 induction r with
 |nil=>exact .nil
 | @cons p q ps c h t ih=>
  rw[mP1,mP1];refine .cons ?_ ih;obtain⟨h1,h2⟩:=h;by_cases e:p.1=k
  ·rw[ak e,ak (h1.symm.trans e)];exact⟨h1,b⟩
  ·rw[aj e,aj (λz=>e (h1.trans z))];exact⟨h1,h2⟩
theorem KV.put{kvs:List (κ×V)}{vs:List (κ×dz)}(r:KV kvs vs)(k:κ){y:V}{u:dz}(a:eg y u):KV (iq kvs k y) (stored vs k u):=by
 unfold iq stored;rw[r.any k];by_cases e:(vs.any λb=>decide (b.1=k))=M
 ·rw[ak e,ak e];exact r.repl k a
 ·rw[aj e,aj e];exact Paired.snoc r ⟨O,a⟩
theorem KV.length{kvs:List (κ×V)}{vs:List (κ×dz)}(r:KV kvs vs):kvs.length=vs.length:=Paired.length r
end
theorem pA{P:dD}{w:dF}{k:Key}{u:dz}(r:eg (kV k) u):(ft P w).is k u=M:=by
 cases k with
 |inl i=>obtain⟨t,e⟩:=(show∃t,u=ab i t from r);subst e;exact u6 P w i t
 |inr x=>obtain⟨t,e⟩:=(show∃t,u=ae x t from r);subst e;exact u5 P w x t
theorem rJ{P:dD}{w:dF}:∀{ks:List Key} {a:List dz},ez (ks.map kV) a->ItemsAre (ft P w) ks a
 |[],_,r=>by rw[aZ]at r;cases r;exact .nil
 |k::ks,_,r=>by
  rw[mP1]at r;cases r with
  |cons h t=>exact .cons (pA h) (rJ t)
abbrev KT(H:Hp):List (List Key×V)->List (List Key×dB×dz)->Prop:=Paired λp q=>p.1=q.1/\H q.2.1=Z (.tup (p.1.map kV))/\eg p.2 q.2.2
theorem KT.val{H:Hp}{kvs:List (List Key×V)}{xs:List (List Key×dB×dz)}(r:KT H kvs xs)(k:List Key):nr (ib kvs k) ((RB xs k).map (·.2)):=by
 induction r with
 |nil=>exact QW
 | @cons p q ps c h t ih=>
  obtain⟨h1,_,h2⟩:=h;by_cases e:p.1=k
  ·have a:q.1=k:=h1.symm.trans e;have b:RB (q::c) k=Z q.2:=by simp[RB,bc,a]
   rw[oI e,b];exact h2
  ·have a:¬ q.1=k:=λz=>e (h1.trans z);have b:RB (q::c) k=RB c k:=by simp[RB,bc,a]
   rw[oJ e,b];exact ih
theorem KT.repl{H:Hp}{kvs:List (List Key×V)}{xs:List (List Key×dB×dz)}(r:KT H kvs xs)(k:List Key){y:V}{u:dz}(b:eg y u):
  KT H (kvs.map λa=>if a.1=k then(a.1,y)else a) (xs.map (putAt k u)):=by
 induction r with
 |nil=>exact .nil
 | @cons p q ps d h t ih=>
  rw[mP1,mP1];refine .cons ?_ ih;obtain⟨h1,h2,c⟩:=h;unfold putAt;by_cases e:p.1=k
  ·rw[ak e,ak (h1.symm.trans e)];exact⟨h1,h2,b⟩
  ·rw[aj e,aj (λz=>e (h1.trans z))];exact⟨h1,h2,c⟩
theorem KT.put{H:Hp}{kvs:List (List Key×V)}{xs:List (List Key×dB×dz)}(r:KT H kvs xs)(k:List Key){b:dB}{y:V}{u:dz}(hb:H b=some (.tup (k.map kV)))(a:eg y u):
  KT H (iq kvs k y) (storedH xs k b u):=by
 have e:(kvs.any λc=>decide (c.1=k))=(RB xs k).isSome:=by
  rw[uw,(r.val k).isSome_eq,bg]
 unfold iq storedH;rw[e];by_cases q:(RB xs k).isSome=M
 ·rw[ak q,ak q];exact r.repl k a
 ·rw[aj q,aj q];exact Paired.snoc r ⟨O,hb,a⟩
theorem KT.keeps{H H':Hp}{kvs:List (List Key×V)}{xs:List (List Key×dB×dz)}(r:KT H kvs xs)(ht:∀b ys,H b=Z (.tup ys)->H' b=Z (.tup ys)):KT H' kvs xs:=
 Paired.mapP r λ_ _ z=>⟨z.1,ht _ _ z.2.1,z.2.2⟩
section
variable{P:dD}{w:dF}{H:Hp}{h:dM}{a:dB}
theorem HD{u:HO}(ok:lJ P w H h)(e:Rd H a u):e9 P w H h a u:=e.ok ok
theorem pR{kvs:List (Key×V)}(ok:lJ P w H h)(e:Rd H a (.dK kvs)):kvs.length<=dI/\(a == Qe)=J /\ ∃vs,KV kvs vs/\h.DictOf (ft P w) a vs:=
 show e9 P w H h a (.dK kvs)from HD ok e
theorem vF{kvs:List (Key×V)}(ok:lJ P w H h)(e:H a=Z (.dK kvs)):kvs.length<=dI/\(a == Qe)=J /\ ∃vs,KV kvs vs/\h.DictOf (ft P w) a vs:=pR ok (.inl e)
theorem py{ks:List Key}(ok:lJ P w H h)(e:H a=Z (.tup (ks.map kV))):(tupleKind (ft P w)).is h ks a:=by
 obtain⟨_,b,r,o,h1,h2,n,c,_⟩:=(show e9 P w H h a (.tup (ks.map kV))from ok a _ e);exact⟨o,b.toArray,n,h1,h2,c,by simpa using rJ r⟩
theorem rX{kvs:List (List Key×V)}(ok:lJ P w H h)(e:Rd H a (.dT kvs)):kvs.length<=dI/\(a == Qe)=false /\
  ∃xs,KT H kvs xs/\h.DictOfH (tupleKind (ft P w)) a xs:=by
 obtain⟨z,y,xs,r,o,es,ep,h1,h2,f,d,g⟩:=(show e9 P w H h a (.dT kvs)from HD ok e);refine⟨z,y,xs,r,o,es,ep,h1,h2,f,d,λx b=>?_,g⟩;have all:∀{l:List (List Key×V)} {m:List (List Key×dB×dz)},KT H l m -> ∀x∈m,(tupleKind (ft P w)).is h x.1 x.2.1:=by
  intro l m q
  induction q with
  |nil=>intro x b;exact nomatch b
  | @cons p q ps i c t ih=>
   intro x b;rcases aF.mp b with e|b
   ·subst e;exact py ok (by rw[<- c.1];exact c.2.1)
   ·exact ih x b
 exact all r x b
theorem MR{kvs:List (List Key×V)}(ok:lJ P w H h)(e:H a=some (.dT kvs)):kvs.length<=dI/\(a == Qe)=false /\
  ∃xs,KT H kvs xs/\h.DictOfH (tupleKind (ft P w)) a xs:=rX ok (.inl e)
end
def qS(H:Hp)(a:dB)(y:V)(r:Option V):Prop:=
 (∃kvs k,Rd H a (.dK kvs)/\y=kV k/\r=ib kvs k) \/ ∃kvs k b,Rd H a (.dT kvs)/\y = .ref b/\H b=Z (.tup (k.map kV))/\r=ib kvs k
def AR(H:Hp)(a:dB)(y v:V)(H':Hp):Prop:=
 (∃kvs k,H a=Z (.dK kvs)/\y=kV k/\kvs.length<dI/\H'=upd H a (.dK (iq kvs k v))) \/
 ∃kvs k b,H a=Z (.dT kvs)/\y = .ref b/\H b=Z (.tup (k.map kV))/\kvs.length<dI/\H'=upd H a (.dT (iq kvs k v))
theorem qS.k{H:Hp}{a:dB}{kvs:List (Key×V)}{k:Key}(e:H a=Z (.dK kvs)):qS H a (kV k) (ib kvs k):=.inl ⟨kvs,k,.inl e,O,O⟩
theorem qS.t{H:Hp}{a b:dB}{kvs:List (List Key×V)}{k:List Key}(e:H a=Z (.dT kvs))(eb:H b=Z (.tup (k.map kV))):qS H a (.ref b) (ib kvs k):=.inr ⟨kvs,k,b,.inl e,O,eb,O⟩
theorem AR.k{H:Hp}{a:dB}{kvs:List (Key×V)}{k:Key}{v:V}(e:H a=Z (.dK kvs))(b:kvs.length<dI):AR H a (kV k) v (upd H a (.dK (iq kvs k v))):=.inl ⟨kvs,k,e,O,b,O⟩
theorem AR.t{H:Hp}{a b:dB}{kvs:List (List Key×V)}{k:List Key}{v:V}(e:H a=some (.dT kvs))(eb:H b=some (.tup (k.map kV)))(c:kvs.length<dI):
  AR H a (.ref b) v (upd H a (.dT (iq kvs k v))):=.inr ⟨kvs,k,b,e,O,eb,c,O⟩
section
variable{ag:List (dB×Obj)}{σ:St}{H:Hp}{s:dA}{a:dB}{y v:V}{u r:dz}{o:Option V}{A:dE}{E:dz->dA->Prop}
theorem Inv.big(I:Inv X ag σ H s):Qe<s.heap.objs.size:=by
 have h:dG<s.heap.objs.size:=(I.mod.glob.keeps I.bk).lt;exact bh (by decide) h
theorem Aw{Q:dz->dA->Prop}(w:A.units+1<QX)(I:Inv X ag σ H s)(g:qS H a y (some v))(q:eg y u)(h:∀ f s',Inv X ag σ H s'->eg v f->Q f s'):
  dJ (Qm X.prog X.w) A (getItem (.ref a) u) Q E s:=by
 rcases g with⟨kvs,k,e,n,l⟩|⟨kvs,k,b,e,n,eb,l⟩
 ·subst n;obtain⟨z,t,vs,d,m⟩:=pR I.hok e;obtain⟨f,j,c⟩:=nr.some_of (v:=v) (o:=Rz vs k) (by rw[l];exact d.val k);exact wpAny_getItem_of (pA q) m.mapOf j (h f _ (I.tok _) c)
 ·subst n;cases(show u=Qb b from q);obtain⟨z,t,xs,d,m⟩:=rX I.hok e;obtain⟨f,j,c⟩:=nr.some_of (v:=v) (o:=(RB xs k).map (·.2)) (by rw[l];exact d.val k);obtain⟨p,r,i⟩:=Ti j;refine wpAny_getItem_heap (RC w) (py I.hok eb) m r ?_;rw[i];exact h f _ (I.tok _) c
theorem Ot{Q:dz->dA->Prop}(m:A.units+1<QX)(I:Inv X ag σ H s)(g:qS H a y o)(j:eg y u)(h:∀ s',Inv X ag σ H s'->Q (.bool o.isSome) s'):
  dJ (Qm X.prog X.w) A (QQ .In u (.ref a)) Q E s:=by
 rcases g with⟨kvs,k,e,f,l⟩|⟨kvs,k,b,e,f,eb,l⟩
 ·subst f;obtain⟨z,i,vs,c,d⟩:=pR I.hok e;refine wpAny_in_of (pA j) i d.mapOf ?_;rw[<- (c.val k).isSome_eq,<- l];exact h _ (I.tok _)
 ·subst f;cases(show u=Qb b from j);obtain⟨z,i,xs,c,d⟩:=rX I.hok e;refine wpAny_in_heap (RC m) (py I.hok eb) i d ?_;have q:=(c.val k).isSome_eq;rw[bg]at q;rw[<- q,<- l];exact h _ (I.tok _)
theorem G6{Q:dz->dA->Prop}(m:A.units+1<QX)(I:Inv X ag σ H s)(g:qS H a y o)(j:eg y u)(h:∀ s',Inv X ag σ H s'->Q (.bool (!o.isSome)) s'):
  dJ (Qm X.prog X.w) A (QQ .NotIn u (.ref a)) Q E s:=by
 rcases g with⟨kvs,k,e,f,l⟩|⟨kvs,k,b,e,f,eb,l⟩
 ·subst f;obtain⟨z,i,vs,c,d⟩:=pR I.hok e;refine wpAny_notIn_of (pA j) i d.mapOf ?_;rw[<- (c.val k).isSome_eq,<- l];exact h _ (I.tok _)
 ·subst f;cases(show u=Qb b from j);obtain⟨z,i,xs,c,d⟩:=rX I.hok e;refine wpAny_notIn_heap (RC m) (py I.hok eb) i d ?_;have q:=(c.val k).isSome_eq;rw[bg]at q;rw[<- q,<- l];exact h _ (I.tok _)
theorem kO{h':dM}{t':Nat}{c:HO}(I:Inv X ag σ H s)(mu:Ll (H a))(hs:Ql a s.heap h')(he:∃ q,h'.get? a=some q)(new:e9 X.prog X.w (upd H a c) h' a c):
  Inv X ag σ (upd H a c) {s with heap:=h',toks:=t'}:=
 I.write (x:=a) (e:=a) mu (.inl O) (λb q d z=>(hs.2 b d).trans z) he new
theorem xa{P:dD}{w:dF}{H':Hp}{h':dM}{kvs:List (Key×V)}{vs:List (Key×dz)}(z:kvs.length<=dI)(hd:(a == Qe)=false)(b:KV kvs vs)(dd:h'.DictOf (ft P w) a vs):
  e9 P w H' h' a (.dK kvs):=⟨z,hd,vs,b,dd⟩
theorem Av{H':Hp}{Q:Unit->dA->Prop}(K:A.units+1<QX)(I:Inv X ag σ H s)(g:AR H a y v H')(C:eg y u)(x:eg v r)(h:∀ s',Inv X ag σ H' s'->Q () s'):
  dJ (Qm X.prog X.w) A (setItem (.ref a) u r) Q E s:=by
 rcases g with⟨kvs,k,e,t,l,m⟩|⟨kvs,k,b,e,t,eb,l,m⟩
 ·subst t m;obtain⟨z,p,vs,d,o⟩:=vF I.hok e;have n:vs.length<=dI:=by rw[<- d.length];exact z
  have j:(iq kvs k v).length<=dI:=by have:=iT kvs k v;lia
  refine wpAny_setItem_pairs (hsz:=n) (pA C) o λh' f w=>h _ ?_;have F:∃q,h'.get? a=Z q:=let ⟨q,_,_,i,_⟩:=f;⟨q,i⟩
  exact kO I (by rw[e];exact QW) w F (xa j p (d.put k x) f)
 ·subst t m;cases(show u=Qb b from C);obtain⟨z,p,xs,d,o⟩:=MR I.hok e;have n:xs.length<=dI:=by rw[<- Paired.length d];exact z
  have j:(iq kvs k v).length<=dI:=by have:=iT kvs k v;lia
  refine wpAny_setItem_heap (hsz:=n) (RC K) (py I.hok eb) o λh' f w=>h _ ?_;obtain⟨q,es,ep,i,h2,G,D,_,ao⟩:=f;refine kO I (by rw[e];exact QW) w ⟨q,i⟩ ⟨j,p,_,(d.put k eb x).keeps λc ys B=>?_,q,es,ep,i,h2,G,D,ao⟩;rw[eo (Mj B e (λz=>nomatch z))];exact B
end
section
variable{ag:List (dB×Obj)}{σ:St}{H:Hp}{s:dA}{a:dB}{kvs:List (Key×V)}{k:Key}{u:dz}{A:dE}{E:dz->dA->Prop}
theorem MX{Q:dz->dA->Prop}(I:Inv X ag σ H s)(e:Rd H a (.dK kvs))(h:∀t s',Inv X ag σ H s'->Q (.int kvs.length t) s'):dJ (Qm X.prog X.w) A (call (.builtin "len") [.ref a]) Q E s:=by
 obtain⟨z,d,vs,b,c⟩:=pR I.hok e;refine call_len_dict d c (by rw[<- b.length];rw[QT]at z;lia) ?_;rw[<- b.length];exact h _ _ (I.tok _)
end
theorem vH{X:Cx}{ag:List (dB×Obj)}{σ:St}{H:Hp}{s:dA}{a:dB}{y:V}{o:Option V}(I:Inv X ag σ H s)(g:qS H a y o):s.TypeIs (.ref a) "dict":=by
 rcases g with⟨kvs,k,e,_,_⟩|⟨kvs,k,b,e,_,_,_⟩
 ·obtain⟨_,_,vs,_,c⟩:=pR I.hok e;exact c.typeIs
 ·obtain⟨_,_,xs,_,c⟩:=rX I.hok e;exact c.typeIs
section
variable{o i e value:Expr}{pos pos' tpos:Pos}{td ty tv:TE}
end
theorem vG{P:dD}{w:dF}{H:Hp}(h:dM)(hb:Qe<h.objs.size):e9 P w H (h.push {cls:=.type "dict",data:=.dict #[]}) h.objs.size (.dK []):=
 ⟨bi _,S6.mpr (Qk (nN1 hb)),[],.nil,Heap.DictOf.new h⟩
def Iy:TE:=λ_ H Q=>∀p,H p=Y->Q (.ref p) (upd H p (.dK []))
section
variable{pos:Pos}
theorem Ce:PE X (.Dict [] [] pos) Iy:=λag s σ H Q I h=>
 wpAny_Dict_empty ⟨.ref s.heap.objs.size,_,I.laid (a:=s.heap.objs.size) (o:=.dK []) (t':=s.toks) (λ_ _ q=>hP1 _ q) (nR1 _) (vG s.heap I.big),O,h _ (I.hok.fresh (nR1 _))⟩
end
def sG:List (TE×TE)->St->Hp->(List (V×V)->Hp->Prop)->Prop
 |[],_,H,Q=>Q [] H
 |(tk,tv)::r,σ,H,Q=>tk σ H λx H1=>tv σ H1 λy H2=>sG r σ H2 λps H3=>Q ((x,y)::ps) H3
abbrev VV:List (V×V)->List (dz×dz)->Prop:=Paired λp q=>eg p.1 q.1/\eg p.2 q.2
def Nj(X:Cx)(pos:Pos)(keys:List (Option Expr))(values:List Expr)(trs:List (TE×TE)):Prop:=
 ∀(ag:List (dB×Obj)) (s:dA) (σ:St) (H:Hp) (Q:List (V×V)->Hp->Prop),Inv X ag σ H s->sG trs σ H Q ->
  dJ (Qm X.prog X.w) X.A (evalPairs (pairTrees keys values X.env pos)) (λvs s'=>∃ps H',Inv X ag σ H' s'/\VV ps vs/\Q ps H') X.xe s
theorem Fu{X:Cx}{pos:Pos}:Nj X pos [] [] []:=λag s σ H Q I h=>pairTrees_nil_walk ⟨[],H,I,.nil,h⟩
theorem B3{X:Cx}{pos:Pos}{k v:Expr}{ks:List (Option Expr)}{vs:List Expr}{tk tv:TE}{a:List (TE×TE)}(hk:PE X k tk)(hv:PE X v tv)(hr:Nj X pos ks vs a):
  Nj X pos (Z k::ks) (v::vs) ((tk,tv)::a):=λag s σ H Q I h=>
 pairTrees_cons_walk (fx (hk ag s σ H _ I h) λu e ⟨x,H1,d,i,j⟩=>fx (hv ag e σ H1 _ d j) λq n ⟨y,H2,c,f,l⟩=>
  fx (hr ag n σ H2 _ c l) λws p ⟨ps,o,g,b,m⟩=>⟨(x,y)::ps,o,g,.cons ⟨i,f⟩ b,m⟩)
def jw(kvs more:List (Key×V)):List (Key×V):=more.foldl (λacc kv=>iq acc kv.1 kv.2) kvs
theorem KV.merge:∀{more:List (Key×V)} {rs:List (Key×dz)} {kvs:List (Key×V)} {vs:List (Key×dz)},KV more rs->KV kvs vs->KV (jw kvs more) (merged vs rs):=by
 intro more rs kvs vs r;unfold KV at r
 induction r generalizing kvs vs with
 |nil=>intro q;exact q
 | @cons p q ps b h t ih=>
  intro a;have e:KV (iq kvs p.1 p.2) (stored vs q.1 q.2):=by
   have:=a.put p.1 h.2;rw[<- h.1];exact this
  exact ih e
theorem ll:∀(more kvs:List (Key×V)),(jw kvs more).length<=kvs.length+more.length
 |[],kvs=>by show kvs.length<=kvs.length+0;lia
 |p::r,kvs=>by
  have h1:=ll r (iq kvs p.1 p.2);have h2:=iT kvs p.1 p.2;show(jw (iq kvs p.1 p.2) r).length<=_;rw[lC1];lia
theorem pV{P:dD}{w:dF}:∀{kvs:List (Key×V)} {ws:List (dz×dz)},VV (kvs.map λd=>(kV d.1,d.2)) ws -> ∃rs,Carries (ft P w) ws rs/\KV kvs rs
 |[],_,r=>by rw[aZ]at r;cases r;exact⟨[],QW,.nil⟩
 |p::kvs,_,r=>by
  rw[mP1]at r;cases r with
  | @cons a b as bs h t=>
   obtain⟨rs,c,q⟩:=pV (P:=P) (w:=w) t;obtain⟨b1,b2⟩:=b;exact⟨(p.1,b2)::rs,⟨pA h.1,O,c⟩,.cons ⟨O,h.2⟩ q⟩
def LM(trs:List (TE×TE)):TE:=fun σ H Q=>∀p,H p=Y->sG trs σ (upd H p (.dK [])) λps H2=>H2 p=Z (.dK []) /\ ∃kvs:List (Key×V),ps=kvs.map (λkv=>(kV kv.1,kv.2))/\kvs.length<=15/\Q (.ref p) (upd H2 p (.dK (jw [] kvs)))
theorem FH{X:Cx}{pos:Pos}{b:List (Option Expr)}{values:List Expr}{f:List (TE×TE)}(h:Nj X pos b values f)(d:b.all (·.isSome)=M)(u:b.length=values.length)(x:b≠[])(i:b.length<=15):PE X (.Dict b values pos) (LM f):=by
 intro ag s σ H Q I q;have l:=I.hok.fresh (nR1 s.heap.objs.size);have t:=I.laid (a:=s.heap.objs.size) (o:=.dK []) (h':=s.heap.push {cls:=.type "dict",data:=.dict #[]}) (t':=s.toks) (λ_ _ q=>hP1 _ q) (nR1 _) (vG s.heap I.big);refine wpAny_Dict_walk (knd:=ft X.prog X.w) d u x i (fx (h ag _ σ _ _ t (q _ l)) λws C ⟨ps,H2,k,j,e,kvs,ep,lk,p⟩=>?_);subst ep;obtain⟨rs,c,rk⟩:=pV (P:=X.prog) (w:=X.w) j;obtain⟨z,r,B,A,n⟩:=vF k.hok e;cases A;refine⟨rs,c,n,λh' g v=>⟨.ref s.heap.objs.size,_,?_,O,p⟩⟩;have m:(jw [] kvs).length<=dI:=by
  have h1:=ll kvs [];rw[bf]at h1;rw[QT];lia
 have y:∃q,h'.get? s.heap.objs.size=Z q:=let ⟨q,_,_,hq,_⟩:=g;⟨q,hq⟩
 exact kO k (by rw[e];exact QW) v y (xa m r (rk.merge .nil) g)
structure M2 (X:Cx)(o:Expr)(m:Str)(apos:Pos)(e f:Expr)(cpos:Pos):Prop where
 base:Rs o m X.env (eval o X.env)=eval o X.env
 few:((Qn cpos (dH [e,f] X.env)).all (λx=> !x.1)&&(Rt cpos (Ru [] X.env)).all (λx=>x.1.isSome)
  && decide (([e,f]:List Expr).length+([]:List Q1).length+(if([]:List Q1).isEmpty then 0 else 1)<30))=true
 line:(apos.endLine == cpos.line)=true
 trees:Qn cpos (dH [e,f] X.env)=[(false,eval e X.env),(false,eval f X.env)]
def ON(H:Hp)(a:dB):Prop:=(∃kvs,Rd H a (.dK kvs)) \/ ∃kvs,Rd H a (.dT kvs)
theorem KD{X:Cx}{ag:List (dB×Obj)}{σ:St}{H:Hp}{s:dA}{a:dB}(I:Inv X ag σ H s)(d:ON H a):
  s.TypeIs (.ref a) "dict"/\(∀b,Qb a = .ref b -> ∃c,s.heap.get? b=Z c/\c.dict=Y)/\(a == Qe)=J:=by
 rcases d with⟨kvs,e⟩|⟨kvs,e⟩
 ·obtain⟨_,g,vs,_,f⟩:=pR I.hok e;refine⟨f.typeIs,λb q=>?_,g⟩;cases q;obtain⟨c,_,_,h1,h2,_⟩:=f;exact⟨c,h1,h2.2.1⟩
 ·obtain⟨_,g,xs,_,f⟩:=rX I.hok e;refine⟨f.typeIs,λb q=>?_,g⟩;cases q;obtain⟨c,_,_,h1,h2,_⟩:=f;exact⟨c,h1,h2.2.1⟩
section
variable{ag:List (dB×Obj)}{σ:St}{H:Hp}{s:dA}{a:dB}{y d:V}{u r:dz}{o:Option V}{A:dE}{E:dz->dA->Prop}
end
section
variable{o e f:Expr}{apos cpos:Pos}{td ty tx:TE}
end
section
variable{ag:List (dB×Obj)}{σ:St}{H:Hp}{s:dA}{a:dB}{kvs:List (Key×V)}{A:dE}{E:dz->dA->Prop}
end
section
variable{ag:List (dB×Obj)}{σ:St}{H:Hp}{s:dA}{a:dB}{y:V}{u:dz}{A:dE}{E:dz->dA->Prop}
end
end L2
namespace Mi
open PySem PySem.Spec PyProof.Rows L2
inductive TK where
 |non|int (i:Int)|tup (xs:List TK)
instance:DecidableEq TK:=λ_ _=>Classical.propDecidable _
mutual
noncomputable def TK.hash:TK->Int
 | .non=>0xFCA86420
 | .int i=>aa i
 | .tup xs=>reduceHash (RD (TK.hashes xs))
noncomputable def TK.hashes:List TK->List Int
 |[]=>[]
 |x::xs=>TK.hash x::TK.hashes xs
end
mutual
noncomputable def TK.draws:TK->Nat
 | .non=>1
 | .int _=>1
 | .tup xs=>TK.drawsAll xs+1
noncomputable def TK.drawsAll:List TK->Nat
 |[]=>0
 |x::xs=>TK.draws x+TK.drawsAll xs
end
mutual
noncomputable def TK.dep:TK->Nat
 | .non=>0
 | .int _=>0
 | .tup xs=>TK.depAll xs+1
noncomputable def TK.depAll:List TK->Nat
 |[]=>0
 |x::xs=>max (TK.dep x) (TK.depAll xs)
end
theorem TK.dep_mem:∀{xs:List TK} {x:TK},x∈xs->x.dep<=TK.depAll xs
 |y::ys,x,h=>by
  rw[TK.depAll];rcases aF.mp h with e|e
  ·rw[e];exact Nat.le_max_left _ _
  ·exact aD (TK.dep_mem e) (Nat.le_max_right _ _)
theorem TK.hashes_app:∀a b:List TK,TK.hashes (a++b)=TK.hashes a++TK.hashes b
 |[],_=>rfl
 |x::xs,b=>by rw[bj,TK.hashes,TK.hashes,TK.hashes_app xs b];rfl
theorem TK.draws_app:∀a b:List TK,TK.drawsAll (a++b)=TK.drawsAll a+TK.drawsAll b
 |[],_=>by simp[TK.drawsAll]
 |x::xs,b=>by rw[bj,TK.drawsAll,TK.drawsAll,TK.draws_app xs b,bm]
def sA(xs:Array Nat):Prop:=xs.toList.Pairwise (· < ·)
noncomputable def gD(m:Nat):Nat->Nat->Nat->List Nat
 |0,_,_=>[]
 |n+1,i,b=>bn i (RE m i-i+1)++gD m n (RF m i b).1 (RF m i b).2
def zI(m:Nat):Prop:=m=7\/m=31\/m=127
def nU(m:Nat)(h:Int):List Nat:=gD m (RG m) (RH h%(m+1)) (RH h)
def zG(m:Nat)(occ:List Nat)(h:Int)(j:Nat):Prop:=∃pre post,nU m h=pre++j::post /\ ∀y∈pre,y∈occ
structure sTT (es:Array (Int×dz))(t:RI):Prop where
 mks:zI t.mask
 up:sA t.place
 du:t.dummies = #[]
 sz:t.place.size=es.size
 le:∀j∈t.place.toList,j<=t.mask
 fl:es.size<=t.mask
 rc:∀z∈t.place.toList.zip es.toList,zG t.mask t.place.toList z.2.1 z.1
noncomputable def stO(es:Array (Int×dz))(ep:Nat)(t:RI):Obj:={cls:=.type "set",dict:=Y,data:=.set es ep t,slots:= #[]}
def v8(a:dB)(xs:List (TK×dB×dz))(h:dM):Prop:=(xs.map (·.1)).Nodup /\ ∃es ep t,h.get? a=Z (stO es ep t)/\sTT es t/\t.tooFull=J/\(∀e∈es.toList,∃z∈xs,e=(z.1.hash,.ref z.2.1))/\(∀z∈xs,(z.1.hash,Qb z.2.1)∈es.toList)/\es.size=xs.length
inductive D where
 |non|bl (b:Bool)|int (i:Int)|str (x:Str)|tup (xs:List D)|rol (xs:List D)|ref (n:Nat)|fn (x:Str)
inductive Ob where
 |lst (xs:List D)|dct (kvs:List (Key×D))|dcT (kvs:List (TK×D))|iset (xs:List Int)|dcF (kvs:List (TK×D))|tst (ks:List TK)
abbrev Sto:=List Ob
abbrev Ev:=List (Option D)
abbrev FE:=Ev->Sto->Option (D×Sto)
abbrev FT:=Ev->Sto->Option (Bool×Sto)
abbrev FA:=Ev->Sto->Option (List D×Sto)
abbrev FN:=List D->Sto->Option (D×Sto)
inductive Fl where
 |nx|rt (d:D)|bk|ct
abbrev FS:=Ev->Sto->Option (Fl×Ev×Sto)
def RoL(K:Fg1)(H:Hp)(a:dB)(xs:List V):Prop:=(∃o,H a=Z (.frz o (.lst xs))) \/
 ∃(o:Obj) (its:Array dz) (n:Nat),K.lookup a=Z o/\o.cls = .type "list"/\o.dict=Y/\o.data = .seq its n/\its.size<=dI/\ez xs its.toList
theorem RoL.sq{K:Fg1}{H:Hp}{a:dB}{xs:List V}(h:RoL K H a xs):nq K H a xs:=h.elim (λ⟨o,q⟩=>.inl (.inr ⟨o,q⟩)) .inr
mutual
inductive fg (K:Fg1)(H:Hp)(mu:List dB):D->V->Prop
 |non:fg K H mu .non .non
 |bl (b:Bool):fg K H mu (.bl b) (.bl b)
 |int (i:Int):fg K H mu (.int i) (.int i)
 |str (x:Str):fg K H mu (.str x) (.str x)
 |tup {ds:List D} {vs:List V} {a:dB} (h:kS K H a vs) (r:d8 K H mu ds vs):fg K H mu (.tup ds) (.ref a)
 |rol {ds:List D} {vs:List V} {a:dB} (h:RoL K H a vs) (r:d8 K H mu ds vs):fg K H mu (.rol ds) (.ref a)
 |ref {n:Nat} {a:dB} (h:mu[n]?=some a):fg K H mu (.ref n) (.ref a)
 |fn {x:Str} {a:dB} (h:wN1 K dG x=some (some (.ref a))):fg K H mu (.fn x) (.ref a)
inductive d8 (K:Fg1)(H:Hp)(mu:List dB):List D->List V->Prop
 |nil:d8 K H mu [] []
 |cons {d:D} {v:V} {ds:List D} {vs:List V} (r:fg K H mu d v) (t:d8 K H mu ds vs):d8 K H mu (d::ds) (v::vs)
end
structure Ext (mu mu':List dB)(H H':Hp):Prop where
 pre:mu <+: mu'
 old:∀a o,H a=some o->a∉mu->H' a=some o
 tup:∀a xs,Rd H a (.tup xs)->Rd H' a (.tup xs)
 frz:∀a o u,H a=some (.frz o u)->H' a=some (.frz o u)
 new:∀a∈mu',a∈mu\/H a=none
theorem Ext.refl(mu:List dB)(H:Hp):Ext mu mu H H:=⟨bo,λ_ _ h _=>h,λ_ _ h=>h,λ_ _ _ h=>h,λ_ h=>.inl h⟩
theorem Ext.trans{mu m1 m2:List dB}{H H1 H2:Hp}(a:Ext mu m1 H H1)(b:Ext m1 m2 H1 H2):Ext mu m2 H H2 where
 pre:=a.pre.trans b.pre
 old:=λc o h n=>b.old c o (a.old c o h n) λz=>by
  rcases a.new c z with q|q
  ·exact n q
  ·rw[h]at q;cases q
 tup:=λc xs h=>b.tup c xs (a.tup c xs h)
 frz:=λc o u h=>b.frz c o u (a.frz c o u h)
 new:=λc h=>by
  rcases b.new c h with q|q
  ·exact a.new c q
  ·by_cases z:c∈mu
   ·exact .inl z
   ·right;cases e:H c with
    |none=>rfl
    |some o=>rw[a.old c o e z]at q;cases q
theorem Ext.at{mu mu':List dB}{H H':Hp}(e:Ext mu mu' H H'){n:Nat}{a:dB}(h:mu[n]?=Z a):mu'[n]?=Z a:=by
 obtain⟨t,rfl⟩:=e.pre;have b:n<mu.length:=(Tg h).1;rw[gL1 b];exact h
theorem Ext.back{mu mu':List dB}{H H':Hp}(e:Ext mu mu' H H'):Ext mu mu H H':=⟨bo,e.old,e.tup,e.frz,λ_ h=>.inl h⟩
structure uu (mu mu':List dB)(H H':Hp):Prop where
 pre:mu <+: mu'
 tup:∀a xs,Rd H a (.tup xs)->Rd H' a (.tup xs)
 frz:∀a o u,H a=some (.frz o u)->H' a=some (.frz o u)
theorem Ext.w{mu mu':List dB}{H H':Hp}(e:Ext mu mu' H H'):uu mu mu' H H':=⟨e.pre,e.tup,e.frz⟩
theorem uu.trans{mu m1 m2:List dB}{H H1 H2:Hp}(a:uu mu m1 H H1)(b:uu m1 m2 H1 H2):uu mu m2 H H2:=⟨a.pre.trans b.pre,λc xs h=>b.tup c xs (a.tup c xs h),λc o u h=>b.frz c o u (a.frz c o u h)⟩
theorem uu.at{mu mu':List dB}{H H':Hp}(e:uu mu mu' H H'){n:Nat}{a:dB}(h:mu[n]?=Z a):mu'[n]?=Z a:=by
 obtain⟨t,rfl⟩:=e.pre;have b:n<mu.length:=(Tg h).1;rw[gL1 b];exact h
structure H9 (mu mu':List dB)(H H':Hp):Prop where
 pre:mu <+: mu'
 tup:∀a xs,Rd H a (.tup xs)->Rd H' a (.tup xs)
 frl:∀a o xs,H a=some (.frz o (.lst xs))->H' a=some (.frz o (.lst xs))
theorem uu.v{mu mu':List dB}{H H':Hp}(e:uu mu mu' H H'):H9 mu mu' H H':=⟨e.pre,e.tup,λa o xs h=>e.frz a o _ h⟩
theorem Ext.v{mu mu':List dB}{H H':Hp}(e:Ext mu mu' H H'):H9 mu mu' H H':=e.w.v
theorem H9.at{mu mu':List dB}{H H':Hp}(e:H9 mu mu' H H'){n:Nat}{a:dB}(h:mu[n]?=Z a):mu'[n]?=Z a:=by
 obtain⟨t,rfl⟩:=e.pre;have b:n<mu.length:=(Tg h).1;rw[gL1 b];exact h
theorem kS.exv{K:Fg1}{mu mu':List dB}{H H':Hp}{a:dB}{vs:List V}(e:H9 mu mu' H H')(h:kS K H a vs):kS K H' a vs:=by
 rcases h with h|h
 ·exact .inl (e.tup a vs h)
 ·exact .inr h
theorem RoL.exv{K:Fg1}{mu mu':List dB}{H H':Hp}{a:dB}{vs:List V}(e:H9 mu mu' H H')(h:RoL K H a vs):RoL K H' a vs:=by
 rcases h with⟨o,h⟩|h
 ·exact .inl ⟨o,e.frl a o _ h⟩
 ·exact .inr h
theorem fg.exv{K:Fg1}{mu mu':List dB}{H H':Hp}(e:H9 mu mu' H H'):∀ {d:D} {v:V},fg K H mu d v->fg K H' mu' d v:=fun h=>h.rec (motive_1:=fun d v _=>fg K H' mu' d v) (motive_2:=fun ds vs _=>d8 K H' mu' ds vs)
  .non .bl .int .str (λh _ ih=>.tup (kS.exv e h) ih) (λh _ ih=>.rol (RoL.exv e h) ih) (λh=>.ref (e.at h)) (λh=>.fn h) .nil (λ_ _ a b=>.cons a b)
theorem d8.ind{K:Fg1}{mu:List dB}{H:Hp}{P:(ds:List D)->(vs:List V)->d8 K H mu ds vs->Prop}(hn:P [] [] .nil)(hc:∀{d v ds vs} (r:fg K H mu d v) (t:d8 K H mu ds vs),P ds vs t->P (d::ds) (v::vs) (.cons r t)){ds:List D}{vs:List V}(h:d8 K H mu ds vs):P ds vs h:=
 h.rec (motive_1:=λ_ _ _=>True) (motive_2:=P) trivial (λ_=>trivial) (λ_=>trivial) (λ_=>trivial) (λ_ _ _=>trivial) (λ_ _ _=>trivial) (λ_=>trivial) (λ_=>trivial) hn (λr t _ ih=>hc r t ih)
theorem d8.exv{K:Fg1}{mu mu':List dB}{H H':Hp}(e:H9 mu mu' H H'):∀{ds:List D} {vs:List V},d8 K H mu ds vs->d8 K H' mu' ds vs:=λh=>h.ind (P:=λds vs _=>d8 K H' mu' ds vs) .nil λr _ ih=>.cons (fg.exv e r) ih
section
variable{K:Fg1}{mu mu':List dB}{H H':Hp}{a:dB}{vs:List V}
theorem fg.exw(e:uu mu mu' H H'){d:D}{v:V}(h:fg K H mu d v):fg K H' mu' d v:=h.exv e.v
theorem d8.exw(e:uu mu mu' H H'){ds:List D}(h:d8 K H mu ds vs):d8 K H' mu' ds vs:=h.exv e.v
theorem fg.ext(e:Ext mu mu' H H'){d:D}{v:V}(h:fg K H mu d v):fg K H' mu' d v:=h.exv e.v
theorem d8.ext(e:Ext mu mu' H H'){ds:List D}(h:d8 K H mu ds vs):d8 K H' mu' ds vs:=h.exv e.v
end
section
variable{K:Fg1}{H:Hp}{mu:List dB}
theorem d8.length:∀{ds:List D} {vs:List V},d8 K H mu ds vs->ds.length=vs.length:=λh=>h.ind (P:=λds vs _=>ds.length=vs.length) O λ_ _ ih=>congrArg (· + 1) ih
theorem d8.get:∀{ds:List D} {vs:List V} {i:Nat} {d:D},d8 K H mu ds vs->ds[i]?=Z d -> ∃v,vs[i]?=Z v/\fg K H mu d v:=by
 intro ds vs i d h e
 induction h using d8.ind generalizing i with
 |hn=>cases e
 |hc r t ih=>cases i with
  |zero=>cases e;exact⟨_,O,r⟩
  |succ i=>exact ih (i:=i) e
theorem d8.getV:∀{ds:List D} {vs:List V} {i:Nat} {v:V},d8 K H mu ds vs->vs[i]?=Z v -> ∃d,ds[i]?=Z d/\fg K H mu d v:=by
 intro ds vs i d h e
 induction h using d8.ind generalizing i with
 |hn=>cases e
 |hc r t ih=>cases i with
  |zero=>cases e;exact⟨_,O,r⟩
  |succ i=>exact ih (i:=i) e
theorem d8.append:∀{ds es:List D} {vs ws:List V},d8 K H mu ds vs->d8 K H mu es ws->d8 K H mu (ds++es) (vs++ws):=λh s=>h.ind (P:=λds vs _=>d8 K H mu (ds++_) (vs++_)) s λr _ ih=>.cons r ih
theorem d8.take:∀{ds:List D} {vs:List V} (n:Nat),d8 K H mu ds vs->d8 K H mu (ds.take n) (vs.take n):=by
 intro ds vs n h
 induction h using d8.ind generalizing n with
 |hn=>rw[aw,aw];exact .nil
 |hc r t ih=>cases n with
  |zero=>exact .nil
  |succ n=>exact .cons r (ih n)
theorem d8.drop:∀{ds:List D} {vs:List V} (n:Nat),d8 K H mu ds vs->d8 K H mu (ds.drop n) (vs.drop n):=by
 intro ds vs n h
 induction h using d8.ind generalizing n with
 |hn=>rw[ay,ay];exact .nil
 |hc r t ih=>cases n with
  |zero=>exact .cons r t
  |succ n=>exact ih n
theorem d8.set{d:D}{v:V}(r:fg K H mu d v):∀{ds:List D} {vs:List V} (i:Nat),d8 K H mu ds vs->d8 K H mu (ds.set i d) (vs.set i v):=by
 intro ds vs i h
 induction h using d8.ind generalizing i with
 |hn=>exact .nil
 |hc q t ih=>cases i with
  |zero=>exact .cons r t
  |succ i=>exact .cons q (ih i)
theorem d8.eraseIdx:∀{ds:List D} {vs:List V} (i:Nat),d8 K H mu ds vs->d8 K H mu (ds.eraseIdx i) (vs.eraseIdx i):=by
 intro ds vs i h
 induction h using d8.ind generalizing i with
 |hn=>exact .nil
 |hc q t ih=>cases i with
  |zero=>exact t
  |succ i=>exact .cons q (ih i)
theorem d8.reverse:∀{ds:List D} {vs:List V},d8 K H mu ds vs->d8 K H mu ds.reverse vs.reverse:=by
 intro ds vs h
 induction h using d8.ind with
 |hn=>exact .nil
 |hc r t ih=>rw[aW,aW];exact d8.append ih (.cons r .nil)
end
def KR{κ:Type}(K:Fg1)(H:Hp)(mu:List dB):List (κ×D)->List (κ×V)->Prop:=Paired λp q=>p.1=q.1/\fg K H mu p.2 q.2
mutual
noncomputable def tkD:TK->D
 | .non=>.non
 | .int i=>.int i
 | .tup xs=>.tup (jM xs)
noncomputable def jM:List TK->List D
 |[]=>[]
 |x::xs=>tkD x::jM xs
end
def kq(a:dB)(xs:List (TK×dB×dz))(h:dM):Prop:=(a == Qe)=J/\(xs.map (·.1)).Nodup /\ ∃o es ep,h.get? a=Z o/\o.ExactDict/\o.data = .dict es ep/\es.toList=xs.map λx=>(⟨x.1.hash,.ref x.2.1,x.2.2⟩:DictEntry)
def Ia(a:dB)(xs:List (TK×dB×dz))(o:Obj):Prop:=(a == Qe)=J/\(xs.map (·.1)).Nodup/\o.ExactDict /\ ∃es ep,o.data = .dict es ep/\es.toList=xs.map λx=>(⟨x.1.hash,.ref x.2.1,x.2.2⟩:DictEntry)
def KT(K:Fg1)(H:Hp)(mu:List dB):List (TK×D)->List (TK×dB×dz)->Prop:=Paired λp q=>p.1=q.1/\p.1.dep<=8/\fg K H mu (tkD p.1) (.ref q.2.1) /\ ∃v,eg v q.2.2/\fg K H mu p.2 v
def ql(K:Fg1)(H:Hp)(mu:List dB)(a:dB):Ob->Prop
 | .lst ds=>∃vs,H a=Z (.lst vs)/\d8 K H mu ds vs
 | .dct kvs=>∃ws,H a=Z (.dK ws)/\KR K H mu kvs ws
 | .dcT kvs=>∃xs,H a=Z (.ext (kq a xs))/\KT K H mu kvs xs/\xs.length<=dI
 | .iset xs=>H a=Z (.set (λk=>xs.contains k) xs.length)/\xs.Nodup
 | .dcF kvs=>∃xs,(∃o u,H a=Z (.frz o u)/\Ia a xs o)/\KT K H mu kvs xs/\xs.length<=dI
 | .tst ks=>∃xs,H a=Z (.ext (v8 a xs))/\KT K H mu (ks.map λk=>(k,D.non)) xs
structure Sim (K:Fg1)(H:Hp)(mu:List dB)(S:Sto):Prop where
 len:mu.length=S.length
 nd:mu.Nodup
 ob:∀(n:Nat) (o:Ob) (a:dB),S[n]?=some o->mu[n]?=some a->ql K H mu a o
structure fT (K:Fg1)(H:Hp)(mu:List dB)(r:Ev)(σ:L2.St):Prop where
 len:r.length=σ.length
 val:∀(i:Nat) (d:D),r[i]?=some (some d) -> ∃v,σ[i]?=some (some v)/\fg K H mu d v
theorem fT.ext{K:Fg1}{mu mu':List dB}{H H':Hp}{r:Ev}{σ:L2.St}(e:Ext mu mu' H H')(h:fT K H mu r σ):fT K H' mu' r σ:=⟨h.len,λi d q=>by
 obtain⟨v,b,a⟩:=h.val i d q;exact⟨v,b,a.ext e⟩⟩
theorem KR.ext{κ:Type}{K:Fg1}{mu mu':List dB}{H H':Hp}{ks:List (κ×D)}{ws:List (κ×V)}(e:Ext mu mu' H H')(h:KR K H mu ks ws):KR K H' mu' ks ws:=
 Paired.mapP h λ_ _ z=>⟨z.1,z.2.ext e⟩
theorem KT.ext{K:Fg1}{mu mu':List dB}{H H':Hp}{ks:List (TK×D)}{ws:List (TK×dB×dz)}(e:Ext mu mu' H H')(h:KT K H mu ks ws):KT K H' mu' ks ws:=
 Paired.mapP h λ_ _ ⟨z,d,k,v,a,r⟩=>⟨z,d,k.ext e,v,a,r.ext e⟩
theorem Sim.nil{K:Fg1}{H:Hp}:Sim K H [] []:=⟨O,bp,λn o a h=>by simp at h⟩
theorem Sim.here{K:Fg1}{H:Hp}{mu:List dB}{S:Sto}(s:Sim K H mu S){a:dB}(h:a∈mu):∃o,H a=Z o:=by
 obtain⟨n,b⟩:=bq h;have c:n<S.length:=by rw[<- s.len];exact(Tg b).1
 have q:=s.ob n _ a (gG1 c) b;cases e:S[n]with
 |lst ds=>rw[e]at q;obtain⟨vs,z,_⟩:=q;exact⟨_,z⟩
 |dct ks=>rw[e]at q;obtain⟨vs,z,_⟩:=q;exact⟨_,z⟩
 |dcT ks=>rw[e]at q;obtain⟨vs,z,_⟩:=q;exact⟨_,z⟩
 |iset xs=>rw[e]at q;exact⟨_,q.1⟩
 |dcF ks=>rw[e]at q;obtain⟨vs,⟨_,_,z,_⟩,_⟩:=q;exact⟨_,z⟩
 |tst ks=>rw[e]at q;obtain⟨vs,z,_⟩:=q;exact⟨_,z⟩
def ur(K:Fg1)(mu:List dB)(H:Hp)(d:D)(S':Sto)(Q:VK):Prop:=∀v H' mu',Ext mu mu' H H'->fg K H' mu' d v->Sim K H' mu' S'->Q v H'
inductive tM (K:Fg1)(m:FE)(σ:L2.St)(H:Hp)(Q:VK):Prop
 |mk (r:Ev) (mu:List dB) (S:Sto) (d:D) (S':Sto) (he:fT K H mu r σ) (hs:Sim K H mu S) (hm:m r S=some (d,S')) (hc:ur K mu H d S' Q)
inductive Bo (K:Fg1)(m:FT)(σ:L2.St)(H:Hp)(Q:Bool->Hp->Prop):Prop
 |mk (r:Ev) (mu:List dB) (S:Sto) (b:Bool) (S':Sto) (he:fT K H mu r σ) (hs:Sim K H mu S) (hm:m r S=some (b,S')) (hc:∀H' mu',Ext mu mu' H H'->Sim K H' mu' S'->Q b H')
inductive OQ (K:Fg1)(m:FA)(σ:L2.St)(H:Hp)(Q:List V->Hp->Prop):Prop
 |mk (r:Ev) (mu:List dB) (S:Sto) (ds:List D) (S':Sto) (he:fT K H mu r σ) (hs:Sim K H mu S) (hm:m r S=some (ds,S')) (hc:∀vs H' mu',Ext mu mu' H H'->d8 K H' mu' ds vs->Sim K H' mu' S'->Q vs H')
def NR(K:Fg1)(mu:List dB)(H:Hp)(r':Ev)(S':Sto)(E:jK)(f:Fl):Prop:=match f with
 | .nx=>∀ σ' H' mu',Ext mu mu' H H'->fT K H' mu' r' σ'->Sim K H' mu' S'->E.nx σ' H'
 | .bk=>∀ σ' H' mu',Ext mu mu' H H'->fT K H' mu' r' σ'->Sim K H' mu' S'->E.bk σ' H'
 | .ct=>∀ σ' H' mu',Ext mu mu' H H'->fT K H' mu' r' σ'->Sim K H' mu' S'->E.ct σ' H'
 | .rt d=>ur K mu H d S' E.rt
inductive xN (K:Fg1)(m:FS)(E:jK)(σ:L2.St)(H:Hp):Prop
 |mk (r:Ev) (mu:List dB) (S:Sto) (f:Fl) (r':Ev) (S':Sto) (he:fT K H mu r σ) (hs:Sim K H mu S) (hm:m r S=some (f,r',S')) (hc:NR K mu H r' S' E f)
inductive rN (K:Fg1)(f:FN)(vs:List V)(H:Hp)(Q:VK):Prop
 |mk (mu:List dB) (S:Sto) (ds:List D) (d:D) (S':Sto) (hr:d8 K H mu ds vs) (hs:Sim K H mu S) (hm:f ds S=some (d,S')) (hc:ur K mu H d S' Q)
abbrev ME(X:Cx)(e:Expr)(m:FE):Prop:=PE X e (tM X.K m)
abbrev MT(X:Cx)(e:Expr)(m:FT):Prop:=PT X e (Bo X.K m)
abbrev MW(X:Cx)(e:Expr)(m:FT):Prop:=PW X e (Bo X.K m)
abbrev MA(X:Cx)(es:List Expr)(m:FA):Prop:=PA X es (OQ X.K m)
abbrev MS(X:Cx)(st:dP)(m:FS):Prop:=PS X st (xN X.K m)
abbrev AO(X:Cx)(st:List dP)(m:FS):Prop:=wd X st (xN X.K m)
variable{X:Cx}
section
variable{e:Expr}{es:List Expr}{st:dP}{sts:List dP}
theorem eX{t t':TE}(h:PE X e t)(i:∀ σ H Q,t' σ H Q->t σ H Q):PE X e t':=λag s σ H Q I q=>h ag s σ H Q I (i σ H Q q)
theorem wA{t t':TT}(h:PT X e t)(i:∀ σ H Q,t' σ H Q->t σ H Q):PT X e t':=λag s σ H Q I q=>h ag s σ H Q I (i σ H Q q)
theorem BY{t t':TT}(h:PW X e t)(i:∀ σ H Q,t' σ H Q->t σ H Q):PW X e t':=λa ag s σ H Q I q=>h a ag s σ H Q I (i σ H Q q)
theorem Ci{t t':TA}(h:PA X es t)(i:∀ σ H Q,t' σ H Q->t σ H Q):PA X es t':=λpos ag s σ H Q I q=>h pos ag s σ H Q I (i σ H Q q)
theorem iE{t t':TS}(h:PS X st t)(i:∀E σ H,t' E σ H->t E σ H):PS X st t':=λag s σ H E I q=>h ag s σ H E I (i E σ H q)
theorem sY{t t':TS}(h:wd X sts t)(i:∀E σ H,t' E σ H->t E σ H):wd X sts t':=λag s σ H E I q=>h ag s σ H E I (i E σ H q)
end
noncomputable def mV (i:Nat):FE:=λr S=>match r[i]? with
 |some (some d)=>some (d,S)
 |_=>none
noncomputable def mC (d:D):FE:=λ_ S=>some (d,S)
section
variable{pos:Pos}
theorem JY (i:Nat){x:Str}(hN:X.N[i]?=Z x)(hv:Vis X.env.scope x)(hd:autoParam ((x == ("__debug__":Str))=J) bu0)(hcd:autoParam ((x == ("__classdict__":Str))=J) bu0):ME X (.Name x pos) (mV i):=
 eX (Jc hN hv hd hcd) <| by
  rintro σ H Q ⟨r,mu,S,d,h,c,g,a,hc⟩;unfold mV at a;split at a
  ·rename_i j e;cases a;obtain⟨v,b,f⟩:=c.val i _ e;exact⟨v,b,hc v H mu (.refl _ _) f g⟩
  ·cases a
theorem CT{e:Expr}{v:V}(d:D)(h:PE X e (tC v))(hr:∀H mu,fg X.K H mu d v):ME X e (mC d):=
 eX h <| by
  rintro σ H Q ⟨r,mu,S,g,f,c,b,a,hc⟩;cases a;exact hc v H mu (.refl _ _) (hr H mu) b
theorem Ka{i:Int}{j}:ME X (.Constant (.int i) j pos) (mC (.int i)):=CT _ Jj λ_ _=>.int i
theorem Mq{b:Bool}{j}:ME X (.Constant (.bool b) j pos) (mC (.bl b)):=CT _ Ma λ_ _=>.bl b
theorem J8{j}:ME X (.Constant .none j pos) (mC .non):=CT _ Jh λ_ _=>.non
theorem J0{x:Str}{j}:ME X (.Constant (.str x) j pos) (mC (.str x)):=CT _ Je λ_ _=>.str x
end
noncomputable def dS:FA:=λ_ S=>Z ([],S)
noncomputable def dR (m:FE)(n:FA):FA:=λr S=>(m r S).bind λp=>(n r p.2).bind λq=>some (p.1::q.1,q.2)
section
variable{pos:Pos}{e:Expr}{es:List Expr}{m:FE}{n:FA}
theorem Ke:MA X [] dS:=Ci lC <| by
 rintro σ H Q ⟨r,mu,S,ds,d,c,a,b,hc⟩;cases b;exact hc [] H mu (.refl _ _) .nil a
theorem Gi(h:ME X e m)(ht:MA X es n)(hs:autoParam (dH (e::es) X.env=(J,eval e X.env)::dH es X.env) cu0):MA X (e::es) (dR m n):=
 Ci (iR h ht hs) <| by
  rintro σ H Q ⟨r,mu,S,ds,s,g,hs,a,hc⟩;unfold dR at a;obtain⟨⟨d,j⟩,k,a⟩:=Th a;obtain⟨⟨c,t⟩,o,a⟩:=Th a;cases a;refine⟨r,mu,S,d,j,g,hs,k,λv H1 mu1 i l p=>?_⟩;refine⟨r,mu1,j,c,_,g.ext i,p,o,λvs H2 b f r2 q=>?_⟩;exact hc _ H2 b (i.trans f) (.cons (l.ext f) r2) q
end
noncomputable def m2 (f:FN)(a b:FE):FE:=λr S=>(a r S).bind λp=>(b r p.2).bind λq=>f [p.1,q.1] q.2
noncomputable def m1 (f:FN)(a:FE):FE:=λr S=>(a r S).bind λp=>f [p.1] p.2
noncomputable def mN (f:FN)(a:FA):FE:=λr S=>(a r S).bind λp=>f p.1 p.2
abbrev r2(K:Fg1)(f:FN):R2:=λx y H Q=>rN K f [x,y] H Q
section
variable{K:Fg1}{f:FN}{a b:FE}{σ:L2.St}{H:Hp}{Q:VK}
theorem yq(h:tM K (m2 f a b) σ H Q):LG (r2 K f) (tM K a) (tM K b) σ H Q:=by
 obtain⟨r,mu,S,d,t,m,z,c,hc⟩:=h;obtain⟨⟨i,o⟩,B,c⟩:=Th c;obtain⟨⟨j,l⟩,x,c⟩:=Th c;refine⟨r,mu,S,i,o,m,z,B,λv H1 mu1 n w C=>?_⟩;refine⟨r,mu1,o,j,l,m.ext n,C,x,λu H2 g k r2 A=>?_⟩;exact⟨g,l,[i,j],d,t,.cons (w.ext k) (.cons r2 .nil),A,c,λv s e q p y=>hc v s e ((n.trans k).trans q) p y⟩
theorem yo{a:FA}(h:tM K (mN f a) σ H Q):OQ K a σ H λvs H1=>rN K f vs H1 Q:=by
 obtain⟨r,mu,S,d,k,j,s,b,hc⟩:=h;obtain⟨⟨e,g⟩,i,b⟩:=Th b;refine⟨r,mu,S,e,g,j,s,i,λv H1 mu1 o m n=>?_⟩;exact⟨mu1,g,e,d,k,m,n,b,λv t c q l p=>hc v t c (o.trans q) l p⟩
theorem Mn{op:Qx}{x y:Expr}{pos:Pos}(ho:gU X (QP op) (r2 X.K f))(hx:ME X x a)(hy:ME X y b):ME X (.BinOp x op y pos) (m2 f a b):=eX (L7 ho hx hy) λ_ _ _=>yq
theorem Kb{op:QR}{x y:Expr}{pos:Pos}(ho:gU X (QQ op) (r2 X.K f))(hx:ME X x a)(hy:ME X y b)(hm:QS op y=J):ME X (.Compare x [op] [y] pos) (m2 f a b):=eX (FK ho hx hy hm) λ_ _ _=>yq
theorem Mo{x y:Expr}{pos:Pos}(ho:H7 X (r2 X.K f))(hx:ME X x a)(hy:ME X y b)(hs:oD y):ME X (.Subscript x y pos) (m2 f a b):=eX (L8 ho hx hy hs) λ_ _ _=>yq
theorem CS {x:Str}{p pos:Pos}{e:Expr}{es:List Expr}{id:String}{a:FA}(hc:fc X (.builtin id) (rN X.K f))(hg:Gl X x)(hm:X.mg x=none)(hv:Qg x=some (.builtin id))(ha:MA X (e::es) a)(hn:autoParam (x≠"__name__") bu0)(hdb:autoParam ((x == ("__debug__":Str))=false) bu0)
  (he:autoParam (dH (e::es) X.env=(J,eval e X.env)::dH es X.env) cu0) (hpl:autoParam ((Qn pos (dH es X.env)).any (·.1)=J) cu0):ME X (.Call (.Name x p) (e::es) [] pos) (mN f a):=
 eX (l6 hc hg hm hv ha hn hdb he hpl) λ_ _ _=>yo
theorem zZ {x:Str}{p pos:Pos}{e:Expr}{es:List Expr}{T:String}{a:FA}(hc:fc X (.type T) (rN X.K f))(hg:Gl X x)(hm:X.mg x=none)(hv:Qg x=some (.type T))(ha:MA X (e::es) a)(hn:autoParam (x≠"__name__") bu0)(hdb:autoParam ((x == ("__debug__":Str))=false) bu0)
  (he:autoParam (dH (e::es) X.env=(J,eval e X.env)::dH es X.env) cu0) (hpl:autoParam ((Qn pos (dH es X.env)).any (·.1)=J) cu0):ME X (.Call (.Name x p) (e::es) [] pos) (mN f a):=
 eX (kE hc hg hm hv ha hn hdb he hpl) λ_ _ _=>yo
end
noncomputable def mB (m:FE):FT:=λr S=>(m r S).bind λp=>match p.1 with
 | .bl b=>some (b,p.2)
 |_=>none
theorem Ms{K:Fg1}{m:FE}{σ:L2.St}{H:Hp}{Q:Bool->Hp->Prop}(h:Bo K (mB m) σ H Q):tB (tM K m) σ H Q:=by
 obtain⟨r,mu,S,b,l,d,j,a,hc⟩:=h;obtain⟨⟨e,n⟩,c,a⟩:=Th a;cases e with
 |bl k=>
  cases a;refine⟨r,mu,S,_,_,d,j,c,λv H1 mu1 i f g=>?_⟩;cases f;exact⟨_,O,hc H1 mu1 i g⟩
 |_=>cases a
noncomputable def qw(a b:FT):FT:=λr S=>(a r S).bind λp=>if p.1=M then b r p.2 else Z (J,p.2)
noncomputable def CW(a b:FT):FT:=λr S=>(a r S).bind λp=>if p.1=M then Z (M,p.2)else b r p.2
noncomputable def nZ(a:FT):FT:=λr S=>(a r S).bind λp=>Z (!p.1,p.2)
noncomputable def lj(a b:FE):FE:=λr S=>(a r S).bind λp=>match p.1 with
 | .bl c=>if c=M then b r p.2 else Z (.bl J,p.2)
 |_=>Y
noncomputable def Py(a b:FE):FE:=λr S=>(a r S).bind λp=>match p.1 with
 | .bl c=>if c=M then Z (.bl M,p.2)else b r p.2
 |_=>Y
noncomputable def u8(a:FE):FE:=λr S=>(a r S).bind λp=>match p.1 with
 | .bl c=>Z (.bl (!c),p.2)
 |_=>Y
noncomputable def u9(c:FT)(a b:FE):FE:=λr S=>(c r S).bind λp=>if p.1=M then a r p.2 else b r p.2
section
variable{x y c:Expr}{rest:List Expr}{pos:Pos}{a b:FT}{f g:FE}
theorem JH{op:QR}{f:FN}{a b:FE}(ho:gU X (QQ op) (r2 X.K f))(hx:ME X x a)(hy:ME X y b)(hm:QS op y=J):MT X (.Compare x [op] [y] pos) (mB (m2 f a b)):=
 wA (Fp ho hx hy hm) fun σ H Q h=>by
  obtain⟨r,mu,S,d,e,c,k,hm,hc⟩:=Ms h;exact yq ⟨r,mu,S,d,e,c,k,hm,λv H' mu' j i g=>hc v H' mu' j i g⟩
theorem F4(ha:MT X x a):MW X (.BoolOp .And [x] pos) a:=Fn ha
theorem JD(ha:MT X x a):MW X (.BoolOp .Or [x] pos) a:=IR ha
theorem JE(ha:MT X x a)(hb:MW X (.BoolOp .And (y::rest) pos) b):MW X (.BoolOp .And (x::y::rest) pos) (qw a b):=
 BY (IS ha hb) <| by
  rintro σ H Q ⟨r,mu,S,k,l,f,m,c,hc⟩;obtain⟨⟨b1,h⟩,i,c⟩:=Th c;refine⟨r,mu,S,b1,h,f,m,i,λH1 mu1 e g=>?_⟩;cases b1 with
  |true=>exact⟨r,mu1,h,k,l,f.ext e,g,c,λH2 d j n=>hc H2 d (e.trans j) n⟩
  |false=>cases c;exact hc H1 mu1 e g
theorem Mk(ha:MT X x a)(hb:MW X (.BoolOp .Or (y::rest) pos) b):MW X (.BoolOp .Or (x::y::rest) pos) (CW a b):=
 BY (L1 ha hb) <| by
  rintro σ H Q ⟨r,mu,S,k,l,f,m,c,hc⟩;obtain⟨⟨b1,h⟩,i,c⟩:=Th c;refine⟨r,mu,S,b1,h,f,m,i,λH1 mu1 e g=>?_⟩;cases b1 with
  |false=>exact⟨r,mu1,h,k,l,f.ext e,g,c,λH2 d j n=>hc H2 d (e.trans j) n⟩
  |true=>cases c;exact hc H1 mu1 e g
theorem Oc(h:MW X x a):MT X x a:=PW.pt h
theorem JG(ha:MT X x a):MT X (.UnaryOp .Not x pos) (nZ a):=
 wA (IU ha) <| by
  rintro σ H Q ⟨r,mu,S,k,i,d,g,b,hc⟩;obtain⟨⟨b1,h⟩,c,b⟩:=Th b;cases b;exact⟨r,mu,S,b1,h,d,g,c,λH1 mu1 f e=>hc H1 mu1 f e⟩
theorem J4{op}(h:ME X x f):ME X (.BoolOp op [x] pos) f:=Jf h
theorem Kc(ha:ME X x f)(hb:ME X (.BoolOp .And (y::rest) pos) g):ME X (.BoolOp .And (x::y::rest) pos) (lj f g):=
 eX (Jm ha hb) <| by
  rintro σ H Q ⟨r,mu,S,k,m,e,p,a,hc⟩;obtain⟨⟨d,i⟩,j,a⟩:=Th a;refine⟨r,mu,S,d,i,e,p,j,λv H1 mu1 c n h=>?_⟩;cases d with
  |bl b1=>
   cases n;refine⟨b1,O,?_⟩;cases b1 with
   |true=>exact⟨r,mu1,i,k,m,e.ext c,h,a,λl H2 b o r2 q=>hc l H2 b (c.trans o) r2 q⟩
   |false=>cases a;exact hc _ H1 mu1 c (.bl J) h
  |_=>cases a
theorem J7(ha:ME X x f):ME X (.UnaryOp .Not x pos) (u8 f):=
 eX (Jg ha) <| by
  rintro σ H Q ⟨r,mu,S,k,l,d,i,a,hc⟩;obtain⟨⟨b,j⟩,c,a⟩:=Th a;refine⟨r,mu,S,b,j,d,i,c,λv H1 mu1 h e g=>?_⟩;cases b with
  |bl b1=>
   cases e;cases a;exact⟨b1,O,hc _ H1 mu1 h (.bl _) g⟩
  |_=>cases a
theorem Mp(hc:MT X c a)(hx:ME X x f)(hy:ME X y g):ME X (.IfExp c x y pos) (u9 a f g):=
 eX (Cd hc hx hy) <| by
  rintro σ H Q ⟨r,mu,S,k,n,j,q,d,hc⟩;obtain⟨⟨b1,l⟩,p,d⟩:=Th d;refine⟨r,mu,S,b1,l,j,q,p,λH1 mu1 e o=>?_⟩;cases b1 with
  |true=>exact⟨r,mu1,l,k,n,j.ext e,o,d,λi H2 b h r2 m=>hc i H2 b (e.trans h) r2 m⟩
  |false=>exact⟨r,mu1,l,k,n,j.ext e,o,d,λi H2 b h r2 m=>hc i H2 b (e.trans h) r2 m⟩
end
noncomputable def Mr(f g:FN)(a b c:FE):FE:=λr S=>(a r S).bind λp=>(b r p.2).bind λq=>(f [p.1,q.1] q.2).bind λt=>match t.1 with
 | .bl k=>if k=M then(c r t.2).bind λz=>g [q.1,z.1] z.2 else Z (.bl J,t.2)
 |_=>Y
section
variable{x y z:Expr}{pos:Pos}{f g:FN}{a b c:FE}{op op':QR}
theorem Kf{K:Fg1}{σ:L2.St}{H:Hp}{Q:VK}(h:tM K (Mr f g a b c) σ H Q):Br (r2 K f) (r2 K g) (tM K a) (tM K b) (tM K c) σ H Q:=by
 obtain⟨r,mu,S,d,F,q,av,e,hc⟩:=h;obtain⟨⟨v,B⟩,U,e⟩:=Th e;obtain⟨⟨o,A⟩,aq,e⟩:=Th e;obtain⟨⟨x,t⟩,G,e⟩:=Th e;refine⟨r,mu,S,v,B,q,av,U,λv1 H1 mu1 m I V=>?_⟩;refine⟨r,mu1,B,o,A,q.ext m,V,aq,λv2 H2 p l r2 R=>?_⟩;refine⟨p,A,[v,o],x,t,.cons (I.ext l) (.cons r2 .nil),R,G,λau E i j C z=>?_⟩;cases x with
 |bl k=>
  cases C;refine⟨k,O,?_⟩;cases k with
  |false=>cases e;exact hc _ E i ((m.trans l).trans j) (.bl J) z
  |true=>
   obtain⟨⟨w,y⟩,P,e⟩:=Th e;refine⟨r,i,t,w,y,q.ext ((m.trans l).trans j),z,P,λv4 wq s u X L=>?_⟩;exact⟨s,y,[o,w],d,F,.cons ((r2.ext j).ext u) (.cons X .nil),L,e,λT D n ao N W=>hc T D n ((((m.trans l).trans j).trans u).trans ao) N W⟩
 |_=>cases e
theorem CP(ho:gU X (QQ op) (r2 X.K f))(ho':gU X (QQ op') (r2 X.K g))(hx:ME X x a)(hy:ME X y b)(hz:ME X z c)(hm:autoParam (lastMarks [op,op'] [y,z]=false) Cf._auto_1):
  ME X (.Compare x [op,op'] [y,z] pos) (Mr f g a b c):=eX (Cf ho ho' hx hy hz hm) λ_ _ _=>Kf
end
mutual
noncomputable def D.und(n:Nat):D->Bool
 | .tup xs=>D.unds n xs
 | .rol xs=>D.unds n xs
 | .ref k=>decide (k<n)
 | .non=>M
 | .bl _=>M
 | .int _=>M
 | .str _=>M
 | .fn _=>M
noncomputable def D.unds(n:Nat):List D->Bool
 |[]=>M
 |d::ds=>D.und n d&&D.unds n ds
end
noncomputable def D.sames(a b:List D):Bool:=@decide (a=b) (Classical.propDecidable _)
theorem D.sames_eq{a b:List D}(h:D.sames a b=M):a=b:=@RJ _ (Classical.propDecidable _) h
theorem D.sames_refl(a:List D):D.sames a a=M:=@decide_eq_true _ (Classical.propDecidable _) O
section
variable{K:Fg1}{H:Hp}{mu mu':List dB}
theorem fg.cut{n:Nat}(h:∀ k,k<n->mu[k]? = mu'[k]?):∀ {d:D} {v:V},fg K H mu d v->d.und n=true->fg K H mu' d v:=fun c=>c.rec (motive_1:=fun d v _=>d.und n=true->fg K H mu' d v) (motive_2:=fun ds vs _=>D.unds n ds=true->d8 K H mu' ds vs)
  (λ_=>.non) (λb _=>.bl b) (λi _=>.int i) (λx _=>.str x) (λq _ ih e=>.tup q (ih (by rw[D.und]at e;exact e))) (λq _ ih e=>.rol q (ih (by rw[D.und]at e;exact e)))
  (λq e=>.ref (by rw[D.und]at e;rw[<- h _ (RJ e)];exact q)) (λq _=>.fn q) (λ_=>.nil) (λ_ _ a b e=>by rw[D.unds,bA1]at e;exact .cons (a e.1) (b e.2))
theorem d8.cut{n:Nat}(h:∀k,k<n->mu[k]?=mu'[k]?):∀{ds:List D} {vs:List V},d8 K H mu ds vs->D.unds n ds=M->d8 K H mu' ds vs:=λa=>a.ind (P:=λds vs _=>D.unds n ds=M->d8 K H mu' ds vs) (λ_=>.nil) λr _ b e=>by rw[D.unds,bA1]at e;exact .cons (fg.cut h r e.1) (b e.2)
end
noncomputable def Ob.und(n:Nat):Ob->Bool
 | .lst xs=>D.unds n xs
 | .dct kvs=>D.unds n (kvs.map (·.2))
 | .dcT kvs=>D.unds n (kvs.map (·.2))
 | .iset _=>M
 | .dcF kvs=>D.unds n (kvs.map (·.2))
 | .tst _=>M
theorem KR.cut{κ:Type}{K:Fg1}{H:Hp}{mu mu':List dB}{n:Nat}(h:∀k,k<n->mu[k]?=mu'[k]?):∀{ks:List (κ×D)} {ws:List (κ×V)},KR K H mu ks ws->D.unds n (ks.map (·.2))=M->KR K H mu' ks ws:=by
 intro ks ws a e
 induction a with
 |nil=>exact .nil
 |cons r t ih=>
  rw[mP1,D.unds,bA1]at e;exact .cons ⟨r.1,r.2.cut h e.1⟩ (ih e.2)
mutual
theorem Bl(n:Nat):∀k:TK,(tkD k).und n=M
 | .non=>rfl
 | .int _=>rfl
 | .tup xs=>by rw[tkD,D.und];exact xL n xs
theorem xL(n:Nat):∀ks:List TK,D.unds n (jM ks)=M
 |[]=>rfl
 |x::xs=>by rw[jM,D.unds,Bl n x,xL n xs];rfl
end
theorem KT.cut{K:Fg1}{H:Hp}{mu mu':List dB}{n:Nat}(h:∀k,k<n->mu[k]?=mu'[k]?):∀{ks:List (TK×D)} {ws:List (TK×dB×dz)},KT K H mu ks ws->D.unds n (ks.map (·.2))=M->KT K H mu' ks ws:=by
 intro ks ws a e
 induction a with
 |nil=>exact .nil
 |cons r t ih=>
  rw[mP1,D.unds,bA1]at e;obtain⟨z,d,k,v,b,r⟩:=r;exact .cons ⟨z,d,k.cut h (Bl n _),v,b,r.cut h e.1⟩ (ih e.2)
theorem yg(n:Nat):∀ks:List TK,D.unds n ((ks.map λk=>(k,D.non)).map (·.2))=M
 |[]=>rfl
 |_::ks=>by rw[mP1,mP1,D.unds,yg n ks];rfl
theorem ql.cut{K:Fg1}{H:Hp}{mu mu':List dB}{n:Nat}{a:dB}(h:∀k,k<n->mu[k]?=mu'[k]?):∀{o:Ob},ql K H mu a o->o.und n=M->ql K H mu' a o
 | .lst _,⟨vs,e,r⟩,b=>⟨vs,e,r.cut h b⟩
 | .dct _,⟨ws,e,r⟩,b=>⟨ws,e,KR.cut h r b⟩
 | .dcT _,⟨ws,e,r,l⟩,b=>⟨ws,e,KT.cut h r b,l⟩
 | .iset _,q,_=>q
 | .dcF _,⟨ws,e,r,l⟩,b=>⟨ws,e,KT.cut h r b,l⟩
 | .tst ks,⟨ws,e,r⟩,_=>⟨ws,e,KT.cut h r (yg n ks)⟩
def gc(n:Nat)(p:D×Sto):D×Sto:=if p.1.und n&&(p.2.take n).all (Ob.und n)then(p.1,p.2.take n)else p
mutual
noncomputable def D.sh(n:Nat):D->D
 | .tup xs=>.tup (D.shs n xs)
 | .rol xs=>.rol (D.shs n xs)
 | .ref k=>.ref (n+k)
 | .fn x=>.fn x
 | .non=>.non
 | .bl b=>.bl b
 | .int i=>.int i
 | .str x=>.str x
noncomputable def D.shs(n:Nat):List D->List D
 |[]=>[]
 |d::ds=>D.sh n d::D.shs n ds
end
def Ob.sh(n:Nat):Ob->Ob
 | .lst xs=>.lst (D.shs n xs)
 | .dct kvs=>.dct (kvs.map λp=>(p.1,p.2.sh n))
 | .dcT kvs=>.dcT (kvs.map λp=>(p.1,p.2.sh n))
 | .iset xs=>.iset xs
 | .dcF kvs=>.dcF (kvs.map λp=>(p.1,p.2.sh n))
 | .tst ks=>.tst ks
theorem fg.sh{K:Fg1}{H:Hp}{mu mu':List dB}:∀ {d:D} {v:V},fg K H mu' d v->fg K H (mu++mu') (d.sh mu.length) v:=fun c=>c.rec (motive_1:=fun d v _=>fg K H (mu++mu') (d.sh mu.length) v) (motive_2:=fun ds vs _=>d8 K H (mu++mu') (D.shs mu.length ds) vs)
  .non .bl .int .str (λh _ ih=>.tup h ih) (λh _ ih=>.rol h ih) (λh=>.ref (by rw[gR1 (br _ _),Nat.add_sub_cancel_left];exact h)) (λh=>.fn h) .nil (λ_ _ a b=>.cons a b)
theorem d8.sh{K:Fg1}{H:Hp}{mu mu':List dB}:∀{ds:List D} {vs:List V},d8 K H mu' ds vs->d8 K H (mu++mu') (D.shs mu.length ds) vs:=λh=>h.ind (P:=λds vs _=>d8 K H (mu++mu') (D.shs mu.length ds) vs) .nil λr _ ih=>.cons (fg.sh r) ih
theorem KR.sh{κ:Type}{K:Fg1}{H:Hp}{mu mu':List dB}:∀{ks:List (κ×D)} {ws:List (κ×V)},KR K H mu' ks ws->KR K H (mu++mu') (ks.map λp=>(p.1,p.2.sh mu.length)) ws:=by
 intro ks ws h
 induction h with
 |nil=>exact .nil
 |cons r t ih=>exact .cons ⟨r.1,r.2.sh⟩ ih
mutual
theorem Hy(n:Nat):∀k:TK,(tkD k).sh n=tkD k
 | .non=>rfl
 | .int _=>rfl
 | .tup xs=>by rw[tkD,D.sh,Bk n xs]
theorem Bk(n:Nat):∀ks:List TK,D.shs n (jM ks)=jM ks
 |[]=>rfl
 |x::xs=>by rw[jM,D.shs,Hy n x,Bk n xs]
end
theorem KT.sh{K:Fg1}{H:Hp}{mu mu':List dB}:∀{ks:List (TK×D)} {ws:List (TK×dB×dz)},KT K H mu' ks ws->KT K H (mu++mu') (ks.map λp=>(p.1,p.2.sh mu.length)) ws:=by
 intro ks ws h
 induction h with
 |nil=>exact .nil
 |cons r t ih=>
  obtain⟨z,d,k,v,a,r⟩:=r;exact .cons ⟨z,d,by have:=k.sh (mu:=mu);rw[Hy]at this;exact this,v,a,r.sh⟩ ih
theorem ql.sh{K:Fg1}{H:Hp}{mu mu':List dB}{a:dB}:∀{o:Ob},ql K H mu' a o->ql K H (mu++mu') a (o.sh mu.length)
 | .lst _,⟨vs,e,r⟩=>⟨vs,e,r.sh⟩
 | .dct _,⟨ws,e,r⟩=>⟨ws,e,KR.sh r⟩
 | .dcT _,⟨ws,e,r,l⟩=>⟨ws,e,KT.sh r,l⟩
 | .iset _,q=>q
 | .dcF _,⟨ws,e,r,l⟩=>⟨ws,e,KT.sh r,l⟩
 | .tst ks,⟨ws,e,r⟩=>⟨ws,e,by have:=KT.sh (mu:=mu) r;rw[bu]at this;exact this⟩
theorem fg.mor{K:Fg1}{H:Hp}{mu:List dB}(mu':List dB):∀{d:D} {v:V},fg K H mu d v->fg K H (mu++mu') d v:=λh=>h.exv ⟨bv _ _,λ_ _ h=>h,λ_ _ _ h=>h⟩
theorem d8.mor{K:Fg1}{H:Hp}{mu:List dB}(mu':List dB):∀{ds:List D} {vs:List V},d8 K H mu ds vs->d8 K H (mu++mu') ds vs:=λh=>h.exv ⟨bv _ _,λ_ _ h=>h,λ_ _ _ h=>h⟩
theorem KR.mor{κ:Type}{K:Fg1}{H:Hp}{mu:List dB}(mu':List dB){ks:List (κ×D)}{ws:List (κ×V)}(h:KR K H mu ks ws):KR K H (mu++mu') ks ws:=Paired.mapP h λ_ _ z=>⟨z.1,z.2.mor mu'⟩
theorem ql.mor{K:Fg1}{H:Hp}{mu:List dB}{a:dB}(mu':List dB):∀{o:Ob},ql K H mu a o->ql K H (mu++mu') a o
 | .lst _,⟨vs,e,r⟩=>⟨vs,e,r.mor mu'⟩
 | .dct _,⟨ws,e,r⟩=>⟨ws,e,KR.mor mu' r⟩
 | .dcT _,⟨ws,e,r,l⟩=>⟨ws,e,Paired.mapP r λ_ _ ⟨z,d,k,v,b,r⟩=>⟨z,d,k.mor mu',v,b,r.mor mu'⟩,l⟩
 | .iset _,q=>q
 | .dcF _,⟨ws,e,r,l⟩=>⟨ws,e,Paired.mapP r λ_ _ ⟨z,d,k,v,b,r⟩=>⟨z,d,k.mor mu',v,b,r.mor mu'⟩,l⟩
 | .tst _,⟨ws,e,r⟩=>⟨ws,e,Paired.mapP r λ_ _ ⟨z,d,k,v,b,r⟩=>⟨z,d,k.mor mu',v,b,r.mor mu'⟩⟩
def se(f:FN):FN:=λds S=>if D.unds 0 ds=M then(f ds []).map λp=>if p.1.und 0=M then(p.1,S)else(p.1.sh S.length,S++p.2.map (Ob.sh S.length))else(f ds S).map (gc S.length)
theorem ql.keep{K:Fg1}{H H':Hp}{mu:List dB}{a:dB}(e:Ext mu mu H H')(h:∀o,H a=Z o->H' a=Z o):∀{o:Ob},ql K H mu a o->ql K H' mu a o
 | .lst _,⟨vs,q,r⟩=>⟨vs,h _ q,r.ext e⟩
 | .dct _,⟨ws,q,r⟩=>⟨ws,h _ q,KR.ext e r⟩
 | .dcT _,⟨ws,q,r,l⟩=>⟨ws,h _ q,KT.ext e r,l⟩
 | .iset _,q=>⟨h _ q.1,q.2⟩
 | .dcF _,⟨ws,⟨o,u,b,c⟩,r,l⟩=>⟨ws,⟨o,u,h _ b,c⟩,KT.ext e r,l⟩
 | .tst _,⟨ws,q,r⟩=>⟨ws,h _ q,KT.ext e r⟩
theorem vU{K:Fg1}{f:FN}{vs:List V}{H:Hp}{Q:VK}(h:rN K (se f) vs H Q):rN K f vs H Q:=by
 obtain⟨mu,S,ds,d,aq,C,c,g,hc⟩:=h;unfold se at g;split at g
 ·rename_i j;obtain⟨⟨y,p⟩,B,g⟩:=Ti g;refine⟨[],[],ds,y,p,C.cut (n:=0) (λk i=>absurd i (bw _)) j,.nil,B,λv H' mu' x r s=>?_⟩;have w:Ext mu mu H H':=⟨bo,λa o e _=>x.old a o e (by simp),x.tup,x.frz,λ_ z=>.inl z⟩;dsimp only at g;split at g
  ·rename_i G;cases g;refine hc v H' mu w (r.cut (n:=0) (λk i=>absurd i (bw _)) G) ⟨c.len,c.nd,λn o a h1 h2=>?_⟩;exact(c.ob n o a h1 h2).keep w λo e=>x.old a o e (by simp)
  ·cases g;have E:∀ a∈mu',H a=none:=fun a u=>(x.new a u).resolve_left (by simp);have I:Ext mu (mu++mu') H H':=⟨bv _ _,fun a o e _=>x.old a o e (by simp),x.tup,x.frz,fun a z=>by
    rcases aG.mp z with z|z
    ·exact .inl z
    ·exact .inr (E a z)⟩
   refine hc v H' (mu++mu') I (by rw[<- c.len];exact r.sh) ⟨by rw[lA1,lA1,lM1,c.len,s.len],?_,λn o a h1 h2=>?_⟩
   ·refine bx.mpr ⟨c.nd,s.nd,λa u b j z=>?_⟩;subst z;obtain⟨o,e⟩:=c.here u;rw[E a j]at e;cases e
   ·by_cases l:n<S.length
    ·rw[gL1 l]at h1;rw[gL1 (by rw[c.len];exact l)]at h2;exact((c.ob n o a h1 h2).keep w λo e=>x.old a o e (by simp)).mor mu'
    ·have m:=a0 l;rw[gR1 m]at h1;rw[gR1 (by rw[c.len];exact m)]at h2;rw[gP1]at h1;obtain⟨L,ao,F⟩:=Ti h1;subst F;have q:=s.ob (n-S.length) L a ao (by rw[c.len]at h2;exact h2);rw[<- c.len];exact q.sh
 ·obtain⟨⟨y,p⟩,B,g⟩:=Ti g;refine⟨mu,S,ds,y,p,C,c,B,λv H' mu' x r s=>?_⟩;unfold gc at g;split at g
  ·rename_i j;cases g;rw [bA1] at j;have i:∀ k,k<S.length->mu'[k]? = mu[k]?:=fun k i=>by
    obtain⟨t,rfl⟩:=x.pre;rw[gL1 (by rw[c.len];exact i)]
   refine hc v H' mu x.back (r.cut i j.1) ⟨?_,c.nd,λn o a h1 h2=>?_⟩
   ·have:=s.len;have D:=x.pre.length_le;rw[aR,<- s.len];rw[c.len]at D ⊢;exact(bA D).symm
   ·have l:n<S.length:=by rw[<- c.len];exact(Tg h2).1
    have A:p[n]?=Z o:=by rw[aT l]at h1;exact h1
    refine(s.ob n o a A ((i n l).trans h2)).cut i ?_;exact bB.mp j.2 o (gM1 h1)
  ·cases g;exact hc v H' mu' x r s
noncomputable def By(K:Fg1)(n:Nat)(f:FN):Sp:=λvs H Q _=>vs.length=n/\rN K f vs H Q
section
variable{k n:Nat}{f:dB}{fd:dN}{ps:List Str}{x:Str}{p pos:Pos}{e:Expr}{es:List Expr}{m:FN}{a:FA}
noncomputable def dU (n:Nat)(f:FN):FN:=λds S=>if ds.length=n then se f ds S else none
theorem Gh (F:kn X.prog X.w X.K X.mg X.base wa k f fd ps (By X.K n m))(hr:ga k X.A)(hg:Gl X x)(hm:X.mg x=some (.ref f))(hk:wK1 X.K (.ref f)=true)(hb:ly X.K fd ps [])
  (ha:MA X (e::es) a) (hdb:autoParam ((x == ("__debug__":Str))=J) bu0) (he:autoParam (dH (e::es) X.env=(J,eval e X.env)::dH es X.env) cu0) (hpl:autoParam ((Qn pos (dH es X.env)).any (·.1)=J) cu0):
  ME X (.Call (.Name x p) (e::es) [] pos) (mN (dU n m) a):=
 eX (FL (E:=E0) F hr hg hm hk hb .nil HF ha hdb he hpl) fun σ H Q h=>by
  obtain⟨r,mu,S,ds,j,he,w,hm,hc⟩:=yo h;refine⟨r,mu,S,ds,j,he,w,hm,λvs H' mu' u o t=>?_⟩;have q:=hc vs H' mu' u o t;show By X.K n m (vs++[]) H' Q E0;rw[aN];obtain⟨c,v,d,g,i,h1,h2,b,s⟩:=q;unfold dU at b;split at b
  ·rename_i l;exact⟨by rw[<- h1.length];exact l,vU ⟨c,v,d,g,i,h1,h2,b,s⟩⟩
  ·cases b
end
noncomputable def li:FS:=λr S=>Z (.nx,r,S)
noncomputable def dZ (a b:FS):FS:=λr S=>(a r S).bind λp=>match p.1 with
 | .nx=>b p.2.1 p.2.2
 |f=>some (f,p.2.1,p.2.2)
noncomputable def eD (m:FE):FS:=λr S=>(m r S).bind λp=>some (.rt p.1,r,p.2)
noncomputable def OU:FS:=λr S=>Z (.rt .non,r,S)
noncomputable def fR (m:FE):FS:=λr S=>(m r S).bind λp=>some (.nx,r,p.2)
noncomputable def fC (c:FT)(a b:FS):FS:=λr S=>(c r S).bind λp=>if p.1=true then a r p.2 else b r p.2
section
variable{pos:Pos}{e c:Expr}{st:dP}{rest as bs:List dP}{a b:FS}{m:FE}{t:FT}
theorem F6:AO X [] li:=sY Fs <| by
 rintro E σ H ⟨r,mu,S,f,e,d,a,c,b,hc⟩;cases b;exact hc σ H mu (.refl _ _) a c
theorem CG(h1:MS X st a)(h2:AO X rest b):AO X (st::rest) (dZ a b):=sY (B0 h1 h2) <| by
 rintro E σ H ⟨r,mu,S,f,q,p,s,t,h,hc⟩;obtain⟨⟨n,l,m⟩,o,h⟩:=Th h;refine⟨r,mu,S,n,l,m,s,t,o,?_⟩;cases n with
 |nx=>
  intro u H1 mu1 i j k;refine⟨l,mu1,m,f,q,p,j,k,h,?_⟩;cases f with
  |nx=>exact λe H2 c g=>hc e H2 c (i.trans g)
  |bk=>exact λe H2 c g=>hc e H2 c (i.trans g)
  |ct=>exact λe H2 c g=>hc e H2 c (i.trans g)
  |rt d=>exact λv H2 c g=>hc v H2 c (i.trans g)
 |bk=>cases h;exact hc
 |ct=>cases h;exact hc
 |rt d=>cases h;exact hc
theorem F5(h1:MS X st a):AO X [st] a:=Fq h1
theorem F7(h:ME X e m)(hs:autoParam (Qu e Y pos.line X.env=pure J) cu0):MS X (.Expr e pos) (fR m):=iE (Ft h hs) <| by
 rintro E σ H ⟨r,mu,S,f,j,i,b,hs,a,hc⟩;obtain⟨⟨d,l⟩,c,a⟩:=Th a;cases a;exact⟨r,mu,S,d,_,b,hs,c,λv H' mu' x k g=>hc σ H' mu' x (b.ext x) g⟩
theorem JJ(h:ME X e m):MS X (.Return (Z e) pos) (eD m):=iE (IW h) <| by
 rintro E σ H ⟨r,mu,S,f,j,i,c,g,a,hc⟩;obtain⟨⟨d,k⟩,b,a⟩:=Th a;cases a;exact⟨r,mu,S,d,_,c,g,b,hc⟩
theorem Ml(hc:MT X c t)(ha:AO X as a)(hb:AO X bs b):MS X (.If c as bs pos) (fC t a b):=iE (L5 hc ha hb) <| by
 rintro E σ H ⟨r,mu,S,f,n,m,o,u,i,hc⟩;obtain⟨⟨k,l⟩,q,i⟩:=Th i;refine⟨r,mu,S,k,l,o,u,q,λH1 mu1 j s=>?_⟩;have p:∀c:FS,c r l=Z (f,n,m)->xN X.K c E σ H1:=λc i=>by
  refine⟨r,mu1,l,f,n,m,o.ext j,s,i,?_⟩;cases f with
  |nx=>exact λg H2 e h=>hc g H2 e (j.trans h)
  |bk=>exact λg H2 e h=>hc g H2 e (j.trans h)
  |ct=>exact λg H2 e h=>hc g H2 e (j.trans h)
  |rt d=>exact λv H2 e h=>hc v H2 e (j.trans h)
 cases k with
 |true=>exact p a i
 |false=>exact p b i
end
abbrev FG:=D->Ev->Sto->Option (Ev×Sto)
abbrev Eu:=List D->Ev->Sto->Option (Ev×Sto)
inductive Ix (K:Fg1)(g:FG)(v:V)(σ:L2.St)(H:Hp)(Q:L2.St->Hp->Prop):Prop
 |mk (r:Ev) (mu:List dB) (S:Sto) (d:D) (r':Ev) (S':Sto) (he:fT K H mu r σ) (hs:Sim K H mu S) (hr:fg K H mu d v) (hm:g d r S=some (r',S')) (hc:∀ σ' H' mu',Ext mu mu' H H'->fT K H' mu' r' σ'->Sim K H' mu' S'->Q σ' H')
inductive NS (K:Fg1)(g:Eu)(vs:List V)(σ:L2.St)(H:Hp)(Q:L2.St->Hp->Prop):Prop
 |mk (r:Ev) (mu:List dB) (S:Sto) (ds:List D) (r':Ev) (S':Sto) (he:fT K H mu r σ) (hs:Sim K H mu S) (hr:d8 K H mu ds vs) (hm:g ds r S=some (r',S')) (hc:∀ σ' H' mu',Ext mu mu' H H'->fT K H' mu' r' σ'->Sim K H' mu' S'->Q σ' H')
abbrev MG(X:Cx)(e:Expr)(g:FG):Prop:=PG X e (Ix X.K g)
abbrev Nl(X:Cx)(es:List Expr)(g:Eu):Prop:=Li X es (NS X.K g)
noncomputable def gN (i:Nat):FG:=λd r S=>some (r.set i (some d),S)
noncomputable def gNl:Eu:=λds r S=>match ds with
 |[]=>Z (r,S)
 |_=>Y
noncomputable def gCs (g:FG)(gs:Eu):Eu:=λds r S=>match ds with
 |d::ds=>(g d r S).bind λp=>gs ds p.1 p.2
 |[]=>none
noncomputable def gT (n:Nat)(gs:Eu):FG:=λd r S=>match d with
 | .tup ds=>if ds.length=n then gs ds r S else none
 |_=>none
theorem fT.set{K:Fg1}{H:Hp}{mu:List dB}{r:Ev}{σ:L2.St}{i:Nat}{d:D}{v:V}(h:fT K H mu r σ)(q:fg K H mu d v):fT K H mu (r.set i (Z d)) (σ.set i (Z v)):=by
 refine⟨by rw[aV,aV];exact h.len,λj g e=>?_⟩;by_cases a:i=j
 ·subst a;have b:i<r.length:=by
   have:=(Tg e).1
   rwa [aV]at this
  rw[aJ b]at e;cases e;exact⟨v,aJ (by rw[<- h.len];exact b),q⟩
 ·rw[gS1 a]at e;obtain⟨k,c,f⟩:=h.val j g e;exact⟨k,by rw[gS1 a];exact c,f⟩
section
variable{pos:Pos}
theorem wD{e:Expr}{t t':TG}(h:PG X e t)(i:∀v σ H Q,t' v σ H Q->t v σ H Q):PG X e t':=λag s σ H v u Q I r q=>h ag s σ H v u Q I r (i v σ H Q q)
theorem ya{e:List Expr}{t t':H0}(h:Li X e t)(i:∀v σ H Q,t' v σ H Q->t v σ H Q):Li X e t':=λag s σ H v u Q I r q=>h ag s σ H v u Q I r (i v σ H Q q)
theorem Gf(i:Nat){x:Str}(hN:X.N.Nodup)(hi:X.N[i]?=Z x)(hx:v9 X.env.scope x)(hf:autoParam (X.fn x=M\/X.env.scope.names.lookup x=Z .local) au0):MG X (.Name x pos) (gN i):=
 wD (yb hN hi hx hf) <| by
  rintro v σ H Q ⟨r,mu,S,d,g,f,a,e,c,b,hc⟩;cases b;exact hc _ H mu (.refl _ _) (a.set c) e
theorem Ge:Nl X [] gNl:=ya FD <| by
 rintro vs σ H Q ⟨r,mu,S,ds,f,e,b,d,c,a,hc⟩;unfold gNl at a;split at a
 ·cases a;cases c;exact⟨O,hc σ H mu (.refl _ _) b d⟩
 ·cases a
theorem CL{e:Expr}{es:List Expr}{g:FG}{j:Eu}(h1:MG X e g)(h2:Nl X es j)(hs:autoParam ((Qw (e::es) X.env).map (·.2)=Qv e X.env::(Qw es X.env).map (·.2)) cu0):Nl X (e::es) (gCs g j):=
 ya (Ca h1 h2 hs) <| by
  rintro vs σ H Q ⟨r,mu,S,ds,n,m,o,hs,s,a,hc⟩;unfold gCs at a;split at a
  ·obtain⟨⟨f,i⟩,k,a⟩:=Th a;cases s with
   |cons q t=>
    exact⟨_,_,O,r,mu,S,_,f,i,o,hs,q,k,λu H1 mu1 h b p=>⟨f,mu1,i,_,n,m,b,p,t.ext h,a,λd H2 c l=>hc d H2 c (h.trans l)⟩⟩
  ·cases a
theorem JS{es:List Expr}{k:Nat}{b:Eu}{n:Nat}(hc:X.calm=M)(h:Nl X es b)(hn:autoParam ((Qw es X.env).length=n) cu0)(hst:autoParam ((Qw es X.env).findIdx? (·.1)=Y) cu0):MG X (.Tuple es k pos) (gT n b):=
 wD (Ja hc h hn hst) <| by
  rintro v σ H Q ⟨r,mu,S,d,f,e,g,j,i,a,hc⟩;cases d with
  |tup ds=>
   rw[gT]at a;split at a
   ·rename_i c;cases i with
    |tup q t=>exact⟨_,_,O,q,by rw[<- t.length];exact c,r,mu,S,ds,f,e,g,j,t,a,hc⟩
   ·cases a
  |_=>cases a
inductive rU (K:Fg1)(f:FN)(o i v:V)(H:Hp)(Q:Hp->Prop):Prop
 |mk (mu:List dB) (S:Sto) (ds:List D) (d:D) (S':Sto) (hr:d8 K H mu ds [o,i,v]) (hs:Sim K H mu S) (hm:f ds S=some (d,S')) (hc:∀H' mu',Ext mu mu' H H'->Sim K H' mu' S'->Q H')
noncomputable def gS(f:FN)(a b:FE):FG:=λd r S=>(a r S).bind λp=>(b r p.2).bind λq=>(f [p.1,q.1,d] q.2).bind λt=>Z (r,t.2)
theorem JT{o i:Expr}{a b:FE}{f:FN}(ho:ME X o a)(hi:ME X i b)(hs:xr X (rU X.K f))(ha:autoParam (∀v,Qv (.Subscript o i pos) X.env v=(do
   let ov<-Qy [v] (eval o X.env)
   let iv<-Qy [v,ov] (eval i X.env)
   Qz pos
   Qy [v,ov,iv] (setItem ov iv v)
   release [v,ov,iv] [])) du0):MG X (.Subscript o i pos) (gS f a b):=
 wD (Jb ho hi hs ha) <| by
  rintro v σ H Q ⟨r,mu,S,d,G,F,k,hs,s,c,hc⟩;obtain⟨⟨m,q⟩,B,c⟩:=Th c;obtain⟨⟨n,p⟩,y,c⟩:=Th c;obtain⟨⟨x,D⟩,u,c⟩:=Th c;cases c;refine⟨r,mu,S,m,q,k,hs,B,λE H1 mu1 g w C=>?_⟩;refine⟨r,mu1,q,n,p,k.ext g,C,y,λI H2 j e r2 A=>?_⟩;exact⟨j,p,[m,n,d],x,_,.cons (w.ext e) (.cons r2 (.cons ((s.ext g).ext e) .nil)),A,u,λt h l z=>hc σ t h ((g.trans e).trans l) (((k.ext g).ext e).ext l) z⟩
noncomputable def d4 (m:FE)(g:FG):FS:=λr S=>(m r S).bind λp=>(g p.1 r p.2).bind λq=>some (.nx,q.1,q.2)
theorem tJ{K:Fg1}{m:FE}{g:FG}{E:jK}{σ:L2.St}{H:Hp}(h:xN K (d4 m g) E σ H):Bt (tM K m) (Ix K g) E σ H:=by
 obtain⟨r,mu,S,f,u,t,e,q,a,hc⟩:=h;obtain⟨⟨d,j⟩,k,a⟩:=Th a;obtain⟨⟨r2,v⟩,o,a⟩:=Th a;cases a;refine⟨r,mu,S,d,j,e,q,k,λs H1 mu1 i n p=>?_⟩;exact⟨r,mu1,j,d,_,_,e.ext i,p,n,o,λc H2 b l=>hc c H2 b (i.trans l)⟩
theorem JM{tg e:Expr}{m:FE}{g:FG}(he:ME X e m)(hg:MG X tg g)(hs:autoParam (QC [tg] e pos.line X.env=pure J) cu0)(hw:autoParam (QD [tg] e X.env=pure Y) cu0)(h1:autoParam ((Qw [tg] X.env).map (·.2)=[Qv tg X.env]) cu0):MS X (.Assign [tg] e pos) (d4 m g):=iE (I1 he hg hs hw h1) λ_ _ _=>tJ
theorem JI(i:Nat){x:Str}{e:Expr}{m:FE}{pos':Pos}(hN:X.N.Nodup)(hi:X.N[i]? = some x)(hx:v9 X.env.scope x)(he:ME X e m)(hs:autoParam (Qu e (some (.Name x pos')) pos.line X.env=pure false) cu0)(hf:autoParam (X.fn x=true\/X.env.scope.names.lookup x=some .local) au0):
  MS X (.Assign [.Name x pos'] e pos) (d4 m (gN i)):=iE (IV hN hi hx he hs hf) λE σ H h=>by
 obtain⟨r,mu,S,d,c,h1,h2,l,f⟩:=tJ h;refine⟨r,mu,S,d,c,h1,h2,l,λv H' mu' k g j=>?_⟩;obtain⟨r2,a,w,s,u,t,q,n,o,b,p⟩:=f v H' mu' k g j;cases b;exact p _ H' a (.refl _ _) (q.set o) n
noncomputable def Gm(i:Nat)(f:FN)(m:FE):FS:=λr S=>match r[i]? with
 |some (Z d)=>(m r S).bind λp=>(f [d,p.1] p.2).bind λq=>Z (.nx,r.set i (Z q.1),q.2)
 |_=>Y
theorem JL(i:Nat){x:Str}{e:Expr}{m:FE}{op:Qx}{f:FN}{pos':Pos}(hN:X.N.Nodup)(hi:X.N[i]? = some x)(hx:v9 X.env.scope x)(he:ME X e m)(ho:NF X op (r2 X.K f))(hf:autoParam (X.fn x=true\/X.env.scope.names.lookup x=some .local) au0):
  MS X (.AugAssign (.Name x pos') op e pos) (Gm i f m):=iE (I0 hN hi hx he ho hf) <| by
 rintro E σ H ⟨r,mu,S,D,C,B,he,s,a,hc⟩;unfold Gm at a;split at a
 ·rename_i d e;obtain⟨⟨h,j⟩,u,a⟩:=Th a;obtain⟨⟨o,F⟩,p,a⟩:=Th a;cases a;obtain⟨v,t,y⟩:=he.val i d e;refine⟨v,t,r,mu,S,h,j,he,s,u,λA H1 mu1 c n w=>?_⟩;exact⟨mu1,j,[d,h],o,_,.cons (y.ext c) (.cons n .nil),w,p,λz l b g k q=>hc _ l b (c.trans g) (((he.ext c).ext g).set k) q⟩
 ·cases a
end
noncomputable def q9 (c:FT)(b:FS):Nat->FS
 |0=>λ_ _=>none
 | n+1=>fun r S=>(c r S).bind fun p=>if p.1=true then (b r p.2).bind fun q=>match q.1 with
   | .nx=>q9 c b n q.2.1 q.2.2
   | .ct=>q9 c b n q.2.1 q.2.2
   | .bk=>some (.nx,q.2.1,q.2.2)
   | .rt d=>some (.rt d,q.2.1,q.2.2)
  else some (.nx,r,p.2)
theorem Ie{K:Fg1}{c:FT}{b:FS}{n:Nat}{E:jK}{σ:L2.St}{H:Hp}(h:xN K (q9 c b n) E σ H):Bm (Bo K c) (xN K b) E σ H:=by
 refine⟨λm a H'=>xN K (q9 c b m) E a H',⟨n,h⟩,λm t H1 q=>?_⟩;obtain⟨r,mu,S,f,A,z,u,G,i,hc⟩:=q;cases m with
 |zero=>cases i
 |succ m=>
  obtain⟨⟨k,D⟩,I,i⟩:=Th i;refine⟨r,mu,S,k,D,u,G,I,λH2 e l C=>?_⟩;cases k with
  |false=>
   cases i;exact hc t H2 e l (u.ext l) C
  |true=>
   obtain⟨⟨B,p,s⟩,F,i⟩:=Th i;have w:∀{a H' mu'},Ext e mu' H2 H'->fT K H' mu' p a->Sim K H' mu' s->q9 c b m p s=Z (f,A,z)->xN K (q9 c b m) E a H':=λ{a H' mu'} x g o i=>by
    refine⟨p,mu',s,f,A,z,g,o,i,?_⟩;cases f with
    |nx=>exact λj H2 e y=>hc j H2 e ((l.trans x).trans y)
    |bk=>exact λj H2 e y=>hc j H2 e ((l.trans x).trans y)
    |ct=>exact λj H2 e y=>hc j H2 e ((l.trans x).trans y)
    |rt d=>exact λv H2 e y=>hc v H2 e ((l.trans x).trans y)
   refine⟨λa H'=>xN K (q9 c b m) E a H',λa H' q=>⟨m,bC _,q⟩,r,e,D,B,p,s,u.ext l,C,F,?_⟩;cases B with
   |nx=>exact λa H' mu' x g o=>w x g o i
   |ct=>exact λa H' mu' x g o=>w x g o i
   |bk=>cases i;exact λa H' mu' x g o=>hc a H' mu' (l.trans x) g o
   |rt d=>cases i;exact λv H' mu' x p o=>hc v H' mu' (l.trans x) p o
theorem CH{X:Cx}{pos:Pos}(n:Nat){c:Expr}{a:List dP}{t:FT}{b:FS}(hp:QF (Qm X.prog X.w) X.A X.env X.xe)(hc:MT X c t)(hb:AO X a b):MS X (.While c a [] pos) (q9 t b n):=
 iE (B1 hp hc hb) λ_ _ _=>Ie
structure AQ where
 items:List D
 chk:List (Nat×List D)
noncomputable def qj (S:Sto):List (Nat×List D)->Bool
 |[]=>true
 | (n,xs)::c=>(match S[n]? with
   |some (.lst ys)=>D.sames ys xs
   |_=>false)&&qj S c
def OM(K:Fg1)(j:It)(ao:AQ)(mu:List dB)(H:Hp):Prop:=∀i H1 mu1 S1,uu mu mu1 H H1->Sim K H1 mu1 S1->qj S1 ao.chk=M ->
 (∀d,ao.items[i]?=Z d->j.go i H1 /\ ∀x H2,j.yld i H1 x H2->Ext mu1 mu1 H1 H2/\Sim K H2 mu1 S1/\fg K H2 mu1 d x)/\(ao.items.length<=i->j.stop i H1)
abbrev FI:=Ev->Sto->Option (AQ×Sto)
inductive LJ (K:Fg1)(m:FI)(σ:L2.St)(H:Hp)(R:It->Hp->Prop):Prop
 |mk (r:Ev) (mu:List dB) (S:Sto) (ao:AQ) (S':Sto) (he:fT K H mu r σ) (hs:Sim K H mu S) (hm:m r S=some (ao,S')) (hc:∀j H' mu',Ext mu mu' H H'->OM K j ao mu' H'->Sim K H' mu' S'->R j H')
abbrev MI(X:Cx)(tg iter:Expr)(m:FI):Prop:=PI X tg iter (LJ X.K m)
theorem o9{X:Cx}{tg e:Expr}{t t':TI}(h:PI X tg e t)(i:∀ σ H R,t' σ H R->t σ H R):PI X tg e t':=λag s σ H R I q=>h ag s σ H R I (i σ H R q)
theorem L6{X:Cx}{tg e:Expr}{t t':TI}(h:PI X tg e t)(h':PI X tg e t'):PI X tg e (fun σ H R=>t σ H R\/t' σ H R):=λag s σ H R I q=>q.elim (h ag s σ H R I) (h' ag s σ H R I)
noncomputable def jF (c:List (Nat×List D))(g:FG)(b:FS):List D->FS
 |[]=>λr S=>if qj S c=true then some (.nx,r,S)else none
 | d::ds=>fun r S=>if qj S c=true then (g d r S).bind fun p=>(b p.1 p.2).bind fun q=>match q.1 with
   | .nx=>jF c g b ds q.2.1 q.2.2
   | .ct=>jF c g b ds q.2.1 q.2.2
   | .bk=>some (.nx,q.2.1,q.2.2)
   | .rt v=>some (.rt v,q.2.1,q.2.2)
  else none
noncomputable def fO (m:FI)(g:FG)(b:FS):FS:=λr S=>(m r S).bind λp=>jF p.1.chk g b p.1.items r p.2
theorem nM{α:Type}{l:List α}{i:Nat}{d:α}{ds:List α}(h:l.drop i=d::ds):l[i]?=Z d/\l.drop (i+1)=ds:=by
 have h1:l[i]?=Z d:=by
  have:=congrArg (·[0]?) h;simpa using this
 refine⟨h1,?_⟩;rw[<- List.drop_drop,h];rfl
inductive OJ (K:Fg1)(mu1:List dB)(H1:Hp)(c:List (Nat×List D))(g:FG)(b:FS)(f:Fl)(r':Ev)(S':Sto)(L:List D)(σ':L2.St)(H':Hp):Prop
 |mk (r2:Ev) (mu2:List dB) (S2:Sto):Ext mu1 mu2 H1 H'->fT K H' mu2 r2 σ'->Sim K H' mu2 S2->jF c g b L r2 S2=some (f,r',S')->OJ K mu1 H1 c g b f r' S' L σ' H'
theorem Gk{K:Fg1}{m:FI}{g:FG}{b:FS}{E:jK}{σ:L2.St}{H:Hp}(h:xN K (fO m g b) E σ H):LK (LJ K m) (Ix K g) (xN K b) E σ H:=by
 obtain⟨r,mu,S,f,P,av,U,hs,B,hc⟩:=h;obtain⟨⟨ao,V⟩,e1,B⟩:=Th B;refine⟨r,mu,S,ao,V,U,hs,e1,λj H1 mu1 A Q s1=>?_⟩;refine⟨λi k s H'=>k=(ao.items.drop i).length/\OJ K mu1 H1 ao.chk g b f P av (ao.items.drop i) s H',⟨_,O,r,mu1,V,.refl _ _,U.ext A,s1,B⟩,?_⟩;rintro i k C H2 ⟨rfl,r2,l,S2,p,w,F,a⟩;cases hl:ao.items.drop i with
 |nil=>
  left;rw[hl]at a;rw[jF]at a;dsimp only at a;split at a
  ·rename_i ok;cases a;refine⟨(Q i H2 l _ p.w F ok).2 (List.drop_eq_nil_iff.mp hl),?_⟩;exact hc C H2 l (A.trans p) w F
  ·cases a
 |cons d ds=>
  right;rw[hl]at a;obtain⟨hi,R⟩:=nM hl;rw[jF]at a;dsimp only at a;split at a
  ·rename_i ok;obtain⟨⟨N,aq⟩,e3,a⟩:=Th a;obtain⟨⟨T,I,D⟩,e4,a⟩:=Th a;obtain⟨au,yl⟩:=(Q i H2 l _ p.w F ok).1 d hi;refine⟨au,OJ K mu1 H1 ao.chk g b f P av ds,?_,λx wq y=>?_⟩
   ·intro s H' h5;exact⟨ds.length,bC _,(congrArg List.length R).symm,R.symm ▸ h5⟩
   ·obtain⟨t,s3,X⟩:=yl x wq y;refine⟨r2,l,S2,d,N,aq,w.ext t,s3,X,e3,λW H4 L z G s4=>?_⟩;refine⟨N,L,aq,T,I,D,G,s4,e4,?_⟩;cases T with
    |nx=>exact λo u c n e q=>⟨I,c,D,(p.trans t).trans (z.trans n),e,q,a⟩
    |ct=>exact λo u c n e q=>⟨I,c,D,(p.trans t).trans (z.trans n),e,q,a⟩
    |bk=>cases a;exact λo u c n e q=>hc o u c ((A.trans p).trans (t.trans (z.trans n))) e q
    |rt v=>cases a;exact λv5 u c n r5 q=>hc v5 u c ((A.trans p).trans (t.trans (z.trans n))) r5 q
  ·cases a
theorem JK{X:Cx}{pos:Pos}{tg iter:Expr}{a:List dP}{m:FI}{g:FG}{b:FS}(hp:QF (Qm X.prog X.w) X.A X.env X.xe)(hc:X.calm=M)(hi:MI X tg iter m)(hg:MG X tg g)(hb:AO X a b)(hs:autoParam (∀x,QO iter X.env x=pure x) du0):MS X (.For tg iter a [] pos) (fO m g b):=iE (IZ hp hc hi hg hb hs) λ_ _ _=>Gk
noncomputable def ic(n:Nat)(ds:List D):Ev:=ds.map Z++aP (n-ds.length) Y
noncomputable def hB (n:Nat)(b:FS):FN:=λds S=>(b (ic n ds) S).bind λp=>match p.1 with
 | .rt d=>some (d,p.2.2)
 | .nx=>some (.non,p.2.2)
 |_=>none
theorem zz{K:Fg1}{H:Hp}{mu:List dB}{ds:List D}{vs:List V}(N:List Str)(h:d8 K H mu ds vs):fT K H mu (ic N.length ds) (L2.jO N vs):=by
 refine⟨?_,λi d e=>?_⟩
 ·unfold ic L2.jO;rw[lA1,lA1,lM1,lM1,lR1,lR1,h.length]
 ·unfold ic at e;unfold L2.jO;by_cases hi:i<ds.length
  ·rw[gL1 (by rw[lM1];exact hi),gP1]at e;obtain⟨f,a,c⟩:=Ti e;cases c;obtain⟨v,b,r⟩:=h.get a;refine⟨v,?_,r⟩;rw[gL1 (by rw[lM1,<- h.length];exact hi),gP1,b];rfl
  ·rw[gR1 (by rw[lM1];lia)]at e;have:=gM1 e;rw[bD]at this;cases this.2
theorem ML{P:dD}{w:dF}{K:Fg1}{mg:Str->Option dz}{base:dM}{x c:Str}{st:dP}{f:dB}{fd:dN}{N ps:List Str}{k:Nat}{b:FS}(F:AV K x c st f fd)(S:hH N ps (ej st))(g:∀(e:dz) (A:dE) (a:List Env) (s:dA) (H:Hp) (E:XK),ga k (A.deeper (Q3 c (ej st) s.heap.objs.size f e)) ->
   AO (og wa P w K mg base N c (ej st) f e A a s H E).nox (fJ st) b):kn P w K mg base wa (k+1) f fd ps (By K ps.length (hB N.length b)):=by
 refine AV.ok F S (λvs H Q E h=>h.1) λe A a s H vs Q E q j=>⟨_,g e A a s H E q,?_⟩;obtain⟨_,mu,St,ds,d,u,h1,h2,i,l⟩:=j;unfold hB at i;obtain⟨⟨m,p,r⟩,o,i⟩:=Th i;refine⟨_,mu,St,m,p,r,zz N h1,h2,o,?_⟩;cases m with
 |nx=>cases i;exact λn H' mu' x t s=>l .non H' mu' x .non s
 |rt d=>cases i;exact l
 |bk=>cases i
 |ct=>cases i
noncomputable def j8(cells:List (Str×dB)):List (Str×Q2)->List (Str×dB)->Option (List (Str×dB))
 |[],acc=>Z acc
 |(n,k)::r,acc=>if k == .free then(cells.lookup n).bind λc=>j8 cells r ((n,c)::acc)else j8 cells r acc
theorem xf{env:Env}(f:Str×Q2->List (Str×dB)->Sem (ForInStep (List (Str×dB))))(hf:∀n k d,f (n,k) d=if k == .free then(do let c<-cellOf env n;pure (.yield ((n,c)::d)))else pure (.yield d)):
  ∀(a:List (Str×Q2)) (acc b:List (Str×dB)),j8 env.cells a acc=Z b->forIn a acc f=(pure b:Sem (List (Str×dB)))
 |[],acc,b,h=>by cases h;rfl
 |(n,k)::r,acc,b,h=>by
  rw[bE,hf];unfold j8 at h;split at h
  ·rename_i g;rw[ak g];obtain⟨c,e,h⟩:=Th h;have:cellOf env n=pure c:=by unfold cellOf;rw[e]
   rw[this,pure_bind,pure_bind];exact xf f hf r _ b h
  ·rename_i g;rw[aj g,pure_bind];exact xf f hf r _ b h
theorem DQ{scope:dQ}{env:Env}{cl:List (Str×dB)}(h:j8 env.cells scope.names []=Z cl):closureFor scope env=pure cl:=by
 simp only[closureFor];rw[xf (env:=env) _ (λn k a=>by cases hk:k == NameKind.free<;>simp[hk]) scope.names [] cl h];rfl
theorem xc{a:List (Str×dB)}:∀{b:List (Str×Q2)} {acc d:List (Str×dB)},j8 a b acc=Z d->(∀x c,acc.lookup x=Z c->a.lookup x=Z c) -> ∀x c,d.lookup x=Z c->a.lookup x=Z c
 |[],acc,d,h,ha=>by cases h;exact ha
 |(n,k)::r,acc,d,h,ha=>by
  unfold j8 at h;split at h
  ·obtain⟨c,e,h⟩:=Th h;refine xc h λx f q=>?_;rw[bF]at q;split at q
   ·rename_i g;cases q;rw[SV.mp g];exact e
   ·exact ha x f q
  ·exact xc h ha
theorem oz{b:List (Str×dB)}{x:Str}:∀{a:List (Str×Q2)} {acc d:List (Str×dB)},j8 b a acc=Z d->(a.lookup x=Z .free\/(acc.lookup x).isSome=M)->(d.lookup x).isSome=M
 |[],acc,d,h,ha=>by
  cases h;rcases ha with q|q
  ·cases q
  ·exact q
 |(n,k)::r,acc,d,h,ha=>by
  unfold j8 at h;split at h
  ·obtain⟨c,e,h⟩:=Th h;refine oz h ?_;rcases ha with q|q
   ·rw[bF]at q;split at q
    ·rename_i g;right;rw[bF,g];rfl
    ·exact .inl q
   ·right;rw[bF];split
    ·rfl
    ·exact q
  ·rename_i f;refine oz h ?_;rcases ha with q|q
   ·rw[bF]at q;split at q
    ·cases q;exact absurd O f
    ·exact .inl q
   ·exact .inr q
theorem hE{x:Str}{c:dB}:∀{a:List (Str×Q2)} {n:Nat} {acc:List (Str×dB)},(Q4 n a acc).lookup x=Z c->(n<=c/\(x,c)∈Q4 n a [])\/acc.lookup x=Z c
 |[],_,_,h=>.inr h
 |(y,k)::r,n,acc,h=>by
  unfold Q4 at h ⊢;split at h
  ·rename_i b;rw [if_pos b];have app:∀ (a:List (Str×Q2)) (m:Nat) (acc:List (Str×dB)),Q4 m a acc=Q4 m a []++acc:=by
    intro a
    induction a with
    |nil=>intro m acc;rfl
    |cons p r ih=>
     obtain⟨z,q⟩:=p;intro m acc;unfold Q4;split
     ·rw[ih _ ((z,m)::acc),ih _ [(z,m)],bG];rfl
     ·exact ih m acc
   rcases hE h with⟨h1,h2⟩|h1
   ·refine .inl ⟨by lia,?_⟩;rw[app];exact aH _ h2
   ·rw[bF]at h1;split at h1
    ·rename_i d;cases h1;refine .inl ⟨nR1 _,?_⟩;rw[app,SV.mp d];exact mA1 _ mS1
    ·exact .inr h1
  ·rename_i b;rw[aj b];exact hE h
theorem qB{x:Str}{c:dB}{n:Nat}{acc:List (Str×dB)}{a:List (Str×Q2)}(hx:a.lookup x=Z .cell)(h:(Q4 n a acc).lookup x=Z c):n<=c:=by
 have app:∀(a:List (Str×Q2)) (m:Nat) (acc:List (Str×dB)),Q4 m a acc=Q4 m a []++acc:=by
  intro a
  induction a with
  |nil=>intro m acc;rfl
  |cons p r ih=>
   obtain⟨z,q⟩:=p;intro m acc;unfold Q4;split
   ·rw[ih _ ((z,m)::acc),ih _ [(z,m)],bG];rfl
   ·exact ih m acc
 rw[app,List.lookup_append]at h;have q:=Q5 a n [] (.inl hx);obtain⟨b,e⟩:=aQ.mp q;rw[e]at h;cases h;rcases hE e with⟨h1,_⟩|h1
 ·exact h1
 ·cases h1
theorem lh {aq:Model}{A:dE}{E:dz->dA->Prop}{s:dA}{scope:dQ}{globals:dB}{c:List (Str×dB)}{qual:Str}{func:Option dB}{code:dz}{env:Env}{b:dB}{Q:Env->dA->Prop}
  (d:Q {scope,locals:=s.heap.objs.size,globals,cells:=Q4 (s.heap.objs.size+1) scope.names c,qual,func,code:=env.code,frame:=env.frame,builtins:=env.builtins}
   {s with heap:=pushCells (s.heap.push {cls:=.type "dict",data:=.dict #[]}) scope.names}):
  dJ aq A (newFunctionEnv scope globals c [] qual func code (Z env) b) Q E s:=by
 simp only[newFunctionEnv,Option.isSome_some,Rf];refine wB1 (wpAny_alloc ?_);refine wB1 (wpAny_layCells _ (λname a cells=>by cases hkc:a == RK<;>simp[hkc]) _ _ _ _ ?_);rw[show({s with heap:=s.heap.push {cls:=.type "dict",data:=.dict #[]}}:dA).heap.objs.size=s.heap.objs.size+1 from hZ1 ..];refine wB1 ?_;rw[List.forIn_nil];exact wP1 (wP1 d)
noncomputable def cxC(X:Cx)(scope:dQ)(cl:List (Str×dB))(T:List Str)(keep:List Nat)(s:dA)(H:Hp)(fp:List dB):Cx where
 prog:=X.prog
 w:=X.w
 K:=X.K
 mg:=X.mg
 base:=X.base
 A:=X.A
 N:=T++keep.map λi=>X.N.getD i (Rj "")
 s₀:=s
 H₀:=H
 env:=compEnvC scope (Q4 (s.heap.objs.size+1) scope.names cl) s.heap.objs.size X.env
 outer:=X.stack
 stack:=X.stack
 ex:=fp
 fn:=λx=>scope.names.lookup x == Z .cell
 calm:=X.calm
 pn:=[]
 xe:=λ_ _=>False
noncomputable def tS(k:Nat)(keep:List Nat)(σ:L2.St):L2.St:=aP k Y++keep.map λi=>(σ[i]?).join
theorem j1{env:Env}{x:Str}:∀ {a:List (Str×Q2)},
  (a.map λ(n,k)=>if(k == NameKind.free&&env.scope.kind == .function&&env.kindOf n == Z .cell)then(n,RK)else(n,k)).lookup x =
   (a.lookup x).map λk=>if(k == NameKind.free&&env.scope.kind == .function&&env.kindOf x == Z .cell)then RK else k
 |[]=>rfl
 |(n,k)::r=>by
  show List.lookup x ((if(k == NameKind.free&&env.scope.kind == .function&&env.kindOf n == Z .cell)=M then(n,RK)else(n,k))::_)=_;cases hx:x == n with
  |true=>
   have e:=SV.mp hx;subst e;by_cases hc:(k == NameKind.free&&env.scope.kind == .function&&env.kindOf x == Z .cell)=M
   ·rw[ak hc,bF,hx,bF,hx];simp only[oP1,ak hc]
   ·rw[aj hc,bF,hx,bF,hx];simp only[oP1,aj hc]
  |false=>
   have ih:=@j1 env x r;by_cases hc:(k == NameKind.free&&env.scope.kind == .function&&env.kindOf n == Z .cell)=M
   ·rw[ak hc,bF,hx,bF,hx];exact ih
   ·rw[aj hc,bF,hx,bF,hx];exact ih
structure Lw (X:Cx)(scope:dQ)(T:List Str)(keep:List Nat):Prop where
 kind:scope.kind = .function
 names:∀x∈scope.names,x.2 = .local->scope.names.lookup x.1=some .local
 free:∀i∈keep,∃x,X.N[i]?=some x/\scope.names.lookup x=some .free/\(X.env.kindOf x=some .cell\/X.env.kindOf x=some .free)/\(x,RK)∉scope.names
theorem vm{X:Cx}{ag:List (dB×Obj)}{σ:L2.St}{H:Hp}{s:dA}{scope:dQ}{t:List (Str×dB)}{T:List Str}{keep:List Nat}{fp:List dB}(I:Inv X ag σ H s)(C:Lw X scope T keep)(A:j8 X.env.cells scope.names []=some t)(hf:∀b∈fp,kX X ag H b)(ao:∀b∈fp,∃o,s.heap.get? b=some o):
  Inv (cxC X scope t T keep s H fp) [] (tS T.length keep σ) H {s with heap:=pushCells (s.heap.push {cls:=.type "dict",data:=.dict #[]}) scope.names}:=by
 have kept:∀b o,s.heap.get? b=Z o->(pushCells (s.heap.push {cls:=.type "dict",data:=.dict #[]}) scope.names).get? b=Z o:=λb o e=>RL _ _ b o (hP1 _ e);have B:=cellsFrom_ok scope.names (s.heap.push {cls:=.type "dict",data:=.dict #[]}) (s.heap.objs.size+1) [] ⟨λ_ _ Q=>(nomatch Q),List.Pairwise.nil⟩ (by rw[hZ1];exact nR1 _);rw[hZ1]at B;have L:=xc A (λx c q=>by cases q)
 -- a cell of the block: its own or an elder one
 have d:∀x c,(Q4 (s.heap.objs.size+1) scope.names t).lookup x=Z c->(s.heap.objs.size+1<=c/\(x,c)∈Q4 (s.heap.objs.size+1) scope.names [])\/X.env.cells.lookup x=Z c:=λx c h=>by
  rcases hE h with h1|h1
  ·exact .inl h1
  ·exact .inr (L x c h1)
 have g:∀x c,X.env.cells.lookup x=Z c->c<s.heap.objs.size:=λx c e=>by
  obtain⟨v,z⟩:=I.cell x c e;exact z.lt
 have w:∀b∈fp,b<s.heap.objs.size:=λb l=>by
  obtain⟨o,e⟩:=ao b l;exact hL1 e
 have fst:∀b∈fp,b∉frs X.stack:=λb l z=>by
  rcases aF.mp (I.stkSub b z)with q|q
  ·exact(hf b l).2.1 q
  ·exact(hf b l).2.2.1 q
 have kindOf:∀x,(cxC X scope t T keep s H fp).env.kindOf x=(scope.names.lookup x).map λk=>if(k == NameKind.free&&X.env.scope.kind == .function&&X.env.kindOf x == Z .cell)then RK else k:=λx=>j1
 refine⟨⟨I.ok.mod,C.kind,I.ok.glob,I.ok.blt,nR1 _,λx y c h1 h2=>?_,λx D=>?_,λx c h1 h2=>?_,I.ok.hd,I.ok.frames,.inl O,λb l=>⟨nN1 (w b l),λx c h z=>?_⟩,λb o e=>I.bs b o e,aD I.ok.bsz I.sz,λb o e l=>?_,fst,I.stack,I.stkFree⟩,
  rfl,I.bare,Un.kept kept,⟨λ_=>Y,(Heap.Ns.new s.heap (.type "dict")).keeps (RL _ _),λi x v h1 h2 h3=>?_⟩,λx c h=>?_,I.hok.fresh (nR1 _),λx c h=>?_,λp U=>absurd (show p∈([]:List (dB×Obj))from U) (by simp),I.hok.kept kept,?_⟩
 ·rcases d x c h1 with⟨a1,a2⟩|a1<;>rcases d y c h2 with⟨b1,b2⟩|b1
  ·exact name_of_addr B.apart a2 b2
  ·exact absurd (bH (bI a1) (g y c b1)) (aA _)
  ·exact absurd (bH (bI b1) (g x c a1)) (aA _)
  ·exact I.ok.inj x y c a1 b1
 ·have E:scope.names.lookup x=some .cell\/scope.names.lookup x=some .free:=by
   rw[kindOf x]at D;cases e:scope.names.lookup x with
   |none=>rw[e]at D;rcases D with z|z<;>cases z
   |some k=>
    rw[e]at D;simp only[oP1]at D;cases k<;>simp_all
  have:((Q4 (s.heap.objs.size+1) scope.names t).lookup x).isSome=M:=by
   rcases E with z|z
   ·exact Q5 _ _ _ (.inl z)
   ·exact Q5 _ _ _ (.inr (oz A (.inl z)))
  exact aQ.mp this
 ·have f:scope.names.lookup x=Z .cell:=by simpa[cxC]using h1
  have:=qB f h2;exact aD (aX _) this
 ·subst z;rcases d x c h with⟨a1,_⟩|a1
  ·exact absurd (bH (bI a1) (w c l)) (aA _)
  ·exact(hf c l).2.2.2.2.1 x c a1 O
 ·rcases(hf b l).2.2.2.1 with z|z
  ·exact I.ok.noex b o e z
  ·exact absurd (nL1 (hL1 e) (aD I.ok.bsz z)) (aA _)
 ·-- a name of the block that has a value:one of the outer text's
  have hi:T.length<=i:=by
   refine a0 λhi=>?_;unfold tS at h2;rw[gL1 (by rw[lR1];exact hi),aS]at h2;split at h2<;>cases h2
  unfold tS at h2;rw[gR1 (by rw[lR1];exact hi),lR1,gP1]at h2;obtain⟨j,P,h2⟩:=Ti h2;have f:X.N.getD j (Rj "")=x:=by
   have f:(T++keep.map λi=>X.N.getD i (Rj ""))[i]?=Z x:=h1;rw[gR1 hi,gP1,P]at f;exact Option.some.inj f
  obtain⟨y,av,aq,ky,V⟩:=C.free j (gM1 P);have K:y=x:=by rw[<- f,bJ,av];rfl
  subst K;have F:σ[j]?=Z (Z v):=by
   cases e:σ[j]? with
   |none=>rw[e]at h2;cases h2
   |some o=>rw[e]at h2;cases h2;rfl
  obtain⟨m,hn,au⟩:=I.loc;obtain⟨u,ru,W⟩:=au j y v av F (by
   rcases ky with z|z
   ·exact .inr (.inl z)
   ·exact .inr (.inr z))
  refine⟨u,ru,?_⟩;rcases W with⟨z,_⟩|⟨_,c,wq,S⟩
  ·rcases ky with q|q<;>(rw[z]at q;cases q)
  ·right;refine⟨?_,c,?_,S.keeps kept⟩
   ·rw[kindOf,aq];simp only[oP1];split
    ·exact .inl O
    ·exact .inr O
   ·obtain⟨c',e'⟩:=aQ.mp (Q5 scope.names (s.heap.objs.size+1) t (.inr (oz A (.inl aq))):((Q4 (s.heap.objs.size+1) scope.names t).lookup y).isSome=M);have N:(Q4 (s.heap.objs.size+1) scope.names t).lookup y=Z c':=e';rcases d y c' N with⟨a1,a2⟩|a1
    ·-- an own cell of that name:its kind would be cell
     exfalso;have:∀(names:List (Str×Q2)) (n:Nat),(y,c')∈Q4 n names []->(y,RK)∈names:=by
      have app:∀(names:List (Str×Q2)) (m:Nat) (acc:List (Str×dB)),Q4 m names acc=Q4 m names []++acc:=by
       intro names
       induction names with
       |nil=>intro m acc;rfl
       |cons p r ih=>
        obtain⟨z,q⟩:=p;intro m acc;unfold Q4;split
        ·rw[ih _ ((z,m)::acc),ih _ [(z,m)],bG];rfl
        ·exact ih m acc
      intro names
      induction names with
      |nil=>intro n h;cases h
      |cons p r ih=>
       obtain⟨z,q⟩:=p;intro n h;unfold Q4 at h;split at h
       ·rename_i R;rw[app]at h;rcases aG.mp h with h|h
        ·exact mC1 _ (ih _ h)
        ·have:(y,c')=(z,n):=by simpa using h
         cases this;have G:q=RK:=by simpa using R
         subst G;exact mS1
       ·exact mC1 _ (ih _ h)
     exact V (this _ _ a2)
    ·rw[wq]at a1;cases a1;exact N
 ·rcases d x c h with⟨a1,a2⟩|a1
  ·exact⟨_,(B.empty x c a2).1⟩
  ·obtain⟨v,z⟩:=I.cell x c a1;exact⟨v,z.keeps kept⟩
 ·rcases d x c h with⟨a1,a2⟩|a1
  ·exact I.hok.fresh (bI a1)
  ·exact I.freeC x c a1
 ·show(tS T.length keep σ).length=(T++keep.map λi=>X.N.getD i (Rj "")).length;unfold tS;rw[lA1,lA1,lR1,lM1,lM1]
noncomputable def lP(p:Pos)(tg:Expr)(ifs:List Expr)(it:dz)(env:Env)(emit:Sem Unit)(c:Code):Sem PySem.Fin:=do
 Qz p
 match<-QH it with
 |none=>pure (.done .next)
 |some v=>
  QI tg it v
  Qv tg env v
  let mut ok:=M
  for c in ifs do
   if ok then ok<-isTrue c env (eval c env)
  if ok then emit
  again c
noncomputable def pQ(elt:Expr)(acc:dz)(env:Env):Sem Unit:=do let _<-call (.builtin "list.append") [acc,<- eval elt env]
noncomputable def rW(e:Expr)(iter:Expr)(acc:dz)(env:Env):Sem Unit:=do
 let x<-eval iter env
 Qz iter.pos
 let x<-QO iter env x
 let _<-runOwn (.compStart e 1 (<- Qy [x] (QJ x)) acc env) env
theorem Bg(elt tg iter:Expr)(ifs:List Expr)(scope:dQ)(pos:Pos)(it acc:dz)(env:Env):
  RM (.ListComp elt [⟨tg,iter,ifs,0⟩] scope pos) 0 it acc env=lP iter.pos tg ifs it env (pQ elt acc env) (.compLoop (.ListComp elt [⟨tg,iter,ifs,0⟩] scope pos) 0 it acc env):=by rfl
noncomputable def Hx(p:Pos)(tg:Expr)(ifs:List Expr)(it:dz)(env:Env)(e iter:Expr)(acc:dz)(c:Code):Sem PySem.Fin:=do
 Qz p
 match<-QH it with
 |none=>pure (.done .next)
 |some v=>
  QI tg it v
  Qv tg env v
  let mut ok:=M
  for c in ifs do
   if ok then ok<-isTrue c env (eval c env)
  if ok then
   let x<-eval iter env
   Qz iter.pos
   let x<-QO iter env x
   let _<-runOwn (.compStart e 1 (<- Qy [x] (QJ x)) acc env) env
  again c
theorem EW(p:Pos)(tg:Expr)(ifs:List Expr)(it:dz)(env:Env)(e iter:Expr)(acc:dz)(c:Code):Hx p tg ifs it env e iter acc c=lP p tg ifs it env (rW e iter acc env) c:=by
 unfold Hx lP rW;simp only[bind_assoc,pure_bind]
theorem Ik(elt tg iter tg2 iter2:Expr)(ifs ifs2:List Expr)(scope:dQ)(pos:Pos)(it acc:dz)(env:Env):
  RM (.ListComp elt [⟨tg,iter,ifs,0⟩,⟨tg2,iter2,ifs2,0⟩] scope pos) 0 it acc env =
   lP iter.pos tg ifs it env (rW (.ListComp elt [⟨tg,iter,ifs,0⟩,⟨tg2,iter2,ifs2,0⟩] scope pos) iter2 acc env) (.compLoop (.ListComp elt [⟨tg,iter,ifs,0⟩,⟨tg2,iter2,ifs2,0⟩] scope pos) 0 it acc env):=by
 rw[<- EW];rfl
theorem Ij(elt tg iter tg2 iter2:Expr)(ifs ifs2:List Expr)(scope:dQ)(pos:Pos)(it acc:dz)(env:Env):
  RM (.ListComp elt [⟨tg,iter,ifs,0⟩,⟨tg2,iter2,ifs2,0⟩] scope pos) 1 it acc env =
   lP iter2.pos tg2 ifs2 it env (pQ elt acc env) (.compLoop (.ListComp elt [⟨tg,iter,ifs,0⟩,⟨tg2,iter2,ifs2,0⟩] scope pos) 1 it acc env):=by rfl
def qi(X:Cx)(ifs:List Expr)(t:TT):Prop:=
 ∀(ag:List (dB×Obj)) (s:dA) (σ:L2.St) (H:Hp) (Q:Bool->Hp->Prop),Inv X ag σ H s->t σ H Q ->
  dJ (Qm X.prog X.w) X.A (forIn ifs M λc r=>if r=M then do let ok<-isTrue c X.env (eval c X.env);pure (ForInStep.yield ok)else pure (ForInStep.yield r)) (TP X ag σ Q) X.xe s
theorem B6{X:Cx}:qi X [] (fun σ H Q=>Q M H):=λag s σ H Q I h=>wpAny_tests_nil ⟨H,I,h⟩
theorem B5{X:Cx}{c:Expr}{t:TT}(h:PT X c t):qi X [c] t:=λag s σ H Q I q=>wpAny_tests_one (h ag s σ H Q I q)
def PU(X:Cx)(m:Sem Unit)(t:TS):Prop:=
 ∀(ag:List (dB×Obj)) (s:dA) (σ:L2.St) (H:Hp) (E:jK),Inv X ag σ H s->t E σ H->dJ (Qm X.prog X.w) X.A m (λ_ s'=>∃ σ' H',Inv X ag σ' H' s'/\E.nx σ' H') X.xe s
theorem np{X:Cx}(hx:X.xe=fun _ _=>False)(hc:X.calm=true){elt:Expr}{c:List Comprehension}{scope:dQ}{pos p:Pos}{d:Nat}{tg:Expr}{ifs:List Expr}{acc:dz}{emit:Sem Unit}{ao:It}{fp:List dB}{it:dB}{aq:Nat->dM->Prop}{g:TG}{wq:TT}{tb:TS}(eq:RM (.ListComp elt c scope pos) d (.ref it) acc X.env=lP p tg ifs (.ref it) X.env emit (.compLoop (.ListComp elt c scope pos) d (.ref it) acc X.env))(T:xp X.prog X.w X.K tg ao fp it aq)(hg:PG X tg g)(hi:qi X ifs wq)(he:PU X emit tb){ag:List (dB×Obj)}{s:dA}{σ:L2.St}{H:Hp}{D:jK}(I:Inv X ag σ H s)(st:aq 0 s.heap)(V:∀b∈fp,kX X ag H b)(h:∃W:Nat->Nat->L2.St->Hp->Prop,(∃m,W 0 m σ H) /\ ∀i m σ H,W i m σ H ->
   (ao.stop i H/\D.nx σ H)\/(ao.go i H /\ ∃N:L2.St->Hp->Prop,(∀a H',N a H' -> ∃L,L<m/\W (i+1) L a H') /\ ∀x H',ao.yld i H x H'->g x σ H' λv H2=>wq v H2 λb t=>if b=M then tb {D with nx:=N} v t else N v t)):
  dL (Qm X.prog X.w) X.A (.compLoop (.ListComp elt c scope pos) d (.ref it) acc X.env) (λr s'=>match r with | .ok _=>∃a H',Inv X ag a H' s'/\D.nx a H' | .error _=>False) s:=by
 obtain⟨W,⟨m0,w0⟩,C⟩:=h;have j:∀{H':Hp},(∀b∈fp,H' b=Y) -> ∀b∈fp,kX X ag H' b:=λhn b l=>⟨hn b l,(V b l).2⟩;refine codeAny_loop O (λn s'=>∃i a H',Inv X ag a H' s'/\aq i s'.heap/\(∀b∈fp,H' b=Y)/\W i n a H') ?_ m0 ⟨0,σ,H,I,st,λb l=>(V b l).1,w0⟩;rintro n R ⟨i,f,t,au,F,B,w3⟩;show dJ _ _ ((RM (.ListComp elt c scope pos) d (.ref it) acc X.env).onRaise (λx=>do noteFrame x X.env;theTreesLotGoes x)) _ _ R;refine wpAny_noted ?_;rw[eq];have no:∀{α:Type} {m:Sem α} {Q:α->dA->Prop} {s:dA} {E:dz->dA->Prop},dJ (Qm X.prog X.w) X.A m Q X.xe s->dJ (Qm X.prog X.w) X.A m Q E s:=λh=>by
  rw[hx]at h;exact Qo h (λ_ _ q=>q) λ_ _ q=>q.elim
 unfold lP;refine wB1 (QB (wB1 ?_));rcases C i n f t w3 with⟨G,qn⟩|⟨go,N,hN,step⟩
 ·refine no (fx (T.done X O O O hc i ag R f t X.xe au (j B) F G) λr s4 ⟨av,I4⟩=>?_);subst av;exact wP1 ⟨f,t,I4,qn⟩
 ·refine no (fx (T.item X rfl rfl rfl hc i ag R f t X.xe au (j B) F go) fun r s4 ⟨u,av,h4⟩=>?_);subst av;refine wB1 (no (fx h4 fun _ s5 ⟨x,U,I5,r5,y5,y,P⟩=>?_));have S:=I5.pinned (j P) (T.obj _ _ y);refine wB1 (no (fx (hg _ s5 f U x u _ S r5 (step x U y5)) fun _ s6 ⟨K,H6,I6,q6⟩=>?_));refine wB1 (no (fx (hi _ s6 K H6 _ I6 q6) fun ok A ⟨w,z,q7⟩=>?_));have again':∀ {k:L2.St} {w:Hp} {A:dA},Inv X (ag++o4 fp s5.heap) k w A->N k w -> ∃ m,m<n /\ ∃ i a H',Inv X ag a H' A/\aq i A.heap/\(∀ b∈fp,H' b=none)/\W i m a H':=fun {k w A} z n7=>by
   obtain⟨L,hm,w7⟩:=hN k w n7;refine⟨L,hm,i+1,k,w,z.unpinned,T.keep _ _ _ y λb l o e=>(z.pin (b,o) (mA1 _ (mA1 _ (jx l e)))).1,λb l=>?_,w7⟩;obtain⟨o,e,d⟩:=T.obj _ _ y b l;exact(z.pin (b,o) (mA1 _ (mA1 _ (jx l e)))).2.1
  cases ok with
  |false=>exact wP1 ⟨O,again' z q7⟩
  |true=>exact wB1 (no (fx (he _ A K w _ z q7) λ_ s8 ⟨σ8,H8,I8,q8⟩=>wP1 ⟨O,again' I8 q8⟩))
def uz(p:dB)(te:TE):TS:=λD σ H=>te σ H λx H1=>∃xs,H1 p=Z (.lst xs)/\xs.length<dI/\D.nx σ (upd H1 p (.lst (xs++[x])))
theorem sX{X:Cx}{elt:Expr}{te:TE}(h:PE X elt te)(p:dB):PU X (pQ elt (.ref p) X.env) (uz p te):=by
 intro ag s σ H E I q;unfold pQ;refine wB1 (fx (h ag s σ H _ I q) λu e ⟨x,H1,c,f,xs,b,d,i⟩=>?_);refine wB1 (fx (rA ag e σ H1 (.ref p) [x] (.ref p) [u] (λ_ H'=>E.nx σ H') c O (.cons f .nil) ⟨p,xs,x,O,O,b,d,i⟩) λ_ j ⟨_,H2,a,_,g⟩=>?_);exact wP1 ⟨σ,H2,a,g⟩
noncomputable def Bp(ao:It)(g:TG)(ti:TT)(tb:TS):TS:=λD σ H=>∃W:Nat->Nat->L2.St->Hp->Prop,(∃m,W 0 m σ H) /\ ∀i m σ H,W i m σ H ->
 (ao.stop i H/\D.nx σ H)\/(ao.go i H /\ ∃N:L2.St->Hp->Prop,(∀ σ' H',N σ' H' -> ∃m',m'<m/\W (i+1) m' σ' H') /\ ∀x H',ao.yld i H x H'->g x σ H' fun σ2 H2=>ti σ2 H2 λb H3=>if b=M then tb {D with nx:=N} σ2 H3 else N σ2 H3)
def Bn(wi:TI)(g:TG)(ti:TT)(tb:TS):TS:=λD σ H=>wi σ H λao H1=>Bp ao g ti tb D σ H1
theorem vL{prog:dD}{w:dF}{A:dE}{R:QY->dA->Prop}{s:dA}{elt tg iter tg2 iter2:Expr}{ifs ifs2:List Expr}{scope:dQ}{pos:Pos}{it acc:dz}{env:Env}(b:dL (Qm prog w) A (.compLoop (.ListComp elt [⟨tg,iter,ifs,0⟩,⟨tg2,iter2,ifs2,0⟩] scope pos) 1 it acc env) R s)(h:dJ (Qm prog w) A (QJ it) (fun a s'=>dL (Qm prog w) A (.compLoop (.ListComp elt [⟨tg,iter,ifs,0⟩,⟨tg2,iter2,ifs2,0⟩] scope pos) 1 a acc env) R s')
   (notedBy (Qm prog w) A env λx s'=>R (.error x) s') s):
  dL (Qm prog w) A (.compStart (.ListComp elt [⟨tg,iter,ifs,0⟩,⟨tg2,iter2,ifs2,0⟩] scope pos) 1 it acc env) R s:=by
 refine RN ?_;show dJ _ _ ((compStart (.ListComp elt [⟨tg,iter,ifs,0⟩,⟨tg2,iter2,ifs2,0⟩] scope pos) 1 it acc env).onRaise (λx=>do noteFrame x env;Qz theWindowsPlace)) _ _ s;refine wpAny_notedAt ?_;unfold compStart;show dJ _ _ (ask >>= _) _ _ s;refine wB1 (RO (wpAny_ite ?_));split
 ·first
   |exact wB1 (wP1 (wP1 (And.intro rfl b)))
   |exact wP1 (And.intro rfl b)
 ·first
   |exact wB1 (QE (wB1 (QB (wB1 (Qo h (λa s' h'=>wP1 (And.intro O h')) λ_ _ x=>x)))))
   |(refine wB1 (QE ?_);show dJ _ _ (Qz iter2.pos >>= _) _ _ s;exact wB1 (QB (wB1 (Qo h (λa s' h'=>wP1 (And.intro O h')) λ_ _ x=>x))))
theorem Fo{X:Cx}(hx:X.xe=fun _ _=>False)(hc:X.calm=true){elt tg iter tg2 iter2:Expr}{ifs ifs2:List Expr}{scope:dQ}{pos:Pos}{acc:dz}{d:TI}{g:TG}{j:TT}{tb:TS}(hi:PI X tg2 iter2 d)(hg:PG X tg2 g)(hf:qi X ifs2 j)(he:PU X (pQ elt acc X.env) tb)(hs:autoParam (∀x,QO iter2 X.env x=pure x) du0):
  PU X (rW (.ListComp elt [⟨tg,iter,ifs,0⟩,⟨tg2,iter2,ifs2,0⟩] scope pos) iter2 acc X.env) (Bn d g j tb):=by
 intro ag s σ H E I q;unfold rW;refine wB1 (fx (hi ag s σ H _ I q) λv u h1=>?_);refine wB1 (QB (wB1 (RP (hs v) (wB1 (QA (fx h1 λp t h2=>?_))))));obtain⟨it,fp,w,ao,H2,rfl,k,T,b,n,o⟩:=h2;have a:=np hx hc (Ij elt tg iter tg2 iter2 ifs ifs2 scope pos (.ref it) acc X.env) T hg hf he k b n o;refine wB1 (wpAny_runOwn (h:=Y) ?_);refine QZ (vL a (T.self X.A 0 t _ _ b a)) λr s' i=>?_;cases r with
 |error e=>exact i.elim
 |ok f=>
  obtain⟨c,H',m,l⟩:=i;exact wP1 ⟨c,H',m,l⟩
theorem Un.sameBut{fs ex:List dB}{H H':Hp}{h h1 h2:dM}{c:dB}(u:Un fs ex H H' h h1)(hs:Ql c h1 h2)(hc:h.get? c=Y):Un fs ex H H' h h2:=by
 have ne:∀{b o},h.get? b=Z o->b≠c:=λe z=>by rw[z,hc]at e;cases e
 refine⟨λb o e n d a=>(hs.2 b (ne e)).trans (u.keep b o e n d a),λb o e n d a=>?_,u.free,λb o e a=>?_,u.tups,u.frzs,u.tbls⟩
 ·obtain⟨f,q⟩:=u.slot b o e n d a;exact⟨f,(hs.2 b (ne e)).trans q⟩
 ·obtain⟨o',q⟩:=u.there b o e a;exact⟨o',(hs.2 b (ne e)).trans q⟩
def Bq(k:Nat)(keep:List Nat)(wi:TI)(g:TG)(ti:TT)(tb:dB->TS):TE:=fun σ H Q=>wi σ H λao H1=>∀p,H1 p=Y ->
 Bp ao g ti (tb p) {nx:=λ_ H'=>Q (.ref p) H',rt:=λ_ _=>False} (tS k keep σ) (upd H1 p (.lst []))
theorem FJ{X:Cx}(hc:X.calm=true){elt tg iter:Expr}{ifs:List Expr}{rest:List Comprehension}{scope:dQ}{pos:Pos}{T:List Str}{keep:List Nat}{j:List (Str×dB)}{L:TI}{g:TG}{K:TT}{tb:dB->TS}{emit:dz->Env->Sem Unit}(eq:∀it k d,RM (.ListComp elt (⟨tg,iter,ifs,0⟩::rest) scope pos) 0 it k d=lP iter.pos tg ifs it d (emit k d) (.compLoop (.ListComp elt (⟨tg,iter,ifs,0⟩::rest) scope pos) 0 it k d))(C:Lw X scope T keep)(n:j8 X.env.cells scope.names []=some j)(hi:PI X tg iter L)(hb:∀s H fp p,PG (cxC X scope j T keep s H fp) tg g/\qi (cxC X scope j T keep s H fp) ifs K/\PU (cxC X scope j T keep s H fp) (emit (.ref p) (cxC X scope j T keep s H fp).env) (tb p))(hs:autoParam (∀x,QO iter X.env x=pure x) du0):
  PE X (.ListComp elt (⟨tg,iter,ifs,0⟩::rest) scope pos) (Bq T.length keep L g K tb):=by
 intro ag s σ H Q I h;rw[eval_ListComp];refine wpAny_comprehension_free (use:=Y) O hs (DQ n) C.kind C.names ?_;refine fx (hi ag s σ H _ I h) λv s1 h1=>fx h1 λW a h2=>?_;obtain⟨it,fp,P,ao,H2,rfl,E,TT,t,F,q2⟩:=h2;refine wO1 ?_;have G:Inv X ag σ (upd H2 a.heap.objs.size (.lst [])) {a with heap:=a.heap.push {cls:=.type "list",data:=.seq ([]:List dz).toArray}}:=E.lnew (t':=a.toks) .nil (bi _);have old:∀b∈fp,∃o,a.heap.get? b=Z o:=λb hb=>by
  obtain⟨o,e,_⟩:=TT.obj 0 a.heap t b hb;exact⟨o,e⟩
 have B:∀b∈fp,b≠a.heap.objs.size:=λb hb z=>by
  obtain⟨o,e⟩:=old b hb;have:=hL1 e;rw[z]at this;exact aA _ this
 have y:∀b∈fp,kX X ag (upd H2 a.heap.objs.size (.lst [])) b:=λb hb=>⟨by rw[eo (B b hb)];exact(F b hb).1,(F b hb).2⟩;have R:∀b∈fp,∃o,({a with heap:=a.heap.push {cls:=.type "list",data:=.seq ([]:List dz).toArray}}:dA).heap.get? b=Z o:=λb hb=>by
  obtain⟨o,e⟩:=old b hb;exact⟨o,hP1 _ e⟩
 have A:=vm G C n y R;obtain⟨hg,au,he⟩:=hb {a with heap:=a.heap.push {cls:=.type "list",data:=.seq ([]:List dz).toArray}} (upd H2 a.heap.objs.size (.lst [])) fp a.heap.objs.size;refine lh ?_;have wq:∀b∈fp,kX (cxC X scope j T keep {a with heap:=a.heap.push {cls:=.type "list",data:=.seq ([]:List dz).toArray}} (upd H2 a.heap.objs.size (.lst [])) fp) [] (upd H2 a.heap.objs.size (.lst [])) b:=λb hb=>
  ⟨(y b hb).1,(A.ok.exf b hb).1,A.ok.exfs b hb,.inl hb,(A.ok.exf b hb).2,λp V=>absurd (show p∈([]:List (dB×Obj))from V) (by simp)⟩
 have u:P 0 (pushCells ((a.heap.push {cls:=.type "list",data:=.seq ([]:List dz).toArray}).push {cls:=.type "dict",data:=.dict #[]}) scope.names):=
  TT.keep 0 a.heap _ t λb hb o e=>RL scope.names _ b o (hP1 _ (hP1 _ e))
 have i:=np (X:=cxC X scope j T keep {a with heap:=a.heap.push {cls:=.type "list",data:=.seq ([]:List dz).toArray}} (upd H2 a.heap.objs.size (.lst [])) fp) O hc (eq (.ref it) (.ref a.heap.objs.size) _) TT hg au he A u wq
  (q2 a.heap.objs.size (E.hok.fresh (nR1 _)))
 refine QZ (codeAny_compStart_list i (TT.self X.A 0 _ _ _ u i)) λr s' D=>?_;cases r with
 |error e=>exact D.elim
 |ok f=>
  obtain⟨N,H',l,U⟩:=D;obtain⟨m,av,_⟩:=id l.loc;refine⟨m,av,λh' w=>⟨.ref a.heap.objs.size,H',?_,O,U⟩⟩;refine G.call' (s':={s' with heap:=h'}) (ch:=fp) l.os (Un.sameBut l.base w (Qi (nR1 _))) (λb S e=>?_) l.bare λb hb=>(y b hb).2.2.2 |> λz=>⟨z.1,(y b hb).2.1,z.2.1,z.2.2⟩
  refine(l.hok b S e).stay (λc w' hc q=>(w.2 c ?_).trans q) (λ_ q=>q) λ_ _ q=>q;rintro rfl;have aq:=l.free;rcases hc with rfl|hc
  ·exact nomatch aq.symm.trans e
  ·exact nomatch aq.symm.trans hc
section
variable{K:Fg1}{H:Hp}{mu:List dB}{S:Sto}{p:dB}{u:HO}{o:Ob}{n:Nat}
theorem Rd.ne{a:dB}{x:HO}(h:H p=Y)(q:Rd H a x):a≠p:=by
 rintro rfl;rcases q with q|⟨_,q⟩<;>(rw[h]at q;cases q)
theorem Ext.fresh(hp:H p=Y):Ext mu mu H (upd H p u) where
 pre:=bo
 old:=λa o h _=>by rw[eo (eI h hp)];exact h
 tup:=λa xs h=>by
  have ne:=Rd.ne hp h;rcases h with h|⟨b,h⟩
  ·exact .inl (by rw[eo ne];exact h)
  ·exact .inr ⟨b,by rw[eo ne];exact h⟩
 frz:=λa o x h=>by rw[eo (eI h hp)];exact h
 new:=λ_ h=>.inl h
theorem Ext.new_(hp:H p=Y):Ext mu (mu++[p]) H (upd H p u) where
 pre:=bv _ _
 old:=(Ext.fresh (mu:=mu) hp).old
 tup:=(Ext.fresh (mu:=mu) hp).tup
 frz:=(Ext.fresh (mu:=mu) hp).frz
 new:=λa h=>by
  rcases aG.mp h with h|h
  ·exact .inl h
  ·have:a=p:=by simpa using h
   subst this;exact .inr hp
theorem Sim.fresh(s:Sim K H mu S)(hp:H p=Y):Sim K (upd H p u) mu S:=
 ⟨s.len,s.nd,λk o a h1 h2=>(s.ob k o a h1 h2).keep (Ext.fresh hp) λb e=>by rw[eo (eI e hp)];exact e⟩
theorem Sim.notin(s:Sim K H mu S)(hp:H p=Y):p∉mu:=λh=>by
 obtain⟨o,e⟩:=s.here h;rw[hp]at e;cases e
theorem ql.more{a:dB}{mu':List dB}{H':Hp}(e:Ext mu mu' H H')(h:∀o,H a=Z o->H' a=Z o):∀{o:Ob},ql K H mu a o->ql K H' mu' a o
 | .lst _,⟨vs,q,r⟩=>⟨vs,h _ q,r.ext e⟩
 | .dct _,⟨ws,q,r⟩=>⟨ws,h _ q,KR.ext e r⟩
 | .dcT _,⟨ws,q,r,l⟩=>⟨ws,h _ q,KT.ext e r,l⟩
 | .iset _,q=>⟨h _ q.1,q.2⟩
 | .dcF _,⟨ws,⟨o,u,b,c⟩,r,l⟩=>⟨ws,⟨o,u,h _ b,c⟩,KT.ext e r,l⟩
 | .tst _,⟨ws,q,r⟩=>⟨ws,h _ q,KT.ext e r⟩
theorem Sim.new(s:Sim K H mu S)(hp:H p=Y)(ho:ql K (upd H p u) (mu++[p]) p o):Sim K (upd H p u) (mu++[p]) (S++[o]):=by
 refine⟨by rw[lA1,lA1,s.len];rfl,?_,λk o' a h1 h2=>?_⟩
 ·rw[bx];refine⟨s.nd,by simp,λa g b f e=>?_⟩;have:b=p:=by simpa using f
  subst this;subst e;exact s.notin hp g
 ·by_cases d:k<S.length
  ·rw[gL1 d]at h1;rw[gL1 (by rw[s.len];exact d)]at h2;exact(s.ob k o' a h1 h2).more (Ext.new_ hp) λh e=>by rw[eo (eI e hp)];exact e
  ·have c:k=S.length:=by
    have:=(Tg h1).1;rw[lA1]at this;simp at this;lia
   subst c;rw[gR1 (nR1 _)]at h1;rw[<- s.len,gR1 (nR1 _)]at h2;simp at h1 h2;subst h1;subst h2;exact ho
theorem Ext.put{x:HO}(hp:H p=Z x)(hm:Ll (Z x))(b:p∈mu):Ext mu mu H (upd H p u) where
 pre:=bo
 old:=λa o h n=>by rw[eo (λe=>n (by rw[e];exact b))];exact h
 tup:=λa xs h=>by
  have ne:a≠p:=by
   rintro rfl;rcases h with h|⟨_,h⟩<;>(rw[hp]at h;cases h;exact hm)
  rcases h with h|⟨c,h⟩
  ·exact .inl (by rw[eo ne];exact h)
  ·exact .inr ⟨c,by rw[eo ne];exact h⟩
 frz:=λa o y h=>by
  rw[eo (λe=>?_)]
  ·exact h
  ·subst e;rw[hp]at h;cases h;exact hm
 new:=λ_ h=>.inl h
theorem Sim.put(s:Sim K H mu S){x:HO}(hn:mu[n]?=Z p)(hp:H p=Z x)(hm:Ll (Z x))(ho:ql K (upd H p u) mu p o):Sim K (upd H p u) mu (S.set n o):=by
 refine⟨by rw[aV];exact s.len,s.nd,λk o' a h1 h2=>?_⟩;by_cases b:n=k
 ·subst b;have d:n<S.length:=by
   have:=(Tg h1).1
   rwa [aV]at this
  rw[aJ d]at h1;cases h1;rw[hn]at h2;cases h2;exact ho
 ·rw [gS1 b] at h1;have ne:a≠p:=fun e=>by
   subst e;obtain⟨h,c⟩:=Tg hn;obtain⟨i,f⟩:=Tg h2;exact b ((aI s.nd).mp (c.trans f.symm))
  exact(s.ob k o' a h1 h2).keep (Ext.put hp hm (gM1 hn)) λg e=>by rw[eo ne];exact e
theorem Sim.lst(s:Sim K H mu S){ds:List D}{a:dB}(h:S[n]?=Z (.lst ds))(hn:mu[n]?=Z a):∃vs,H a=Z (.lst vs)/\d8 K H mu ds vs:=s.ob n _ a h hn
theorem Sim.dcT(s:Sim K H mu S){ks:List (TK×D)}{a:dB}(h:S[n]?=Z (.dcT ks))(hn:mu[n]?=Z a):∃ws,H a=Z (.ext (kq a ws))/\KT K H mu ks ws/\ws.length<=dI:=s.ob n _ a h hn
theorem Sim.iset(s:Sim K H mu S){xs:List Int}{a:dB}(h:S[n]?=Z (.iset xs))(hn:mu[n]?=Z a):H a=Z (.set (λk=>xs.contains k) xs.length)/\xs.Nodup:=s.ob n _ a h hn
theorem Sim.dct(s:Sim K H mu S){ks:List (Key×D)}{a:dB}(h:S[n]?=Z (.dct ks))(hn:mu[n]?=Z a):∃ws,H a=Z (.dK ws)/\KR K H mu ks ws:=s.ob n _ a h hn
theorem Sim.newL(s:Sim K H mu S){ds:List D}{vs:List V}(r:d8 K H mu ds vs)(hp:H p=Y):Sim K (upd H p (.lst vs)) (mu++[p]) (S++[.lst ds]):=s.new hp ⟨vs,eA,r.ext (Ext.new_ hp)⟩
theorem Sim.putL(s:Sim K H mu S){ds:List D}{vs ws:List V}(r:d8 K H mu ds vs)(hn:mu[n]?=Z p)(hp:H p=Z (.lst ws)):Sim K (upd H p (.lst vs)) mu (S.set n (.lst ds)):=
 s.put hn hp trivial ⟨vs,eA,r.ext (Ext.put hp trivial (gM1 hn))⟩
end
theorem gM{mu:List dB}{S:Sto}(h:mu.length=S.length)(p:dB):(mu++[p])[S.length]?=Z p:=by
 rw[<- h,gR1 (nR1 _)];simp
noncomputable def eQ (a:FA):FE:=λr S=>(a r S).bind λp=>if p.1.length<=dI then some (.tup p.1,p.2)else none
noncomputable def hZ (a:FA):FE:=λr S=>(a r S).bind λp=>if p.1.length<=dI then some (.ref p.2.length,p.2++[.lst p.1])else none
section
variable{es:List Expr}{pos:Pos}{a:FA}
theorem JZ{x1}(h:MA X es a):ME X (.Tuple es x1 pos) (eQ a):=eX (Jd h) <| by
 rintro σ H Q ⟨r,mu,S,d,l,i,k,b,hc⟩;obtain⟨⟨ds,m⟩,f,b⟩:=Th b;dsimp only at b;split at b
 ·rename_i g;cases b;refine⟨r,mu,S,ds,_,i,k,f,λvs H1 mu1 x1 e j=>⟨by rw[<- e.length];exact g,λp c=>?_⟩⟩;exact hc _ _ mu1 (x1.trans (Ext.fresh c)) (.tup (kS.of eA) (e.ext (Ext.fresh c))) (j.fresh c)
 ·cases b
theorem J9(h:MA X es a):ME X (.List es pos) (hZ a):=eX (Ji h) <| by
 rintro σ H Q ⟨r,mu,S,d,m,j,l,b,hc⟩;obtain⟨⟨ds,n⟩,g,b⟩:=Th b;dsimp only at b;split at b
 ·rename_i i;cases b;refine⟨r,mu,S,ds,_,j,l,g,λvs H1 mu1 k c e=>⟨by rw[<- c.length];exact i,λp f=>?_⟩⟩;exact hc _ _ (mu1++[p]) (k.trans (Ext.new_ f)) (.ref (gM e.len p)) (e.newL c f)
 ·cases b
end
noncomputable def vn(k:Nat)(keep:List Nat)(r:Ev):Ev:=aP k Y++keep.map λi=>(r[i]?).join
noncomputable def fm:FT:=λ_ S=>Z (M,S)
theorem My{K:Fg1}{H:Hp}{mu:List dB}{r:Ev}{σ:L2.St}(k:Nat)(keep:List Nat)(h:fT K H mu r σ):fT K H mu (vn k keep r) (tS k keep σ):=by
 refine⟨by unfold vn tS;rw[lA1,lA1,lM1,lM1,lR1,lR1],λi d e=>?_⟩;unfold vn at e;unfold tS;by_cases hi:i<k
 ·rw[gL1 (by rw[lR1];exact hi),aS]at e;split at e<;>cases e
 ·rw [gR1 (by rw [lR1];lia),lR1,gP1] at e;rw [gR1 (by rw [lR1];lia),lR1,gP1];obtain ⟨j,c,e⟩:=Ti e;rw [c];have a:r[j]? = some (some d):=by
   cases q:r[j]? with
   |none=>rw[q]at e;cases e
   |some o=>rw[q]at e;cases e;rfl
  obtain⟨v,b,f⟩:=h.val j d a;exact⟨v,by rw[oP1,b];rfl,f⟩
theorem B7{ifs:List Expr}{t t':L2.TT}(h:qi X ifs t)(i:∀ σ H Q,t' σ H Q->t σ H Q):qi X ifs t':=λag s σ H Q I q=>h ag s σ H Q I (i σ H Q q)
theorem Gc:qi X [] (Bo X.K fm):=B7 B6 fun σ H Q ⟨r,mu,S,b,e,d,a,c,hc⟩=>by cases c;exact hc H mu (.refl _ _) a
theorem Gb{c:Expr}{t:FT}(h:MT X c t):qi X [c] (Bo X.K t):=B5 h
open PySem.AutoSeq1 (wpAny_loadPart')
def SIt(b:Bool)(h:dM)(it a:dB)(i:Nat):Prop:=match b with
 |true=>h.IsListIter it a i
 |false=>h.IsTupleIter it a i
def SCo(b:Bool)(h:dM)(a:dB)(xs:Array dz):Prop:=match b with
 |true=>h.IsList a xs
 |false=>h.IsTuple a xs
theorem SIt.to{b:Bool}{h h':dM}{it a:dB}{i:Nat}(x:SIt b h it a i)(k:∀o,h.get? it=Z o->h'.get? it=Z o):SIt b h' it a i:=by
 cases b<;>(obtain⟨o,e,r⟩:=x;exact⟨o,k o e,r⟩)
theorem SIt.rec_{b:Bool}{h:dM}{it a:dB}{i:Nat}(x:SIt b h it a i):∃o,h.get? it=Z o /\ ∀v,o.data ≠ .cell v:=by
 cases b<;>(obtain⟨o,e,c,d⟩:=x;exact⟨o,e,λv z=>by rw[d]at z;cases z⟩)
theorem SCo.to{b:Bool}{h h':dM}{a:dB}{xs:Array dz}(x:SCo b h a xs)(k:∀o,h.get? a=Z o->h'.get? a=Z o):SCo b h' a xs:=by
 cases b<;>(obtain⟨o,e,r⟩:=x;exact⟨o,k o e,r⟩)
noncomputable def gF(b:Bool)(a:dB):Obj:=match b with
 |true=>{cls:=.type "list_iterator",data:=.fields #[.ref a,.int 0 0]}
 |false=>{cls:=.type "tuple_iterator",data:=.fields #[.ref a,.int 0 0]}
section
variable{prog:dD}{w:dF}{A:dE}{E:dz->dA->Prop}{s:dA}
theorem sM{b:Bool}{h:dM}{it a:dB}(e:h.get? it=Z (gF b a)):SIt b h it a 0:=by
 cases b<;>exact⟨_,e,O,O⟩
theorem jQ{b:Bool}{a:dB}{xs:Array dz}{Q:dz->dA->Prop}(x:SCo b s.heap a xs)(h:Q (.ref s.heap.objs.size) {s with heap:=s.heap.push (gF b a)}):dJ (Qm prog w) A (QJ (.ref a)) Q E s:=by
 cases b
 ·exact wpAny_pyIter_tuple x h
 ·exact wpAny_pyIter_list x h
theorem Cy{it l:dB}{i:Nat}{xs:Array dz}{x:dz}{Q:dz->dA->Prop}(d:s.heap.IsTupleIter it l i)(tl:s.heap.IsTuple l xs)(hx:xs[i]? = Z x)(f:∀h',h'.IsTupleIter it l (i+1)->Ql it s.heap h'->Q x {s with heap:=h'}):dJ (Qm prog w) A (RQ (.ref it)) Q E s:=by
 obtain⟨o,b,hc,a⟩:=id d;obtain⟨h,c,_,g,e⟩:=tl;unfold RQ;refine wB1 (Ri (name:=Rj "__next__") d.typeIs RR (wE1 RR d.typeIs F.entry_tuple_iterator_next ?_ (F.args_tuple_iterator_next_1 _)));show dJ _ _ (field (.ref it) 0 >>= _) _ _ s;refine wB1 (Rh b a (x:=.ref l) O ?_);show dJ _ _ (if(Qb l == P9)=M then _ else _) _ _ s;rw[aj (show¬ ((Qb l == P9)=M)from aL)];show dJ _ _ (field (.ref it) 1 >>= _) _ _ s;refine wB1 (Rh b a (x:=.int i 0) O ?_);show dJ _ _ (seqItems? (.ref l) >>= _) _ _ s;refine wB1 (RT c e ?_);simp only[Ra,hx];refine wB1 (wpAny_setField b a (by simp) (wP1 ⟨x,O,wP1 (f _ ⟨_,hW1 _ b (Obj.isFreed_of_fields (Obj.data_mapFields a _)),(Obj.cls_mapFields ..).trans hc,by rw[Obj.data_mapFields a];simp[QK]⟩ (RU ..))⟩))
theorem tE {it l:dB}{i:Nat}{xs:Array dz}{Q:dz->dA->Prop}(h:A.handled=none)(c:s.heap.IsTupleIter it l i)(tl:s.heap.IsTuple l xs)(hx:xs[i]? = none)
  (j:∀h' e,Heap.ExtBut it s.heap h'->(∃o,h'.get? e=Z o/\o.cls = .type "StopIteration")->E (.ref e) {s with heap:=h'}):dJ (Qm prog w) A (RQ (.ref it)) Q E s:=by
 obtain⟨o,f,hc,d⟩:=id c;obtain⟨n,b,_,k,g⟩:=tl;unfold RQ;refine wB1 (Ri (name:=Rj "__next__") c.typeIs RR (wE1 RR c.typeIs F.entry_tuple_iterator_next ?_ (F.args_tuple_iterator_next_1 _)));show dJ _ _ (field (.ref it) 0 >>= _) _ _ s;refine wB1 (Rh f d (x:=.ref l) O ?_);show dJ _ _ (if(Qb l == P9)=M then _ else _) _ _ s;rw[aj (show¬ ((Qb l == P9)=M)from aL)];show dJ _ _ (field (.ref it) 1 >>= _) _ _ s;refine wB1 (Rh f d (x:=.int i 0) O ?_);show dJ _ _ (seqItems? (.ref l) >>= _) _ _ s;refine wB1 (RT b g ?_);simp only[Ra,hx];refine wB1 (QE (wB1 (wpAny_setField f d (by simp) ?_)));show dJ _ _ (newExc (.type "StopIteration") [] >>= _) _ _ _;refine wB1 ?_;simp only[newExc,newTuple];refine wB1 (wO1 ?_ (by size_fits));refine wB1 (m:=RV _ _) (RP (a:=P9) (by first|rfl|(simp only[RV];rfl)) ?_);refine wO1 ?_ (by size_fits);simp only[raiseNew];refine wB1 (wpAny_handled ?_)
 first|rw[show A.in1.handled=Y from h] | rw[h]
 refine wB1 (wP1 (wpAny_throw ?_));exact j _ _ (((RU ..).extBut.push _).push _) ⟨_,hS1 _ O,O⟩
theorem me{b:Bool}{it l:dB}{i:Nat}{xs:Array dz}{x:dz}{Q:dz->dA->Prop}(a:SIt b s.heap it l i)(tl:SCo b s.heap l xs)(hx:xs[i]? = Z x)(c:∀h',SIt b h' it l (i+1)->Ql it s.heap h'->Q x {s with heap:=h'}):dJ (Qm prog w) A (RQ (.ref it)) Q E s:=by
 cases b
 ·exact Cy a tl hx c
 ·exact wpAny_nextOf_list_item a tl hx c
theorem jv {b:Bool}{it l:dB}{i:Nat}{xs:Array dz}{Q:dz->dA->Prop}(d:A.handled=none)(c:SIt b s.heap it l i)(tl:SCo b s.heap l xs)(hx:xs[i]? = none)
  (a:∀h' e,Heap.ExtBut it s.heap h'->(∃o,h'.get? e=Z o/\o.cls = .type "StopIteration")->E (.ref e) {s with heap:=h'}):dJ (Qm prog w) A (RQ (.ref it)) Q E s:=by
 cases b
 ·exact tE d c tl hx a
 ·exact wpAny_nextOf_list_end d c tl hx a
theorem DA{b:Bool}(l:dB)(xs:Array dz):
  Meets (Builtin.«enumerate.__new__» ⟨[.type "enumerate",.ref l],[]⟩) (λ_ R s=>SCo b s.heap l xs /\
   R (.ok (.ret (.ref (s.heap.push (gF b l)).objs.size))) {s with heap:=(s.heap.push (gF b l)).push {cls:=.type "enumerate",data:=.fields #[.none,.bool J,.ref s.heap.objs.size,QK 0,.none,.none]}}):=
 .of_wp λprog w A R s h=>by
  obtain⟨i,g,d,tk,k⟩:=s;obtain⟨f,h⟩:=h;have a:=sub_enumerate
  have j:SCo b (Shared.heap ⟨i,g,d,tk,k⟩) l xs:=f;obtain⟨m,el⟩:∃o,i.get? l=some o:=by cases b<;>(obtain⟨o,e,_⟩:=f;exact⟨o,e⟩)
  wp_walk using wpAny_loadPart' el
  refine wpAny_stack_any λst=>wP1 ?_;split
  ·rename_i c _ _ _ _ _;cases(c == Qc "enumerate")<;>(wp_walk using wpAny_loadPart' el,jQ j;exact⟨_,O,h⟩)
  ·wp_walk using wpAny_loadPart' el,jQ j
   exact⟨_,O,h⟩
theorem Au{b:Bool}{l:dB}{xs:Array dz}{Q:dz->dA->Prop}(f:SCo b s.heap l xs)(h:∀h',RW h' (s.heap.objs.size+1) s.heap.objs.size 0 .none->SIt b h' s.heap.objs.size l 0->h'.objs.size=s.heap.objs.size+2->(∀b o,s.heap.get? b=some o->h'.get? b=some o)->Q (.ref (s.heap.objs.size+1)) {s with heap:=h'}):
  dJ (Qm prog w) A (call (.type "enumerate") [.ref l]) Q E s:=by
 refine callType_new F.called_enumerate (by decide) (F.typeCall_enumerate_1 _) (F.newCall_enumerate_1 _) (λa=>F.args_object_init_2 a _) F.entry_enumerate_new (DA (b:=b) l xs) ⟨f,?_⟩;have d:(s.heap.push (gF b l)).objs.size=s.heap.objs.size+1:=hZ1 ..
 show _/\_;rw[d];have e:RW ((s.heap.push (gF b l)).push {cls:=.type "enumerate",data:=.fields #[.none,.bool J,.ref s.heap.objs.size,QK 0,.none,.none]}) (s.heap.objs.size+1) s.heap.objs.size 0 .none:=by
  have q:=hS1 (s.heap.push (gF b l)) (o:={cls:=.type "enumerate",data:=.fields #[.none,.bool J,.ref s.heap.objs.size,QK 0,.none,.none]}) O;rw[d]at q;exact q
 have hi:(s.heap.push (gF b l)).get? s.heap.objs.size=Z (gF b l):=hS1 _ (by cases b<;>rfl);refine⟨⟨_,e,O⟩,h _ e (sM (hP1 _ hi)) (by rw[hZ1,d]) λc o x=>hP1 _ (hP1 _ x)⟩
theorem As {b:Bool}{e it l:dB}{i:Nat}{xs:Array dz}{x old:dz}{Q:Option dz->dA->Prop}(he:RW s.heap e it i old)(T:SIt b s.heap it l i)(tl:SCo b s.heap l xs)(hx:xs[i]? = some x)(r:e≠it)
  (U:∀h',IsEnumOut h' e it ((i:Int)+1) x s.heap.objs.size->SIt b h' it l (i+1)->h'.get? s.heap.objs.size=Z {cls:=.type "tuple",data:=.seq #[.int i s.toks,x]}->h'.objs.size=s.heap.objs.size+1 ->
   (∀b o,b≠e->b≠it->s.heap.get? b=Z o->h'.get? b=Z o)->Q (Z (.ref s.heap.objs.size)) {s with heap:=h',toks:=s.toks+1}):dJ (Qm prog w) A (QH (.ref e)) Q E s:=by
 have S:s.TypeIs (.ref e) "enumerate":=⟨_,he,O⟩;unfold QH;refine wB1 (RX (Ri (name:=Rj "__next__") S RY (wE1 RY S F.entry_enumerate_next ?_ (F.args_enumerate_next_1 _))));obtain⟨j,g,d,tk,t⟩:=s;show dJ _ _ (field (.ref e) 2 >>= _) _ _ _;refine wB1 (Rh he O (x:=.ref it) O ?_);refine wB1 (me T tl hx λh1 H G=>?_);replace G:Ql it j h1:=G;have h:RW h1 e it i old:=(G.2 e r).trans he;show dJ _ _ (field (.ref e) 3 >>= _) _ _ ⟨h1,g,d,tk,t⟩;refine wB1 (Rh h O (x:=QK i) O ?_);show dJ _ _ (field (.ref e) 4 >>= _) _ _ ⟨h1,g,d,tk,t⟩;refine wB1 (Rh h O (x:=.none) O ?_);show dJ _ _ (mkInt i >>= _) _ _ ⟨h1,g,d,tk,t⟩;refine wB1 (wpAny_mkInt ?_);show dJ _ _ (setField (.ref e) 3 (QK ((i:Int)+1)) >>= _) _ _ ⟨h1,g,d,tk+1,t⟩;refine wB1 (wS1 h (by simp) λh2 k D=>?_);replace D:Ql e h1 h2:=D;replace k:RW h2 e it ((i:Int)+1) old:=k;show dJ _ _ (setField (.ref e) 4 .none >>= _) _ _ ⟨h2,g,d,tk+1,t⟩;refine wB1 (wS1 k (by simp) λh3 m C=>?_);replace C:Ql e h2 h3:=C;replace m:RW h3 e it ((i:Int)+1) old:=m;show dJ _ _ (newTuple [.int i tk,x] >>= _) _ _ ⟨h3,g,d,tk+1,t⟩;refine wB1 (wpAny_newTuple ?_);have p:RW (h3.push {cls:=.type "tuple",data:=.seq #[.int i tk,x]}) e it ((i:Int)+1) old:=hP1 _ m;generalize f:h3.push {cls:=.type "tuple",data:=.seq #[.int i tk,x]}=h4 at p;have n:h3.objs.size=j.objs.size:=by rw[C.1,D.1,G.1]
 have L:e<j.objs.size:=hL1 he;have N:h4.get? j.objs.size=Z {cls:=.type "tuple",data:=.seq #[.int i tk,x]}:=by rw[<- f,<- n];exact hS1 _ O
 have P:h4.objs.size=j.objs.size+1:=by rw[<- f,hZ1,n]
 have aq:∀b o,b≠e->b≠it->j.get? b=Z o->h4.get? b=Z o:=λb o a B R=>by
  rw[<- f];exact hP1 _ (C.extBut b o a (D.extBut b o a (G.extBut b o B R)))
 have av:SIt b h4 it l (i+1):=H.to λo q=>by rw[<- f];exact hP1 _ (C.extBut _ _ (Qk r) (D.extBut _ _ (Qk r) q))
 show dJ _ _ (RZ (.ref e) >>= _) _ _ ⟨h4,g,d,tk+1,t⟩;rw[n];clear f m C k D h G H n h3 h2 h1;refine wB1 ?_;unfold RZ;refine wB1 (Rh p O (x:=.none) O (wP1 ?_));simp only[Rf];refine wB1 (QE ?_);refine wB1 (Rh p O (x:=old) O ?_);refine wB1 (wS1 p (by simp) λh5 y ao=>?_);replace ao:Ql e h4 h5:=ao;replace y:RW h5 e it ((i:Int)+1) x:=y;show dJ _ _ (R0 (.ref e) (.ref j.objs.size) >>= _) _ _ ⟨h5,g,d,tk+1,t⟩;refine wB1 ?_;unfold R0;refine wB1 (wS1 y (by simp) λh6 u K=>?_);replace K:Ql e h5 h6:=K;replace u:IsEnumOut h6 e it ((i:Int)+1) x j.objs.size:=u;refine wS1 u (by simp) λh7 v I=>?_;replace I:Ql e h6 h7:=I;replace v:IsEnumOut h7 e it ((i:Int)+1) x j.objs.size:=v;have up:∀c o,c≠e->h4.get? c=Z o->h7.get? c=Z o:=λc o z q=>I.extBut _ _ z (K.extBut _ _ z (ao.extBut _ _ z q));refine wB1 (R1 (wP1 ⟨_,O,wP1 (U h7 v (av.to λo q=>up _ o (Qk r) q) (up _ _ (nG1 L) N) (by rw[I.1,K.1,ao.1,P]) λc o a B R=>up c o a (aq c o a B R))⟩))
theorem DB{b:Bool}{e it l:dB}{i:Nat}{xs:Array dz}{old:dz}{Q:Option dz->dA->Prop}(f:A.handled=Y)(he:RW s.heap e it i old)(g:SIt b s.heap it l i)(tl:SCo b s.heap l xs)(hx:xs[i]? = Y)(j:∀h',Heap.ExtBut it s.heap h'->Q Y {s with heap:=h'}):dJ (Qm prog w) A (QH (.ref e)) Q E s:=by
 have d:s.TypeIs (.ref e) "enumerate":=⟨_,he,O⟩;unfold QH;refine wB1 (RX (Ri (name:=Rj "__next__") d RY (wE1 RY d F.entry_enumerate_next ?_ (F.args_enumerate_next_1 _))));show dJ _ _ (field (.ref e) 2 >>= _) _ _ _;refine wB1 (Rh he O (x:=.ref it) O ?_);refine wB1 (jv f g tl hx λh' x c a=>?_);obtain⟨o,h,hc⟩:=a;refine wB1 (R3 (T:="StopIteration") (b:=M) ⟨o,h,hc⟩ R4 ?_);exact wP1 (j _ c)
theorem rT{e it:dB}{i:Int}{old:dz}{Q:dz->dA->Prop}(he:RW s.heap e it i old)(h:Q (.ref e) s):dJ (Qm prog w) A (QJ (.ref e)) Q E s:=by
 have a:s.TypeIs (.ref e) "enumerate":=⟨_,he,O⟩;refine wpAny_pyIter_slot a F.slot_enumerate_iter (wE1 F.slot_enumerate_iter a F.entry_enumerate_iter ?_ (F.args_enumerate_iter_1 _));show dJ _ _ (ret (.ref e)) _ _ s;exact wP1 ⟨_,O,"enumerate",_,a,F.slot_enumerate_next.lookup,h⟩
end
open PySem.AutoSeq1 (wpAny_loadPart')
structure OC (z ti to i1 i2:dB):Prop where
 a1:ti≠z
 a2:to≠z
 a3:i1≠z
 a4:i2≠z
 a5:ti≠to
 a6:ti≠i1
 a7:ti≠i2
 a8:to≠i1
 a9:to≠i2
 a10:i1≠i2
section
variable{prog:dD}{w:dF}{A:dE}{E:dz->dA->Prop}{s:dA}{b1 b2:Bool}
theorem SCo.ne{b:Bool}{h:dM}{a c:dB}{xs:Array dz}{o:Obj}(x:SCo b h a xs)(e:h.get? c=Z o)(n:∀ys k,o.data ≠ .seq ys k):a≠c:=by
 rintro rfl;cases b<;>(obtain⟨o',f,g,k,d⟩:=x;rw[e]at f;cases f;exact n _ _ d)
theorem SCo.ne_it{b f:Bool}{h:dM}{a it l:dB}{xs:Array dz}{i:Nat}(x:SCo b h a xs)(y:SIt f h it l i):a≠it:=by
 cases f<;>(obtain⟨o,e,c,d⟩:=y;exact x.ne e λys k z=>by rw[d]at z;cases z)
theorem AX{z g to i1 l u n:dB}{N av:Nat}{xs ys:Array dz}{x y a b:dz}{Q:Option dz->dA->Prop}(D:OC z g to i1 l)(hz:R5 s.heap z g to .none)(R:R6 s.heap g (.ref i1) (.ref l))(hto:R6 s.heap to a b)(n1:u≠to)(n2:n≠to)(h1:SIt b1 s.heap i1 u N)(h2:SIt b2 s.heap l n av)(c1:SCo b1 s.heap u xs)(W:SCo b2 s.heap n ys)(hx:xs[N]?=some x)(hy:ys[av]?=some y)(hQ:∀h',R5 h' z g to (QK s.heap.objs.size)->R6 h' to x y->SIt b1 h' i1 u (N+1)->SIt b2 h' l n (av+1)->R6 h' s.heap.objs.size x y->h'.objs.size=s.heap.objs.size+1 ->
   (∀c o,c≠z->c≠to->c≠i1->c≠l->s.heap.get? c=Z o->h'.get? c=Z o)->Q (Z (.ref s.heap.objs.size)) {s with heap:=h'}):dJ (Qm prog w) A (QH (.ref z)) Q E s:=by
 have hT:s.TypeIs (.ref z) "zip":=⟨_,hz,O⟩;have X:u≠z:=c1.ne hz λ_ _ q=>by cases q
 have V:n≠z:=W.ne hz λ_ _ q=>by cases q
 have K:n≠i1:=W.ne_it h1;unfold QH;refine wB1 (RX (Ri (name:=Rj "__next__") hT R7 (wE1 R7 hT F.entry_zip_next ?_ (F.args_zip_next_1 _))));show dJ _ _ (field (.ref z) 2 >>= _) _ _ _;refine wB1 (Rh hz O (x:=.bool J) O ?_);show dJ _ _ (field (.ref z) 3 >>= _) _ _ _;refine wB1 (Rh hz O (x:=.ref g) O ?_);refine wB1 (RT R O ?_);show dJ _ _ (RZ (.ref z) >>= _) _ _ _;refine wB1 ?_;unfold RZ;refine wB1 (Rh hz O (x:=.none) O (wP1 ?_));simp only[Rf];refine wB1 (QE ?_);refine wB1 (Rh hz O (x:=.ref to) O ?_);refine wB1 (wS1 hz (by simp) λg1 m t=>?_);replace m:R5 g1 z g to .ellipsis:=m;refine wB1 ?_;simp only[bK,List.zipIdx_nil,bE,List.forIn_nil];refine wB1 (wB1 (wpAny_onRaise ?_));show dJ _ _ (RQ (.ref i1) >>= _) _ _ _
 refine wB1 (me (h1.to λo q=>t.extBut _ _ D.a3 q) (c1.to λo q=>t.extBut _ _ X q) hx λg2 au B=>wP1 ?_);have j:R6 g2 to a b:=B.extBut _ _ D.a8 (t.extBut _ _ D.a2 hto);refine wB1 (RT j O ?_);refine wB1 (R8 j λg3 f v=>?_);replace f:R6 g3 to x b:=f;refine wB1 (R1 (wP1 ?_));refine wB1 (wB1 (wpAny_onRaise ?_));show dJ _ _ (RQ (.ref l) >>= _) _ _ _
 refine wB1 (me (h2.to λo q=>v.extBut _ _ D.a9.symm (B.extBut _ _ D.a10.symm (t.extBut _ _ D.a4 q))) (W.to λo q=>v.extBut _ _ n2 (B.extBut _ _ K (t.extBut _ _ V q))) hy λg4 h24 H=>wP1 ?_);have i:R6 g4 to x b:=H.extBut _ _ D.a9 f;refine wB1 (RT i O ?_);refine wB1 (R8 i λd e ao=>?_);replace e:R6 d to x y:=e;refine wB1 (R1 (wP1 (wP1 ?_)));refine wB1 (RT e O ?_);refine wB1 (wpAny_newTuple ?_);have I:d.objs.size=s.heap.objs.size:=by rw[ao.1,H.1,v.1,B.1,t.1]
 have G:R5 d z g to .ellipsis:=ao.extBut _ _ D.a2.symm (H.extBut _ _ D.a4.symm (v.extBut _ _ D.a2.symm (B.extBut _ _ D.a3.symm m)));have U:∀c o,c≠z->c≠to->c≠i1->c≠l->s.heap.get? c=Z o->d.get? c=Z o:=λc o r P S q4 q=>ao.extBut _ _ P (H.extBut _ _ q4 (v.extBut _ _ P (B.extBut _ _ S (t.extBut _ _ r q))));have T:SIt b1 d i1 u (N+1):=au.to λo q=>ao.extBut _ _ D.a8.symm (H.extBut _ _ D.a10 (v.extBut _ _ D.a8.symm q));have h25:SIt b2 d l n (av+1):=h24.to λo q=>ao.extBut _ _ D.a9.symm q;have k:z<d.objs.size:=hL1 G;show dJ _ _ (R0 (.ref z) (.ref d.objs.size) >>= _) _ _ _;refine wB1 ?_;unfold R0;have wq:R5 (d.push {cls:=.type "tuple",data:=.seq #[x,y]}) z g to .ellipsis:=hP1 _ G;refine wB1 (wS1 wq (by simp) λg7 p s7=>?_);replace p:R5 g7 z g to (QK d.objs.size):=p;refine wS1 p (by simp) λL h s8=>?_;replace h:R5 L z g to (QK d.objs.size):=h;have up:∀c o,c≠z->d.get? c=Z o->L.get? c=Z o:=λc o r q=>s8.extBut _ _ r (s7.extBut _ _ r (hP1 _ q));have aq:R6 L d.objs.size x y:=s8.extBut _ _ (nG1 k) (s7.extBut _ _ (nG1 k) (hS1 _ O));have C:L.objs.size=d.objs.size+1:=by rw[s8.1,s7.1,hZ1]
 rw[I]at h aq C;refine wP1 ⟨_,O,wP1 ?_⟩;show Q (Z (.ref d.objs.size)) _;rw[I]
 exact hQ L h (up _ _ D.a2 e) (T.to λo q=>up _ o D.a3 q) (h25.to λo q=>up _ o D.a4 q) aq C λc o r P S q4 q=>up c o r (U c o r P S q4 q)
theorem EI{z m to i1 t G r:dB}{I av:Nat}{xs ys:Array dz}{a b:dz}{Q:Option dz->dA->Prop}(U:A.handled=Y)(D:OC z m to i1 t)(hz:R5 s.heap z m to .none)(H:R6 s.heap m (.ref i1) (.ref t))(P:R6 s.heap to a b)(n1:G≠to)(n2:r≠to)(h1:SIt b1 s.heap i1 G I)(h2:SIt b2 s.heap t r av)(N:SCo b1 s.heap G xs)(aq:SCo b2 s.heap r ys)(v:xs[I]?=Y\/ys[av]?=Y)(hQ:∀h',(∀c o,c≠z->c≠to->c≠i1->c≠t->s.heap.get? c=Z o->h'.get? c=Z o)->Q Y {s with heap:=h'}):dJ (Qm prog w) A (QH (.ref z)) Q E s:=by
 have V:s.TypeIs (.ref z) "zip":=⟨_,hz,O⟩;have u:G≠z:=N.ne hz λ_ _ q=>by cases q
 have L:r≠z:=aq.ne hz λ_ _ q=>by cases q
 have C:r≠i1:=aq.ne_it h1;unfold QH;refine wB1 (RX (Ri (name:=Rj "__next__") V R7 (wE1 R7 V F.entry_zip_next ?_ (F.args_zip_next_1 _))));show dJ _ _ (field (.ref z) 2 >>= _) _ _ _;refine wB1 (Rh hz O (x:=.bool J) O ?_);show dJ _ _ (field (.ref z) 3 >>= _) _ _ _;refine wB1 (Rh hz O (x:=.ref m) O ?_);refine wB1 (RT H O ?_);show dJ _ _ (RZ (.ref z) >>= _) _ _ _;refine wB1 ?_;unfold RZ;refine wB1 (Rh hz O (x:=.none) O (wP1 ?_));simp only[Rf];refine wB1 (QE ?_);refine wB1 (Rh hz O (x:=.ref to) O ?_);refine wB1 (wS1 hz (by simp) λg1 g i=>?_);replace g:R5 g1 z m to .ellipsis:=g;refine wB1 ?_;simp only[bK,List.zipIdx_nil,bE,List.forIn_nil];refine wB1 (wB1 (wpAny_onRaise ?_));show dJ _ _ (RQ (.ref i1) >>= _) _ _ _
 cases hx:xs[I]? with
 |none=>
  refine wB1 (jv U (h1.to λo q=>i.extBut _ _ D.a3 q) (N.to λo q=>i.extBut _ _ u q) hx λK e k S=>?_);obtain⟨R,d,f⟩:=S;have p:R5 K z m to .ellipsis:=k _ _ D.a3.symm g;have n:e≠z:=λq=>by subst q;rw[p]at d;cases d;simp at f
  refine wS1 p (by simp) λW _ l=>?_;refine wB1 (R3 (T:="StopIteration") (b:=M) ⟨R,l.extBut _ _ n d,f⟩ R4 ?_);exact wP1 (hQ W λc o B _ ao _ q=>l.extBut _ _ B (k _ _ ao (i.extBut _ _ B q)))
 |some x=>
  have hy:ys[av]?=Y:=by rcases v with h|h;rw[hx]at h;cases h;exact h
  refine wB1 (me (h1.to λo q=>i.extBut _ _ D.a3 q) (N.to λo q=>i.extBut _ _ u q) hx λK h12 k=>wP1 ?_);have j:R6 K to a b:=k.extBut _ _ D.a8 (i.extBut _ _ D.a2 P);refine wB1 (RT j O ?_);refine wB1 (R8 j λW au l=>?_);refine wB1 (R1 (wP1 ?_));refine wB1 (wB1 (wpAny_onRaise ?_));show dJ _ _ (RQ (.ref t) >>= _) _ _ _
  refine wB1 (jv U (h2.to λo q=>l.extBut _ _ D.a9.symm (k.extBut _ _ D.a10.symm (i.extBut _ _ D.a4 q))) (aq.to λo q=>l.extBut _ _ n2 (k.extBut _ _ C (i.extBut _ _ L q))) hy λg4 e X S=>?_);obtain⟨R,d,f⟩:=S;have y:R5 g4 z m to .ellipsis:=X _ _ D.a4.symm (l.extBut _ _ D.a2.symm (k.extBut _ _ D.a3.symm g));have n:e≠z:=λq=>by subst q;rw[y]at d;cases d;simp at f
  refine wS1 y (by simp) λg5 _ wq=>?_;refine wB1 (R3 (T:="StopIteration") (b:=M) ⟨R,wq.extBut _ _ n d,f⟩ R4 ?_);exact wP1 (hQ g5 λc o B q2 ao q4 q=>wq.extBut _ _ B (X _ _ q4 (l.extBut _ _ q2 (k.extBut _ _ ao (i.extBut _ _ B q)))))
def zH(b1 b2:Bool)(h:dM)(l1 l2:dB):dM:=((((h.push (gF b1 l1)).push (gF b2 l2)).push {cls:=.type "tuple",data:=.seq #[.ref h.objs.size,.ref (h.objs.size+1)]}).push {cls:=.type "tuple",data:=.seq #[.none,.none]}).push
 {cls:=.type "zip",data:=.fields #[.none,.bool J,.bool J,.ref (h.objs.size+2),.ref (h.objs.size+3)]}
theorem EG(a c:dB)(xs ys:Array dz):Meets (Builtin.«zip.__new__» ⟨[.type "zip",.ref a,.ref c],[]⟩) (λ_ R s=>SCo b1 s.heap a xs/\SCo b2 s.heap c ys/\R (.ok (.ret (.ref (s.heap.objs.size+4)))) {s with heap:=zH b1 b2 s.heap a c}):=
 .of_wp λprog w A R s h=>by
  obtain⟨b,g,d,tk,f⟩:=s;obtain⟨k,i,h⟩:=h;have e:=sub_zip
  have l:SCo b1 (Shared.heap ⟨b,g,d,tk,f⟩) a xs:=k;have j:SCo b2 (Shared.heap ⟨b.push (gF b1 a),g,d,tk,f⟩) c ys:=i.to λo q=>hP1 _ q
  wp_walk using jQ l,jQ j
  refine⟨_,O,?_⟩;have m:(b.push (gF b1 a)).objs.size=b.objs.size+1:=hZ1 ..
  simp only[hZ1,zH]at h ⊢;exact h
theorem AY{a b:dB}{xs ys:Array dz}{Q:dz->dA->Prop}(p:SCo b1 s.heap a xs)(i:SCo b2 s.heap b ys)(h:∀h',R5 h' (s.heap.objs.size+4) (s.heap.objs.size+2) (s.heap.objs.size+3) .none->R6 h' (s.heap.objs.size+2) (.ref s.heap.objs.size) (.ref (s.heap.objs.size+1))->R6 h' (s.heap.objs.size+3) .none .none ->
   SIt b1 h' s.heap.objs.size a 0->SIt b2 h' (s.heap.objs.size+1) b 0->h'.objs.size=s.heap.objs.size+5->(∀c o,s.heap.get? c=Z o->h'.get? c=Z o)->Q (.ref (s.heap.objs.size+4)) {s with heap:=h'}):
  dJ (Qm prog w) A (call (.type "zip") [.ref a,.ref b]) Q E s:=by
 refine callType_new F.called_zip (by decide) (F.typeCall_zip_2 _ _) (F.newCall_zip_2 _ _) (λd=>F.args_object_init_3 d _ _) F.entry_zip_new (EG (b1:=b1) (b2:=b2) a b xs ys) ⟨p,i,?_⟩;have up:∀{h:dM} {o:Obj} {c:dB} {u:Obj},h.get? c=Z u->(h.push o).get? c=Z u:=λq=>hP1 _ q;have at_:∀{h:dM} {o:Obj} {n:Nat},h.objs.size=n->o.isFreed=J->(h.push o).get? n=Z o:=λe f=>by rw[<- e];exact hS1 _ f
 have t:(gF b1 a).isFreed=J:=by cases b1<;>rfl
 have l:(gF b2 b).isFreed=J:=by cases b2<;>rfl
 have r:(zH b1 b2 s.heap a b).get? s.heap.objs.size=Z (gF b1 a):=up (up (up (up (at_ O t))));have j:(zH b1 b2 s.heap a b).get? (s.heap.objs.size+1)=Z (gF b2 b):=up (up (up (at_ (by simp only[hZ1]) l)));have m:R6 (zH b1 b2 s.heap a b) (s.heap.objs.size+2) (.ref s.heap.objs.size) (.ref (s.heap.objs.size+1)):=up (up (at_ (by simp only[hZ1]) O));have k:R6 (zH b1 b2 s.heap a b) (s.heap.objs.size+3) .none .none:=up (at_ (by simp only[hZ1]) O);have g:R5 (zH b1 b2 s.heap a b) (s.heap.objs.size+4) (s.heap.objs.size+2) (s.heap.objs.size+3) .none:=at_ (by simp only[hZ1]) O;exact⟨⟨_,g,O⟩,h _ g m k (sM r) (sM j) (by simp only[zH,hZ1]) λc o q=>up (up (up (up (up q))))⟩
end
def ul(K:Fg1)(b:Bool)(H:Hp)(a:dB)(xs:List V):Prop:=match b with
 |true=>nq K H a xs
 |false=>kS K H a xs
section
variable{ag:List (dB×Obj)}{σ:L2.St}{H:Hp}{s:dA}
theorem fh{b:Bool}{a:dB}{xs:List V}(I:Inv X ag σ H s)(h:ul X.K b H a xs):∃c:List dz,ez xs c/\SCo b s.heap a c.toArray/\xs.length<=dI:=by
 cases b
 ·obtain⟨c,r,p,z⟩:=I.tuple h;exact⟨c,r,p,z⟩
 ·obtain⟨c,r,p,z⟩:=I.list h;exact⟨c,r,p.isList,z⟩
theorem oi{b:Bool}{a:dB}{xs ys:List V}(I:Inv X ag σ H s)(h:ul X.K b H a xs)(h':ul X.K b H a ys):xs=ys:=by
 cases b
 ·exact I.tuple_inj h h'
 ·exact I.list_inj h h'
theorem sI{b:Bool}{a c:dB}{xs:List V}(I:Inv X ag σ H s)(h:ul X.K b H a xs)(f:kX X ag H c):a≠c:=by
 rintro rfl;have d:∀{o},X.K.lookup a=Z o->False:=λ{o} e=>by
  have g:=I.ok.mod.kin _ _ e;rcases f.2.2.2.1 with z|z
  ·exact I.ok.noex _ _ g z
  ·exact absurd (nL1 (hL1 g) (aD I.ok.bsz z)) (aA _)
 cases b
 ·rcases h with(h|⟨_,h⟩)|⟨_,_,_,h,_⟩
  ·rw[f.1]at h;cases h
  ·rw[f.1]at h;cases h
  ·exact d h
 ·rcases h with(h|⟨_,h⟩)|⟨_,_,_,h,_⟩
  ·rw[f.1]at h;cases h
  ·rw[f.1]at h;cases h
  ·exact d h
theorem vk(I:Inv X ag σ H s){fp:List dB}(hf:∀ b∈fp,kX X ag H b){h':dM}{p:dB}{xs:List V}{its:List dz}{t':Nat}(hp:s.heap.objs.size<=p)(f:∀ b o,b∉fp->s.heap.get? b=Z o->h'.get? b=Z o)(l:mP h' p its.toArray)(j:ez xs its)(hz:xs.length<=dI):Inv X ag σ (upd H p (.tup xs)) {s with heap:=h',toks:=t'}:=by
 have d:H p=Y:=I.hok.fresh hp;have g:∀{b o},s.heap.get? b=Z o->b≠p:=λe=>nN1 (nL1 (hL1 e) hp);have h:∀{b u},H b=Z u->b∉fp:=λe z=>by rw[(hf _ z).1]at e;cases e
 refine I.step (g':=s.gens) (d':=s.drawn) (ch:=fp) (λb a=>⟨(hf b a).2.2.2.1,(hf b a).2.1,(hf b a).2.2.2.2.1,(hf b a).2.2.2.2.2⟩) (λb o _ _ hc e _=>f b o hc e) (λb o _ _ hc e _=>⟨o.slots,f b o hc e⟩) (λb o _ e n=>?_)
  (λb o hc e=>⟨o,f b o hc e⟩) (λb ys e=>?_) (λb o u e=>?_) (λb ps e=>⟨#[],?_⟩) (λm i=>?_) (λb u e=>?_) I.bare
 ·rw[eo (g e)];exact n
 ·rw[eo (eI e d)];exact e
 ·rw[eo (eI e d)];exact e
 ·rw[eo (eI e d),e];simp
 ·obtain⟨o,es,ep,k,r⟩:=i;exact⟨o,es,ep,f _ o (λz=>(hf _ z).2.1 O) k,r⟩
 ·by_cases a:b=p
  ·subst a;rw[eA]at e;cases e;exact⟨hz,its,j,l⟩
  ·rw[eo a]at e;refine(I.hok b u e).stay (λc v hc q=>f c v ?_ q) (λc q=>by rw[eo (eI q d)];exact q) λc ys q=>by rw[eo (eI q d)];exact q
   rcases hc with z|z
   ·rw[z];exact h e
   ·exact h z
theorem pC(I:Inv X ag σ H s){fp:List dB}(hf:∀b∈fp,kX X ag H b){h':dM}{t':Nat}(a:∀b o,b∉fp->s.heap.get? b=Z o->h'.get? b=Z o):Inv X ag σ H {s with heap:=h',toks:=t'}:=by
 have f:∀{b u},H b=Z u->b∉fp:=λe z=>by rw[(hf _ z).1]at e;cases e
 refine I.step (g':=s.gens) (d':=s.drawn) (ch:=fp) (λb d=>⟨(hf b d).2.2.2.1,(hf b d).2.1,(hf b d).2.2.2.2.1,(hf b d).2.2.2.2.2⟩) (λb o _ _ hc e _=>a b o hc e) (λb o _ _ hc e _=>⟨o.slots,a b o hc e⟩) (λb o _ e n=>n)
  (λb o hc e=>⟨o,a b o hc e⟩) (λb ys e=>e) (λb o u e=>e) (λb ps e=>⟨#[],by rw[e];simp⟩) (λm g=>?_) (λb u e=>?_) I.bare
 ·obtain⟨o,es,ep,h,r⟩:=g;exact⟨o,es,ep,a _ o (λz=>(hf _ z).2.1 O) h,r⟩
 ·refine(I.hok b u e).stay (λc v hc q=>a c v ?_ q) (λc q=>q) λc ys q=>q;rcases hc with z|z
  ·rw[z];exact f e
  ·exact f z
end
theorem uy:(2:Nat)<=dI:=by decide
def O8(K:Fg1)(b:Bool)(a:dB):It:=
 ⟨λi H=>∃xs x,ul K b H a xs/\xs[i]?=Z x,λi H x H'=>∃p v,H p=Y/\x = .ref p/\H'=upd H p (.tup [.int i,v]) /\ ∀xs,ul K b H a xs->xs[i]?=Z v,λi H=>∃xs,ul K b H a xs/\xs.length<=i⟩
theorem zq{P:dD}{w:dF}{K:Fg1}{elts:List Expr}{k:Nat}{pos:Pos}(b:Bool)(a e it:dB)(ne:e≠it):xp P w K (.Tuple elts k pos) (O8 K b a) [e,it] e (λi h=>(∃old,RW h e it (i:Nat) old)/\SIt b h it a i) where
 mem:=by simp
 obj:=by
  rintro i h ⟨⟨old,st⟩,r⟩ c hc;rcases aF.mp hc with z|z
  ·subst z;exact⟨_,st,λv q=>by cases q⟩
  ·have au:c=it:=by simpa using z
   subst au;exact r.rec_
 keep:=λi h h' ⟨⟨old,st⟩,r⟩ Q=>⟨⟨old,Q e (by simp) _ st⟩,r.to λo q=>Q it (by simp) o q⟩
 item:=by
  intro X F A C hc i ag s σ H E I l st aq;subst F A C;obtain⟨⟨old,m⟩,j⟩:=st;obtain⟨xs,x,f,t⟩:=aq;obtain⟨n,G,co,wq⟩:=fh I f;obtain⟨u,U,ru⟩:=G.get t;refine As m j co (x:=u) (by simpa using U) ne λh1 L ao D S y=>?_;refine⟨.ref s.heap.objs.size,O,?_⟩;refine wpAny_letOwnedTupleGo_enum L λh2 B d=>?_;have N:s.heap.objs.size≠e:=nG1 (hL1 m);have p:∀c o,c∉[e,it]->s.heap.get? c=Z o->h2.get? c=Z o:=λc o hc q=>by
   have g:c≠e:=λz=>hc (by simp[z]);have c2:c≠it:=λz=>hc (by simp[z]);exact d.extBut _ _ g (y c o g c2 q)
  have tp:mP h2 s.heap.objs.size [.int (i:Nat) s.toks,u].toArray:=⟨_,d.extBut _ _ N D,O,_,O,O⟩;have V:=vk I l (t':=s.toks+1) (nR1 _) p tp (xs:=[.int i,x]) (.cons ⟨_,O⟩ (.cons ru .nil)) uy;have R:H s.heap.objs.size=Y:=I.hok.fresh (nR1 _);refine⟨.ref s.heap.objs.size,_,V,O,⟨_,x,R,O,O,λys T=>by rw[oi I T f];exact t⟩,⟨⟨u,?_⟩,ao.to λo q=>d.extBut _ _ (Qk ne) q⟩,λc hc=>?_⟩
  ·have:((i+1:Nat):Int)=(i:Int)+1:=by push_cast;rfl
   rw[this];exact B
  ·have g:c≠s.heap.objs.size:=fun z=>by
    rcases aF.mp hc with q|q
    ·exact N (z.symm.trans q)
    ·have W:c=it:=by simpa using q
     obtain⟨o,av,_⟩:=j.rec_;rw[<- W,z]at av;exact aA _ (hL1 av)
   rw[eo g];exact(l c hc).1
 done:=by
  intro X F A C hc i ag s σ H E I l st aq;subst F A C;obtain⟨⟨old,m⟩,j⟩:=st;obtain⟨xs,f,t⟩:=aq;obtain⟨n,G,co,wq⟩:=fh I f;have hl:=G.length;refine DB (I.ok.hd hc) m j co (by simp;lia) λh' eb=>⟨O,pC I (t':=s.toks) l λc o hc q=>eb c o (λz=>hc (by simp[z])) q⟩
 self:=λ_ _ _ _ _ ⟨⟨_,st⟩,_⟩ h=>rT st h
def O5(K:Fg1)(b1 b2:Bool)(a1 a2:dB):It:=
 ⟨λi H=>∃xs ys x y,ul K b1 H a1 xs/\ul K b2 H a2 ys/\xs[i]?=Z x/\ys[i]?=Z y,λi H x H'=>∃p v u,H p=Y/\x = .ref p/\H'=upd H p (.tup [v,u])/\(∀xs,ul K b1 H a1 xs->xs[i]?=Z v) /\ ∀ys,ul K b2 H a2 ys->ys[i]?=Z u,
  λi H=>∃xs ys,ul K b1 H a1 xs/\ul K b2 H a2 ys/\(xs.length<=i\/ys.length<=i)⟩
theorem Bf{P:dD}{w:dF}{K:Fg1}{elts:List Expr}{k:Nat}{pos:Pos}(b1 b2:Bool)(a1 a2 z t to p r:dB)(D:OC z t to p r):xp P w K (.Tuple elts k pos) (O5 K b1 b2 a1 a2) [z,t,to,p,r] z
  (λi h=>R5 h z t to .none/\R6 h t (.ref p) (.ref r)/\(∃u v,R6 h to u v)/\SIt b1 h p a1 i/\SIt b2 h r a2 i) where
 mem:=by simp
 obj:=by
  rintro i h ⟨g,b,⟨u,v,d⟩,l,f⟩ c hc;simp only[aF,bL,R9]at hc;rcases hc with rfl|rfl|rfl|rfl|rfl
  ·exact⟨_,g,λv q=>by cases q⟩
  ·exact⟨_,b,λv q=>by cases q⟩
  ·exact⟨_,d,λv q=>by cases q⟩
  ·exact l.rec_
  ·exact f.rec_
 keep:=λi h h' ⟨g,b,⟨u,v,d⟩,l,f⟩ ao=>⟨ao z (by simp) _ g,ao t (by simp) _ b,⟨u,v,ao to (by simp) _ d⟩,l.to λo q=>ao p (by simp) o q,f.to λo q=>ao r (by simp) o q⟩
 item:=by
  intro X U R S hc i ag s σ H E I j st V;subst U R S;obtain⟨g,b,⟨u0,v0,d⟩,l,f⟩:=st;obtain⟨xs,ys,x,y,C,B,ex,ey⟩:=V;obtain⟨aq,T,co,hz⟩:=fh I C;obtain⟨G,A,n,Q⟩:=fh I B;obtain⟨u,hu,ru⟩:=T.get ex;obtain⟨au,W,av⟩:=A.get ey;refine AX D g b d (sI I C (j to (by simp))) (sI I B (j to (by simp))) l f co n (x:=u) (y:=au) (by simpa using hu) (by simpa using W) λh1 p1 p2 p3 p4 p5 p6 F=>?_;refine⟨.ref s.heap.objs.size,O,?_⟩;refine wpAny_letOwnedTupleGo_zip p1 λh2 z2 a=>?_;have lt:∀c∈[z,t,to,p,r],c≠s.heap.objs.size:=λc hc e=>by
   obtain⟨o,wq⟩:∃o,s.heap.get? c=some o:=by
    simp only[aF,bL,R9]at hc;rcases hc with rfl|rfl|rfl|rfl|rfl
    ·exact⟨_,g⟩
    ·exact⟨_,b⟩
    ·exact⟨_,d⟩
    ·obtain⟨o,e,_⟩:=l.rec_;exact⟨o,e⟩
    ·obtain⟨o,e,_⟩:=f.rec_;exact⟨o,e⟩
   rw[e]at wq;exact aA _ (hL1 wq)
  have N:∀c o,c∉[z,t,to,p,r]->s.heap.get? c=Z o->h2.get? c=Z o:=λc o hc q=>by
   simp only[aF,bL,R9,not_or]at hc;exact a.extBut _ _ hc.1 (F c o hc.1 hc.2.2.1 hc.2.2.2.1 hc.2.2.2.2 q)
  have tp:mP h2 s.heap.objs.size [u,au].toArray:=⟨_,a.extBut _ _ (Qk (lt z (by simp))) p5,O,_,O,O⟩;have I2:=vk I j (t':=s.toks) (nR1 _) N tp (xs:=[x,y]) (.cons ru (.cons av .nil)) uy;have hn:H s.heap.objs.size=Y:=I.hok.fresh (nR1 _);refine⟨.ref s.heap.objs.size,_,I2,O,⟨_,x,y,hn,O,O,λL m=>by rw[oi I m C];exact ex,λL m=>by rw[oi I m B];exact ey⟩,
   ⟨z2,a.extBut _ _ D.a1 (F _ _ D.a1 D.a5 D.a6 D.a7 b),⟨u,au,a.extBut _ _ D.a2 p2⟩,p3.to λo q=>a.extBut _ _ D.a3 q,p4.to λo q=>a.extBut _ _ D.a4 q⟩,λc hc=>?_⟩
  rw[eo (lt c hc)];exact(j c hc).1
 done:=by
  intro X U R S hc i ag s σ H E I j st V;subst U R S;obtain⟨g,b,⟨u0,v0,d⟩,l,f⟩:=st;obtain⟨xs,ys,C,B,hl⟩:=V;obtain⟨aq,T,co,hz⟩:=fh I C;obtain⟨G,A,n,Q⟩:=fh I B;have l1:=T.length;have l2:=A.length;refine EI (I.ok.hd hc) D g b d (sI I C (j to (by simp))) (sI I B (j to (by simp))) l f co n (by simp;lia) λh' eb=>⟨O,pC I (t':=s.toks) j λc o hc q=>?_⟩;simp only[aF,bL,R9,not_or]at hc;exact eb c o hc.1 hc.2.2.1 hc.2.2.2.1 hc.2.2.2.2 q
 self:=λ_ _ _ _ _ ⟨st,_⟩ h=>wpAny_pyIter_zip st h
section
variable{elts:List Expr}{k:Nat}{tpos:Pos}
def MD(K:Fg1)(ta:TA):TI:=fun σ H R=>ta σ H λvs H1=>∃a b,vs=[.ref a]/\(∃xs,ul K b H1 a xs)/\R (O8 K b a) H1
theorem FC {a:Expr}{ta:TA}{p pos:Pos}(hg:Gl X "enumerate")(hm:X.mg "enumerate"=Y)(ha:PA X [a] ta)(hs:autoParam (dH [a] X.env=[(J,eval a X.env)]) cu0):PI X (.Tuple elts k tpos) (.Call (.Name "enumerate" p) [a] [] pos) (MD X.K ta):=by
 intro ag s σ H R I h;refine Call_ (j2 I hg hm boot_enumerate (QN (fx (ha pos ag s σ H _ I h) λA g ⟨vs,H1,f,n,x⟩=>?_) hs O));obtain⟨c,b,e,⟨xs,l⟩,q⟩:=x;subst e;cases n with
 |cons r w=>
  cases w;cases r;obtain⟨m,C,co,B⟩:=fh f l;refine Au co λh' i u t o=>rT i ?_;have j:Inv X ag σ H1 {g with heap:=h'}:=f.kept (t':=g.toks) o;refine⟨g.heap.objs.size+1,[g.heap.objs.size+1,g.heap.objs.size],_,_,H1,O,j,zq b c _ _ (Nat.succ_ne_self _),⟨⟨.none,i⟩,u⟩,λd v=>?_,q⟩;rcases aF.mp v with z|z
  ·subst z;exact f.fpOk (aX _) (f.hok.fresh (aX _))
  ·have y:d=g.heap.objs.size:=by simpa using z
   subst y;exact f.fpOk (nR1 _) (f.hok.fresh (nR1 _))
def Ol(K:Fg1)(ta:TA):TI:=fun σ H R=>ta σ H λvs H1=>∃a1 b1 a2 b2,vs=[.ref a1,.ref a2]/\(∃xs,ul K b1 H1 a1 xs)/\(∃xs,ul K b2 H1 a2 xs)/\R (O5 K b1 b2 a1 a2) H1
theorem I7 {a b:Expr}{ta:TA}{p pos:Pos}(hg:Gl X "zip")(hm:X.mg "zip"=none)(ha:PA X [a,b] ta)(hs:autoParam (dH [a,b] X.env=[(false,eval a X.env),(false,eval b X.env)]) cu0)(hs2:autoParam (dH [b] X.env=[(false,eval b X.env)]) cu0):
  PI X (.Tuple elts k tpos) (.Call (.Name "zip" p) [a,b] [] pos) (Ol X.K ta):=by
 intro ag s σ H R I h;refine Call_ (j2 I hg hm boot_zip (QN (fx (ha pos ag s σ H _ I h) λN c ⟨vs,H1,f,A,ao⟩=>?_) (by rw[hs,hs2]) (by rw[hs2];rfl)));obtain⟨F,b1,E,b2,e,⟨xs,v⟩,⟨ys,t⟩,q⟩:=ao;subst e;cases A with
 |cons r i=>
  cases i with
  |cons B i=>
   cases i;cases r;cases B;obtain⟨o,P,co,av⟩:=fh f v;obtain⟨l,G,j,u⟩:=fh f t;refine AY co j λh' n C y K x L D=>wpAny_pyIter_zip n ?_;have w:Inv X ag σ H1 {c with heap:=h'}:=f.kept (t':=c.toks) D;refine⟨c.heap.objs.size+4,[c.heap.objs.size+4,c.heap.objs.size+2,c.heap.objs.size+3,c.heap.objs.size,c.heap.objs.size+1],_,_,H1,O,w,Bf b1 b2 F E _ _ _ _ _ ?_,⟨n,C,⟨_,_,y⟩,K,x⟩,λd m=>?_,q⟩
   ·constructor<;>(intro z;have aq:((_:Nat)=_):=z;lia)
   ·have g:c.heap.objs.size<=d:=by
     simp only[aF,bL,R9]at m;rcases m with rfl|rfl|rfl|rfl|rfl
     ·exact br _ _
     ·exact br _ _
     ·exact br _ _
     ·exact nR1 _
     ·exact br _ _
    exact f.fpOk g (f.hok.fresh g)
end
noncomputable def ee (S:Sto):D->Option (Bool×List D)
 | .tup xs=>some (false,xs)
 | .rol xs=>some (true,xs)
 | .ref n=>match S[n]? with
  |some (.lst xs)=>some (true,xs)
  |_=>none
 |_=>none
noncomputable def j9(S:Sto):D->List (Nat×List D)
 | .ref n=>match S[n]? with
  |some (.lst xs)=>[(n,xs)]
  |_=>[]
 |_=>[]
section
variable{K:Fg1}{H:Hp}{mu:List dB}{S:Sto}
theorem d5{d:D}{v:V}{b:Bool}{xs:List D}(r:fg K H mu d v)(s:Sim K H mu S)(h:ee S d=Z (b,xs)):∃a vs,v = .ref a/\ul K b H a vs/\d8 K H mu xs vs:=by
 cases d with
 |tup ys=>cases h;cases r with|tup q t=>exact⟨_,_,rfl,q,t⟩
 |rol ys=>cases h;cases r with|rol q t=>exact⟨_,_,rfl,q.sq,t⟩
 |ref n=>
  rw[ee]at h;split at h
  ·rename_i ys e;cases h;cases r with
   |ref q=>
    obtain⟨vs,f,c⟩:=s.lst e q;exact⟨_,vs,O,nq.of f,c⟩
  ·cases h
 |_=>cases h
theorem i9{d:D}{a:dB}{b:Bool}{xs:List D}(r:fg K H mu d (.ref a))(s:Sim K H mu S)(h:ee S d=some (b,xs)){H1:Hp}{mu1:List dB}{S1:Sto}(x:uu mu mu1 H H1)(c:Sim K H1 mu1 S1)(ok:qj S1 (j9 S d)=true):
  ∃vs,ul K b H1 a vs/\d8 K H1 mu1 xs vs:=by
 have f:=r.exw x;have h1:ee S1 d=Z (b,xs):=by
  cases d with
  |ref n=>
   rw[ee]at h;split at h
   ·rename_i ys e;cases h;rw[j9,e]at ok;dsimp only[qj]at ok;rw[bM]at ok;rw[ee];split at ok
    ·rename_i zs g
     first|rw[g,D.sames_eq ok] | rw[D.sames_eq ok]
    ·cases ok
   ·cases h
  |_=>exact h
 obtain⟨i,vs,e,q,t⟩:=d5 f c h1;cases e;exact⟨vs,q,t⟩
end
noncomputable def ia (m:FE):FI:=λr S=>(m r S).bind λp=>(ee p.2 p.1).bind λq=>some (⟨q.2,j9 p.2 p.1⟩,p.2)
noncomputable def vD:Nat->List D->List D
 |_,[]=>[]
 |n,d::ds=>.tup [.int n,d]::vD (n+1) ds
noncomputable def qx (m:FA):FI:=λr S=>(m r S).bind λp=>match p.1 with
 |[d]=>(ee p.2 d).bind λq=>some (⟨vD 0 q.2,j9 p.2 d⟩,p.2)
 |_=>none
noncomputable def xy:List D->List D->List D
 |x::xs,y::ys=>.tup [x,y]::xy xs ys
 |_,_=>[]
def HQ(m:FA):FI:=λr S=>(m r S).bind λp=>match p.1 with
 |[d,e]=>(ee p.2 d).bind λq=>(ee p.2 e).bind λt=>Z (⟨xy q.2 t.2,j9 p.2 d++j9 p.2 e⟩,p.2)
 |_=>Y
noncomputable def gi(lo:Int):Nat->List D
 |0=>[]
 |n+1=>.int lo::gi (lo+1) n
noncomputable def oa (m:FA):FI:=λr S=>(m r S).bind λp=>match p.1 with
 |[.int j]=>if-(2^62)<=j/\j<2^62 then some (⟨gi 0 j.toNat,[]⟩,p.2)else none
 |_=>none
def Lr(m:FA):FI:=λr S=>(m r S).bind λp=>match p.1 with
 |[.int i,.int j]=>if-(2^62)<=i/\i<2^62 /\ -(2^62)<=j/\j<2^62 then Z (⟨gi i (j-i).toNat,[]⟩,p.2)else Y
 |_=>Y
theorem gR:∀(ds:List D) (n i:Nat),(vD n ds)[i]?=(ds[i]?).map λd=>.tup [.int ((n+i:Nat):Int),d]
 |[],n,i=>by simp[vD]
 |d::ds,n,0=>by simp[vD]
 |d::ds,n,i+1=>by
  rw[vD,gC1,gR ds (n+1) i,gC1];rw[show n+1+i=n+(i+1) by lia]
theorem hC:∀(ds:List D) (n:Nat),(vD n ds).length=ds.length
 |[],_=>rfl
 |d::ds,n=>by rw[vD,lC1,hC ds,lC1]
theorem xw:∀(xs ys:List D) (i:Nat) (d:D),(xy xs ys)[i]?=Z d -> ∃x y,xs[i]?=Z x/\ys[i]?=Z y/\d = .tup [x,y]
 |[],_,i,d,h=>by simp[xy]at h
 |_::_,[],i,d,h=>by simp[xy]at h
 |x::xs,y::ys,0,d,h=>by simp[xy]at h;exact⟨x,y,O,O,h.symm⟩
 |x::xs,y::ys,i+1,d,h=>by
  rw[xy,gC1]at h;obtain⟨e,f,a,c,b⟩:=xw xs ys i d h;exact⟨e,f,by simpa using a,by simpa using c,b⟩
theorem xu:∀(xs ys:List D) (i:Nat),(xy xs ys).length<=i->xs.length<=i\/ys.length<=i
 |[],_,i,_=>.inl (bi _)
 |_::_,[],i,_=>.inr (bi _)
 |x::xs,y::ys,0,h=>by simp[xy]at h
 |x::xs,y::ys,i+1,h=>by
  rcases xu xs ys i (by simpa[xy]using h)with q|q
  ·exact .inl (by simpa using q)
  ·exact .inr (by simpa using q)
theorem uY:∀(n:Nat) (lo:Int) (i:Nat) (d:D),(gi lo n)[i]?=Z d->i<n/\d = .int (lo+i)
 |0,lo,i,d,h=>by simp[gi]at h
 |n+1,lo,0,d,h=>by simp[gi]at h;exact⟨bN _,by rw[<- h];simp⟩
 |n+1,lo,i+1,d,h=>by
  rw[gi,gC1]at h;obtain⟨h1,h2⟩:=uY n (lo+1) i d h;refine⟨Nat.succ_lt_succ h1,?_⟩;rw[h2,show lo+1+(i:Int)=lo+((i+1:Nat):Int) by push_cast;lia]
theorem eH:∀(n:Nat) (lo:Int),(gi lo n).length=n
 |0,_=>rfl
 |n+1,lo=>by rw[gi,lC1,eH n]
theorem yf{S:Sto}:∀{c c':List (Nat×List D)},qj S (c++c')=M->qj S c=M/\qj S c'=M
 |[],_,h=>⟨O,h⟩
 |(n,xs)::c,c',h=>by
  rw[bj,qj,bA1]at h;obtain⟨h1,h2⟩:=yf h.2;exact⟨by rw[qj,bA1];exact⟨h.1,h1⟩,h2⟩
section
variable{tg:Expr}
theorem vi(K:Fg1)(lo:Int)(n:Nat)(mu:List dB)(H:Hp):OM K (Nm lo n) ⟨gi lo n,[]⟩ mu H:=by
 intro i H1 mu1 e x s ok;refine⟨λd b=>?_,λh=>by rw[eH]at h;exact h⟩;obtain⟨h1,h2⟩:=uY n lo i d b;refine⟨h1,λy H2 ⟨a,c⟩=>?_⟩;subst a;subst c;subst h2;exact⟨.refl _ _,s,.int _⟩
theorem JR{e:Expr}{m:FE}(h:ME X e m):MI X tg e (ia m):=o9 (L6 (FB h) (I9 h)) <| by
 rintro σ H R ⟨r,mu,S,ao,I,E,C,g,hc⟩;obtain⟨⟨d,K⟩,D,g⟩:=Th g;obtain⟨⟨b,xs⟩,o,g⟩:=Th g;cases g;cases b with
 |true=>
  left;refine⟨r,mu,S,d,_,E,C,D,λv H1 mu1 B j c=>?_⟩;obtain⟨a,vs,rfl,q,t⟩:=d5 j c o;refine⟨a,O,⟨vs,q⟩,hc _ H1 mu1 B (λi H2 x G w l ok=>?_) c⟩;obtain⟨ws,f,k⟩:=i9 j c o w l ok;refine⟨λd s=>?_,λz=>⟨ws,f,by rw[<- k.length];exact z⟩⟩;obtain⟨v,n,A⟩:=k.get s;refine⟨⟨ws,v,f,n⟩,λy F ⟨u,p⟩=>?_⟩;subst u;have:=p ws f;rw[n]at this;cases this;exact⟨.refl _ _,l,A⟩
 |false=>
  right;refine⟨r,mu,S,d,_,E,C,D,λv H1 mu1 B j c=>?_⟩;obtain⟨a,vs,rfl,q,t⟩:=d5 j c o;refine⟨a,O,⟨vs,q⟩,hc _ H1 mu1 B (λi H2 x G w l ok=>?_) c⟩;obtain⟨ws,f,k⟩:=i9 j c o w l ok;refine⟨λd s=>?_,λz=>⟨ws,f,by rw[<- k.length];exact z⟩⟩;obtain⟨v,n,A⟩:=k.get s;refine⟨⟨ws,v,f,n⟩,λy F ⟨u,p⟩=>?_⟩;subst u;have:=p ws f;rw[n]at this;cases this;exact⟨.refl _ _,l,A⟩
theorem oY{K:Fg1}{H:Hp}{mu:List dB}{d:D}{vs:List V}(r:d8 K H mu [d] vs):∃v,vs=[v]/\fg K H mu d v:=by
 cases r with|cons r t=>cases t;exact⟨_,O,r⟩
theorem uM{K:Fg1}{H:Hp}{mu:List dB}{d e:D}{vs:List V}(r:d8 K H mu [d,e] vs):∃v u,vs=[v,u]/\fg K H mu d v/\fg K H mu e u:=by
 cases r with|cons r t=>cases t with|cons q t=>cases t;exact⟨_,_,O,r,q⟩
theorem zW {a:Expr}{m:FA}{p pos:Pos}(hg:Gl X "range")(hm:X.mg "range"=Y)(ha:MA X [a] m)(hs:autoParam (dH [a] X.env=[(J,eval a X.env)]) cu0):MI X tg (.Call (.Name "range" p) [a] [] pos) (oa m):=
 o9 (zN hg hm ha hs) <| by
  rintro σ H R ⟨r,mu,S,ao,i,d,hs,hm,hc⟩;obtain⟨⟨ds,k⟩,c,hm⟩:=Th hm;dsimp only at hm;split at hm
  ·rename_i j;split at hm
   ·rename_i b;cases hm;refine⟨r,mu,S,_,_,d,hs,c,λvs H1 mu1 h f e=>?_⟩;obtain⟨v,rfl,g⟩:=oY f;cases g;exact⟨j,O,b.1,b.2,hc _ H1 mu1 h (vi _ _ _ _ _) e⟩
   ·cases hm
  ·cases hm
theorem zV {a b:Expr}{m:FA}{p pos:Pos}(hg:Gl X "range")(hm:X.mg "range"=Y)(ha:MA X [a,b] m)(hs:autoParam (dH [a,b] X.env=[(J,eval a X.env),(J,eval b X.env)]) cu0)(hs2:autoParam (dH [b] X.env=[(J,eval b X.env)]) cu0):MI X tg (.Call (.Name "range" p) [a,b] [] pos) (Lr m):=
 o9 (zM hg hm ha hs hs2) <| by
  rintro σ H R ⟨r,mu,S,ao,n,e,hs,hm,hc⟩;obtain⟨⟨ds,o⟩,d,hm⟩:=Th hm;dsimp only at hm;split at hm
  ·rename_i i j;split at hm
   ·rename_i c;cases hm;refine⟨r,mu,S,_,_,e,hs,d,λvs H1 mu1 k g f=>?_⟩;obtain⟨v,u,rfl,h,l⟩:=uM g;cases h;cases l;exact⟨i,j,O,c,hc _ H1 mu1 k (vi _ _ _ _ _) f⟩
   ·cases hm
  ·cases hm
variable{elts:List Expr}{k:Nat}{tpos:Pos}
theorem Gd {a:Expr}{m:FA}{p pos:Pos}(hg:Gl X "enumerate")(hm:X.mg "enumerate"=Y)(ha:MA X [a] m)(hs:autoParam (dH [a] X.env=[(J,eval a X.env)]) cu0):MI X (.Tuple elts k tpos) (.Call (.Name "enumerate" p) [a] [] pos) (qx m):=
 o9 (FC hg hm ha hs) <| by
  rintro σ H R ⟨r,mu,S,ao,L,F,hs,hm,hc⟩;obtain⟨⟨ds,N⟩,E,hm⟩:=Th hm;dsimp only at hm;split at hm
  ·rename_i d;obtain⟨⟨b,xs⟩,l,hm⟩:=Th hm;cases hm;refine⟨r,mu,S,_,_,F,hs,E,λvs H1 mu1 G x g=>?_⟩;obtain⟨v,rfl,u⟩:=oY x;obtain⟨a,vs,rfl,q,t⟩:=d5 u g l;refine⟨a,b,O,⟨vs,q⟩,hc _ H1 mu1 G (λi H2 C av B o ok=>?_) g⟩;obtain⟨ws,h,j⟩:=i9 u g l B o ok;refine⟨λd c=>?_,λn=>⟨ws,h,by rw[hC]at n;rw[<- j.length];exact n⟩⟩;rw[gR]at c;obtain⟨I,A,c⟩:=Ti c;obtain⟨v,s,e⟩:=j.get A;refine⟨⟨ws,v,h,s⟩,λy K ⟨p,aq,f,z,w,D⟩=>?_⟩;have:=D ws h;rw[s]at this;cases this;subst z;subst w;subst c;rw[bO];exact⟨Ext.fresh f,o.fresh f,.tup (kS.of eA) (.cons (.int _) (.cons (e.ext (Ext.fresh f)) .nil))⟩
  ·cases hm
theorem JQ {a b:Expr}{m:FA}{p pos:Pos}(hg:Gl X "zip")(hm:X.mg "zip"=Y)(ha:MA X [a,b] m)(hs:autoParam (dH [a,b] X.env=[(J,eval a X.env),(J,eval b X.env)]) cu0)(hs2:autoParam (dH [b] X.env=[(J,eval b X.env)]) cu0):MI X (.Tuple elts k tpos) (.Call (.Name "zip" p) [a,b] [] pos) (HQ m):=
 o9 (I7 hg hm ha hs hs2) <| by
  rintro σ H R ⟨r,mu,S,ao,S',he,hs,hm,hc⟩;obtain⟨⟨ds,S1⟩,wq,hm⟩:=Th hm;dsimp only at hm;split at hm
  ·rename_i d e;obtain⟨⟨b1,xs⟩,D,hm⟩:=Th hm;obtain⟨⟨b2,ys⟩,B,hm⟩:=Th hm;cases hm;refine⟨r,mu,S,_,_,he,hs,wq,λvs H1 mu1 x1 av f=>?_⟩;obtain⟨v,u,rfl,I,K⟩:=uM av;obtain⟨a1,j,rfl,au,t1⟩:=d5 I f D;obtain⟨a2,s,rfl,q2,t2⟩:=d5 K f B;refine⟨a1,b1,a2,b2,O,⟨j,au⟩,⟨s,q2⟩,hc _ H1 mu1 x1 (λi H2 T S2 C o ok=>?_) f⟩;obtain⟨n,w⟩:=yf ok;obtain⟨ws,h,A⟩:=i9 I f D C o n;obtain⟨c,q,x⟩:=i9 K f B C o w;refine⟨λd Q=>?_,λU=>⟨ws,c,h,q,?_⟩⟩
   ·obtain⟨x',y',ex,V,rfl⟩:=xw xs ys i d Q;obtain⟨v,G,l⟩:=A.get ex;obtain⟨u,E,t⟩:=x.get V;refine⟨⟨ws,c,v,u,h,q,G,E⟩,λy H3 ⟨p,v',u',g,P,N,W,aq⟩=>?_⟩;have F:=W ws h;have L:=aq c q;rw[G]at F;cases F;rw[E]at L;cases L;subst P;subst N;exact⟨Ext.fresh g,o.fresh g,.tup (kS.of eA) (.cons (l.ext (Ext.fresh g)) (.cons (t.ext (Ext.fresh g)) .nil))⟩
   ·rcases xu xs ys i U with z|z
    ·exact .inl (by rw[<- A.length];exact z)
    ·exact .inr (by rw[<- x.length];exact z)
  ·cases hm
end
abbrev G1:=D->Sto->Option (D×Sto)
abbrev G2:=D->D->Sto->Option (D×Sto)
abbrev G3:=D->D->D->Sto->Option (D×Sto)
noncomputable def b1 (f:G1):FN:=λds S=>match ds with
 |[a]=>f a S
 |_=>none
noncomputable def b2 (f:G2):FN:=λds S=>match ds with
 |[a,b]=>f a b S
 |_=>none
noncomputable def b3 (f:G3):FN:=λds S=>match ds with
 |[a,b,c]=>f a b c S
 |_=>none
section
variable{K:Fg1}{H:Hp}{Q:VK}
theorem qo{f:G2}{x y:V}(h:rN K (b2 f) [x,y] H Q):∃mu S d e r a,fg K H mu d x/\fg K H mu e y/\Sim K H mu S/\f d e S=Z (r,a)/\ur K mu H r a Q:=by
 obtain⟨mu,S,ds,r,a,c,g,b,hc⟩:=h;cases c with
 |cons q t=>cases t with
  |cons i t=>cases t;exact⟨mu,S,_,_,r,a,q,i,g,b,hc⟩
theorem BW{f:G1}{xs:List V}(h:rN K (b1 f) xs H Q):∃x mu S d r a,xs=[x]/\fg K H mu d x/\Sim K H mu S/\f d S=Z (r,a)/\ur K mu H r a Q:=by
 obtain⟨mu,S,ds,r,a,c,e,b,hc⟩:=h;cases c with
 |nil=>cases b
 |cons q t=>cases t with
  |nil=>exact⟨_,mu,S,_,r,a,O,q,e,b,hc⟩
  |cons g t=>cases b
theorem zJ{f:G2}{xs:List V}(h:rN K (b2 f) xs H Q):∃x y mu S d e r a,xs=[x,y]/\fg K H mu d x/\fg K H mu e y/\Sim K H mu S/\f d e S=Z (r,a)/\ur K mu H r a Q:=by
 obtain⟨mu,S,ds,r,a,c,i,b,hc⟩:=h;cases c with
 |nil=>cases b
 |cons q t=>cases t with
  |nil=>cases b
  |cons g t=>cases t with
   |nil=>exact⟨_,_,mu,S,_,_,r,a,O,q,g,i,b,hc⟩
   |cons j t=>cases b
theorem ur.now{mu:List dB}{S:Sto}{d:D}{v:V}(c:ur K mu H d S Q)(r:fg K H mu d v)(s:Sim K H mu S):Q v H:=c v H mu (.refl _ _) r s
end
noncomputable def fr(i j:Int):Bool:=(decide (-(2^64)<i)&&decide (i<2^64))||(decide (-(2^64)<j)&&decide (j<2^64))||(decide (i.natAbs<2^1000)&&decide (j.natAbs<2^1000))
noncomputable def gj:G2:=λd e S=>match d,e with
 | .int i,.int j=>Z (.int (i+j),S)
 | .tup xs,.tup ys=>if xs.length+ys.length<=dI then Z (.tup (xs++ys),S)else Y
 | .str x,.str y=>if x.length+y.length<=dI then Z (.str (x++y),S)else Y
 | .ref a,.ref b=>match S[a]?,S[b]? with
  |some (.lst xs),Z (.lst ys)=>if xs.length+ys.length<=dI then Z (.ref S.length,S++[.lst (xs++ys)])else Y
  |_,_=>Y
 |_,_=>Y
noncomputable def gSub:G2:=λd e S=>match d,e with
 | .int i,.int j=>Z (.int (i-j),S)
 |_,_=>Y
def ni:G2:=λd e S=>match d,e with
 | .int i,.int j=>if fr i j=M then Z (.int (i*j),S)else Y
 |_,_=>Y
noncomputable def ms:G2:=λd e S=>match d,e with
 | .int i,.int j=>if 0<j then Z (.int (i%j),S)else Y
 |_,_=>Y
noncomputable def oe:G2:=λd e S=>match d,e with
 | .int i,.int j=>if 0<j/\j<1073741824 then Z (.int (i/j),S)else Y
 |_,_=>Y
noncomputable def wU:G2:=λd e S=>match d,e with
 | .int i,.int j=>if 0<=j/\j<=1000000/\i.natAbs<2^64 then Z (.int (i^j.toNat),S)else Y
 |_,_=>Y
theorem wO{i j:Int}(h:fr i j=M):IntMulOk i j:=by
 unfold fr at h;simp only[bP,bA1,am]at h;rcases h with(⟨h1,h2⟩|⟨h1,h2⟩)|⟨h1,h2⟩
 ·exact .of_left (intBits_le_64 h1 h2)
 ·exact .of_right (intBits_le_64 h1 h2)
 ·exact .of_bits (aD (intBits_le h1) (by decide)) (aD (intBits_le h2) (by decide))
theorem om{f:dz->dz->Sem dz}{g:G2}{c:Int->Int->Prop}{v:Int->Int->D}(hg:∀ d e S r a,g d e S=Z (r,a) -> ∃ i j,d = .int i/\e = .int j/\c i j/\r=v i j/\a=S){b:Int->Int->V}(hv:∀i j K H mu,fg K H mu (v i j) (b i j))(ho:gU X f (rI c b)):gU X f (r2 X.K (b2 g)):=by
 intro ag s σ H x y u w Q I n o h;obtain⟨mu,S,d,e,r,a,m,r2,p,k,hc⟩:=qo h;obtain⟨i,j,rfl,rfl,l,rfl,rfl⟩:=hg d e S r a k;cases m;cases r2;exact ho ag s σ H _ _ u w Q I n o ⟨i,j,O,O,l,hc.now (hv i j _ _ _) p⟩
theorem pa{f:dz->dz->Sem dz}{g:G2}{v:Int->Int->D}(hg:∀ d e S r a,g d e S=Z (r,a) -> ∃ i j,d = .int i/\e = .int j/\r=v i j/\a=S){b:Int->Int->V}(hv:∀i j K H mu,fg K H mu (v i j) (b i j))(ho:gU X f (HE b)):gU X f (r2 X.K (b2 g)):=by
 intro ag s σ H x y u w Q I l m h;obtain⟨mu,S,d,e,r,a,k,r2,n,c,hc⟩:=qo h;obtain⟨i,j,rfl,rfl,rfl,rfl⟩:=hg d e S r a c;cases k;cases r2;exact ho ag s σ H _ _ u w Q I l m ⟨i,j,O,O,hc.now (hv i j _ _ _) n⟩
theorem nI:gU X (QP .Mult) (r2 X.K (b2 ni)):=om (c:=λi j=>IntMulOk i j) (v:=λi j=>.int (i*j)) (λd e S r a h=>by
 unfold ni at h;split at h
 ·split at h
  ·rename_i q;cases h;exact⟨_,_,O,O,wO q,O,O⟩
  ·cases h
 ·cases h) (λ_ _ _ _ _=>.int _) (Nx λ_ _ _ _ _ _ _ hc q=>mul_int q hc)
theorem nJ:gU X (QP .Mod) (r2 X.K (b2 ms)):=om (c:=λ_ j=>0<j) (v:=λi j=>.int (i%j)) (λd e S r a h=>by
 unfold ms at h;split at h
 ·split at h
  ·rename_i q;cases h;exact⟨_,_,O,O,q,O,O⟩
  ·cases h
 ·cases h) (λ_ _ _ _ _=>.int _) Jr
theorem uX:gU X (QP .FloorDiv) (r2 X.K (b2 oe)):=om (c:=No) (v:=λi j=>.int (i/j)) (λd e S r a h=>by
 unfold oe at h;split at h
 ·split at h
  ·rename_i q;cases h;exact⟨_,_,O,O,q,O,O⟩
  ·cases h
 ·cases h) (λ_ _ _ _ _=>.int _) FR
theorem Cr:gU X (QP .Pow) (r2 X.K (b2 wU)):=om (c:=Nn) (v:=λi j=>.int (i^j.toNat)) (λd e S r a h=>by
 unfold wU at h;split at h
 ·split at h
  ·rename_i q;cases h;exact⟨_,_,O,O,q,O,O⟩
  ·cases h
 ·cases h) (λ_ _ _ _ _=>.int _) Jq
theorem AB{s:dA}{prog:dD}{w:dF}{A:dE}{E:dz->dA->Prop}{t b:dB}{ws:List dz}{Q:dz->dA->Prop}(ht:Qd s.heap t ([]:List dz).toArray)(hb:Qd s.heap b ws.toArray)(h:Q (.ref b) s):
  dJ (Qm prog w) A (QP .Add (.ref t) (.ref b)) Q E s:=by
 obtain⟨⟨o,p,i,m⟩,l,hc,n,j⟩:=id ht;obtain⟨⟨k,e,g,f⟩,a,d,q,c⟩:=id hb;simp only at hc j d c;subst hc j d c;exact concat_meets ⟨_,l,O⟩ ⟨_,a,O⟩ noFill_tuple_add seq_tuple_add Q7 Q8 (Q9 _ _) (tuple_addW0 t b ([]:List dz).toArray ws.toArray n q p e m f (by simp)) ⟨l,a,h⟩
theorem gl:gU X (QP .Add) (r2 X.K (b2 gj)):=by
 intro ag s σ H x y u w Q I q o h;obtain⟨mu,S,d,e,r,P,v,r2,g,c,hc⟩:=qo h;unfold gj at c;split at c
 ·cases c;cases v;cases r2;exact Ju ag s σ H _ _ u w Q I q o ⟨_,_,O,O,hc.now (.int _) g⟩
 ·rename_i xs ys;split at c
  ·rename_i t;cases c;cases v with
   |tup B l=>
    cases r2 with
    |tup C k=>
     rename_i f a1 m a2;by_cases D:f=[]
     ·subst D;have:xs=[]:=by cases l;rfl
      subst this;cases q;cases o;obtain⟨A,N,K,_⟩:=I.tuple B;obtain⟨E,L,p2,_⟩:=I.tuple C;have:A=[]:=N.nil_iff.mpr O;subst this;exact AB K p2 ⟨.ref a2,H,I,O,hc.now (.tup C k) g⟩
     ·refine FU ag s σ H _ _ u w Q I q o ⟨a1,a2,f,m,O,O,B,C,D,by rw[<- l.length,<- k.length];exact t,λz=>?_,λz p n=>?_⟩
      ·subst z;have:ys=[]:=by cases k;rfl
       subst this;rw[aN]at hc;exact hc.now (.tup B l) g
      ·exact hc _ _ mu (Ext.fresh n) (.tup (kS.of eA) ((l.append k).ext (Ext.fresh n))) (g.fresh n)
  ·cases c
 ·rename_i i j;split at c
  ·rename_i t;cases c;cases v;cases r2;exact wH ag s σ H _ _ u w Q I q o ⟨i,j,O,O,t,hc.now (.str _) g⟩
  ·cases c
 ·rename_i a b;split at c
  ·rename_i xs ys F eb;split at c
   ·rename_i t;cases c;cases v with
    |ref av=>
     cases r2 with
     |ref ao=>
      obtain⟨f,aq,l⟩:=g.lst F av;obtain⟨m,G,k⟩:=g.lst eb ao;refine Jt ag s σ H _ _ u w Q I q o ⟨_,_,f,m,O,O,aq,G,by rw[<- l.length,<- k.length];exact t,λp n=>?_⟩;exact hc _ _ (mu++[p]) (Ext.new_ n) (.ref (gM g.len p)) (g.newL (l.append k) n)
   ·cases c
  ·cases c
 ·cases c
noncomputable def jA(p:Int->Int->Bool):G2:=λd e S=>match d,e with
 | .int i,.int j=>Z (.bl (p i j),S)
 |_,_=>Y
theorem tX{p:Int->Int->Bool}(d e:D)(S:Sto)(r:D)(S':Sto)(h:jA p d e S=Z (r,S')):∃i j,d = .int i/\e = .int j/\r = .bl (p i j)/\S'=S:=by
 unfold jA at h;split at h
 ·cases h;exact⟨_,_,O,O,O,O⟩
 ·cases h
theorem N8:gU X (QQ .LtE) (r2 X.K (b2 (jA λi j=>decide (i<=j)))):=pa tX (λ_ _ _ _ _=>.bl _) Mb
theorem FZ:gU X (QQ .Gt) (r2 X.K (b2 (jA λi j=>decide (j<i)))):=pa tX (λ_ _ _ _ _=>.bl _) Mc
theorem Mh:gU X (QQ .GtE) (r2 X.K (b2 (jA λi j=>decide (j<=i)))):=pa tX (λ_ _ _ _ _=>.bl _) Md
noncomputable def mw:D->Bool
 | .non=>M
 | .bl _=>M
 | .int _=>M
 | .str _=>M
 |_=>J
noncomputable def NC:D->D->Option Bool
 | .non,.non=>some true
 | .bl a,.bl b=>some (a == b)
 | .bl a,.int b=>some ((if a then 1 else 0) == b)
 | .int a,.bl b=>some (a == (if b then 1 else 0))
 | .int a,.int b=>some (a == b)
 | .str a,.str b=>some (a == b)
 |d,e=>if mw d&&mw e then some false else none
noncomputable def w8(f:D->D->Option Bool):List D->List D->Option Bool
 |x::xs,y::ys=>(f x y).bind λb=>(w8 f xs ys).map λc=>b&&c
 |[],[]=>Z M
 |_,_=>Z J
def jm(S:Sto):Nat->D->D->Option Bool
 |0,_,_=>Y
 |n+1,d,e=>match ee S d,ee S e with
  |some p,Z q=>if p.1=q.1 then(if p.1=M/\p.2.length≠q.2.length then Z J else w8 (jm S n) p.2 q.2)else Z J
  |some _,Y=>if mw e=M then Z J else Y
  |none,Z _=>if mw d=M then Z J else Y
  |none,Y=>NC d e
section
variable{ag:List (dB×Obj)}{σ:L2.St}{H:Hp}{s:dA}{mu:List dB}{S:Sto}
theorem f0{K:Fg1}{d:D}{v:V}(r:fg K H mu d v)(h:mw d=M):lm v=M /\ ∀e w,fg K H mu e w->mw e=M->NC d e=Z (wc v w):=by
 cases d with
 |non=>cases r;refine⟨O,λe w q f=>?_⟩;cases e with
  |non=>cases q;rfl
  |bl _=>cases q;rfl
  |int _=>cases q;rfl
  |str _=>cases q;rfl
  |_=>cases f
 |bl b=>cases r;refine⟨O,λe w q f=>?_⟩;cases e with
  |non=>cases q;rfl
  |bl _=>cases q;rfl
  |int _=>cases q;rfl
  |str _=>cases q;rfl
  |_=>cases f
 |int i=>cases r;refine⟨O,λe w q f=>?_⟩;cases e with
  |non=>cases q;rfl
  |bl _=>cases q;rfl
  |int _=>cases q;rfl
  |str _=>cases q;rfl
  |_=>cases f
 |str x=>cases r;refine⟨O,λe w q f=>?_⟩;cases e with
  |non=>cases q;rfl
  |bl _=>cases q;rfl
  |int _=>cases q;rfl
  |str _=>cases q;rfl
  |_=>cases f
 |_=>cases h
theorem pO{d e:D}{b:Bool}(h:NC d e=Z b):mw d=M/\mw e=M:=by
 cases d<;>cases e<;>first|exact⟨rfl,rfl⟩|(cases h;done)|exact nomatch h|(simp[NC,mw]at h)
theorem Dx{v:V}(h:lm v=M):wc v v=M:=by
 cases v<;>first|rfl|(cases h;done)|exact Sa _|(simp[wc];done)
theorem vz(I:Inv X ag σ H s)(hs:Sim X.K H mu S):∀(n:Nat) {d e:D} {v:V} {b:Bool},fg X.K H mu d v->fg X.K H mu e v->jm S n d e=Z b->b=M
 |0,_,_,_,_,_,_,h=>by cases h
 |n + 1,d,e,v,b,m,l,h=>by
  rw[jm]at h;have g:∀{xs ys:List D} {vs:List V} {b:Bool},d8 X.K H mu xs vs->d8 X.K H mu ys vs->w8 (jm S n) xs ys=Z b->b=M:=by
   intro xs
   induction xs with
   |nil=>intro ys vs b w u h;cases w;cases u;cases h;rfl
   |cons x xs ih=>
    intro ys vs b w u h;cases w with
    |cons r t=>
     cases u with
     |cons L R=>
      rw[w8]at h;obtain⟨b1,k,h⟩:=Th h;obtain⟨b2,c,h⟩:=Ti h;subst h;rw[vz I hs n r L k,ih t R c];rfl
  cases hd:ee S d with
  |some p=>
   obtain⟨E,xs⟩:=p;obtain⟨a,vs,rfl,q,t⟩:=d5 m hs hd;cases he:ee S e with
   |some p2=>
    obtain⟨qb,ys⟩:=p2;obtain⟨a2,A,c,B,y⟩:=d5 l hs he;cases c;rw[hd,he]at h;dsimp only at h;obtain⟨G,T,co,_⟩:=fh I q;obtain⟨C,av,j,_⟩:=fh I B;have P:E=qb:=by
     cases E<;>cases qb
     ·rfl
     ·obtain⟨o,k,z,_⟩:=co;obtain⟨F,c,i,_⟩:=j;rw[k]at c;cases c;rw[z]at i;exact absurd i (by decide)
     ·obtain⟨o,k,z,_⟩:=co;obtain⟨F,c,i,_⟩:=j;rw[k]at c;cases c;rw[z]at i;exact absurd i (by decide)
     ·rfl
    subst P;have ao:=oi I q B;subst ao;rw[ak O,aj (by rw[t.length,y.length];simp)]at h;exact g t y h
   |none=>
    rw[hd,he]at h;dsimp only at h;split at h
    ·rename_i f;have:=(f0 l f).1;cases this
    ·cases h
  |none=>
   cases he:ee S e with
   |some p2=>
    obtain⟨qb,ys⟩:=p2;obtain⟨a2,A,c,B,y⟩:=d5 l hs he;subst c;rw[hd,he]at h;dsimp only at h;split at h
    ·rename_i f;have:=(f0 m f).1;cases this
    ·cases h
   |none=>
    rw[hd,he]at h;dsimp only at h;obtain⟨N,aq⟩:=pO h;obtain⟨Q,K⟩:=f0 m N;rw[K e v l aq]at h;cases h;exact Dx Q
theorem fF{A:dE}{b:Bool}{a:dB}{its:Array dz}{v:V}{u:dz}(c:SCo b s.heap a its)(r:eg v u)(f:lm v=true)(d:A.units<QX):
   Rr A s (.ref a) u J/\Rr A s u (.ref a) J/\Sb A s (.ref a) u J/\Sb A s u (.ref a) J:=by
 cases v with
 | non => cases r;cases b
          · exact⟨.tuple_none c d,.none_tuple c d,.tuple_none c d,.none_tuple c d⟩
          · exact⟨.list_none c d,.none_list c d,.list_none c d,.none_list c d⟩
 | bl k => cases r;cases b
           · exact⟨.tuple_bool k c d,.bool_tuple k c d,.tuple_bool k c d,.bool_tuple k c d⟩
           · exact⟨.list_bool k c d,.bool_list k c d,.list_bool k c d,.bool_list k c d⟩
 | int i => obtain ⟨t,rfl⟩:=r;cases b
            · exact⟨.tuple_int i t c d,.int_tuple i t c d,.tuple_int i t c d,.int_tuple i t c d⟩
            · exact⟨.list_int i t c d,.int_list i t c d,.list_int i t c d,.int_list i t c d⟩
 | str x => obtain ⟨t,rfl⟩:=r;cases b
            · exact⟨.tuple_str x t c d,.str_tuple x t c d,.tuple_str x t c d,.str_tuple x t c d⟩
            · exact⟨.list_str x t c d,.str_list x t c d,.list_str x t c d,.str_list x t c d⟩
 |_=>cases f
theorem Fk{A:dE}{x y:V}{u w:dz}(f:eg x u)(a:eg y w)(h:lm x=M)(e:lm y=M):Sb A s u w (wc x y):=by
 cases x with
 |non=>cases f;cases y with
  |non=>cases a;exact .none_none
  |bl k=>cases a;exact .none_bool k
  |int i=>obtain⟨t,rfl⟩:=a;exact .none_int i t
  |str z=>obtain⟨t,rfl⟩:=a;exact .none_str z t
  |_=>cases e
 |bl d=>cases f;cases y with
  |non=>cases a;exact .bool_none d
  |bl k=>cases a;exact .bool_bool d k
  |int i=>obtain⟨t,rfl⟩:=a;exact .bool_int d i t
  |str z=>obtain⟨t,rfl⟩:=a;exact .bool_str d z t
  |_=>cases e
 |int c=>obtain⟨b,rfl⟩:=f;cases y with
  |non=>cases a;exact .int_none c b
  |bl k=>cases a;exact .int_bool c b k
  |int i=>obtain⟨t,rfl⟩:=a;exact .int_int c b i t
  |str z=>obtain⟨t,rfl⟩:=a;exact .int_str c b z t
  |_=>cases e
 |str g=>obtain⟨b,rfl⟩:=f;cases y with
  |non=>cases a;exact .str_none g b
  |bl k=>cases a;exact .str_bool g b k
  |int i=>obtain⟨t,rfl⟩:=a;exact .str_int g b i t
  |str z=>obtain⟨t,rfl⟩:=a;exact .str_str g b z t
  |_=>cases e
 |_=>cases h
theorem w6(f:D->D->Option Bool):∀{xs ys:List D} {b:Bool},w8 f xs ys=Z b -> ∃e:Nat->Bool,(∀j x y,xs[j]?=Z x->ys[j]?=Z y->f x y=Z (e j))/\b=((af (min xs.length ys.length)).all e&&xs.length == ys.length)
 |[],[],b,h=>by cases h;exact⟨λ_=>M,λj x y h=>by simp at h,O⟩
 |[],y::ys,b,h=>by cases h;exact⟨λ_=>M,λj x y h=>by simp at h,by simp⟩
 |x::xs,[],b,h=>by cases h;exact⟨λ_=>M,λj x y h h'=>by simp at h',by simp⟩
 |x::xs,y::ys,b,h=>by
  rw[w8]at h;obtain⟨b1,d,h⟩:=Th h;obtain⟨b2,k,h⟩:=Ti h;obtain⟨e,i,g⟩:=w6 f k;refine⟨λj=>match j with|0=>b1|j+1=>e j,λj l m c a=>?_,?_⟩
  ·cases j with
   |zero=>simp at c a;subst c;subst a;exact d
   |succ j=>exact i j l m (by simpa using c) (by simpa using a)
  ·rw[<- h,g,lC1,lC1,Nat.succ_min_succ,List.range_succ_eq_map,bQ,List.all_map];have:((xs.length+1 == ys.length+1):Bool)=(xs.length == ys.length):=by simp
   rw[this,Bool.and_assoc];rfl
theorem lF(I:Inv X ag σ H s)(hs:Sim X.K H mu S):∀(n:Nat) {A:dE} {d e:D} {v w:V} {u z:dz} {b:Bool},A.units+n<QX->fg X.K H mu d v->fg X.K H mu e w->eg v u->eg w z->jm S n d e=Z b->Rr A s u z b/\Sb A s u z b
 |0,_,_,_,_,_,_,_,_,_,_,_,_,_,h=>by cases h
 |n + 1,A,d,e,v,w,u,z,b,hu,aq,o,Q,E,h=>by
  have g:A.units<QX:=by lia
  have h0:=h;rw[jm]at h;cases hd:ee S d with
  |some p=>
   obtain⟨T,xs⟩:=p;obtain⟨a,vs,rfl,q,t⟩:=d5 aq hs hd;obtain⟨k,P,co,_⟩:=fh I q;cases Q;cases he:ee S e with
   |some p2=>
    obtain⟨qb,ys⟩:=p2;obtain⟨a2,L,rfl,q2,N⟩:=d5 o hs he;obtain⟨c,m,i,_⟩:=fh I q2;cases E;rw[hd,he]at h;dsimp only at h;have l:Sb A s (.ref a) (.ref a2) b->Rr A s (.ref a) (.ref a2) b/\Sb A s (.ref a) (.ref a2) b:=λrc=>by
     refine⟨?_,rc⟩;by_cases ha:a=a2
     ·subst ha;rw[vz I hs (n+1) aq o h0];exact .same _
     ·exact .of_refs ha rc
    split at h
    ·rename_i av;have wq:T=qb:=av;subst wq;split at h
     ·rename_i W;cases h;obtain⟨h1,h2⟩:=W;subst h1;refine l (.lists_lengths co i ?_ g);have l1:=t.length;have l2:=N.length;have l3:=P.length;have l4:=m.length
      simp only[sT1,bne_iff_ne,ne_eq];lia
     ·rename_i W;obtain ⟨f,hf,ao⟩:=w6 _ h;have elts:∀ j (h1:j<k.toArray.size) (h2:j<c.toArray.size),Rr A.in1 s k.toArray[j] c.toArray[j] (f j):=fun j h1 h2=>by
       have F:j<k.length:=by simpa using h1
       have r:j<c.length:=by simpa using h2
       have k1:j<vs.length:=by rw[P.length];exact F
       have k2:j<L.length:=by rw[m.length];exact r
       obtain⟨x,ex,rx⟩:=t.getV (gG1 k1);obtain⟨y,ey,ry⟩:=N.getV (gG1 k2);obtain⟨u1,G,U⟩:=P.get (gG1 k1);obtain⟨u2,C,R⟩:=m.get (gG1 k2);have K:k.toArray[j]=u1:=by
        rw[gG1 F]at G;simpa using G
       have au:c.toArray[j]=u2:=by
        rw[gG1 r]at C;simpa using C
       rw[K,au];exact(lF I hs n (A:=A.in1) (by show A.units+1+n<QX;lia) rx ry U R (hf j x y ex ey)).1
      have l1:=t.length;have l2:=N.length;have l3:=P.length;have l4:=m.length
      cases T with
      |false=>
       refine l ?_;have:=SeqAt.RcAt.tuples co i g elts;rw[ao];have K:k.toArray.size=xs.length:=by simp;lia
       have au:c.toArray.size=ys.length:=by simp;lia
       rw[K,au]at this;exact this
      |true=>
       refine l ?_;have B:xs.length=ys.length:=by
        by_cases z:xs.length=ys.length
        ·exact z
        ·exact absurd ⟨O,z⟩ W
       have:=SeqAt.RcAt.lists co i (by simp;lia) g elts;rw[ao];have K:k.toArray.size=xs.length:=by simp;lia
       rw[K]at this;rw[B,bR,Sa,bM,<- B];exact this
    ·rename_i av;cases h;cases T with
     |true=>
      cases qb with
      |true=>exact absurd O av
      |false=>exact⟨.list_tuple co i g,.list_tuple co i g⟩
     |false=>
      cases qb with
      |false=>exact absurd O av
      |true=>exact⟨.tuple_list co i g,.tuple_list co i g⟩
   |none=>
    rw[hd,he]at h;dsimp only at h;split at h
    ·rename_i f;cases h;obtain⟨r1,r2,r3,r4⟩:=fF co E (f0 o f).1 g;exact⟨r1,r3⟩
    ·cases h
  |none=>
   cases he:ee S e with
   |some p2=>
    obtain⟨qb,ys⟩:=p2;obtain⟨a2,L,rfl,q2,N⟩:=d5 o hs he;obtain⟨c,m,i,_⟩:=fh I q2;cases E;rw[hd,he]at h;dsimp only at h;split at h
    ·rename_i f;cases h;obtain⟨r1,r2,r3,r4⟩:=fF i Q (f0 aq f).1 g;exact⟨r2,r4⟩
    ·cases h
   |none=>
    rw[hd,he]at h;dsimp only at h;obtain⟨f1,f2⟩:=pO h;obtain⟨g1,g2⟩:=f0 aq f1;have g3:=(f0 o f2).1;rw[g2 e w o f2]at h;cases h;exact⟨lG Q E g1 g3,Fk Q E g1 g3⟩
end
noncomputable def eu:Nat:=60
def gEq:G2:=λd e S=>(jm S eu d e).map λb=>(.bl b,S)
theorem je(l:X.A.units+64<QX):gU X (QQ .Eq) (r2 X.K (b2 gEq)):=by
 intro ag s σ H x y u w Q I i j h;obtain⟨mu,S,d,e,r,k,g,r2,c,a,hc⟩:=qo h;obtain⟨b,f,a⟩:=Ti a;cases a;exact(lF I c eu (by show _+60<QX;lia) g r2 i j f).2 X.prog X.w X.xe _ ⟨.bl b,H,I,O,hc.now (.bl b) c⟩
section
variable{ag:List (dB×Obj)}{σ:L2.St}{H:Hp}{s:dA}{mu:List dB}{S:Sto}
theorem F2{A:dE}{x y:V}{u w:dz}(f:eg x u)(a:eg y w)(h:lm x=M)(e:lm y=M):SeqAt.RcNeAt A s u w (!wc x y):=by
 cases x with
 |non=>cases f;cases y with
  |non=>cases a;exact .none_none
  |bl k=>cases a;exact .none_bool k
  |int i=>obtain⟨t,rfl⟩:=a;exact .none_int i t
  |str z=>obtain⟨t,rfl⟩:=a;exact .none_str z t
  |_=>cases e
 |bl d=>cases f;cases y with
  |non=>cases a;exact .bool_none d
  |bl k=>cases a;exact .bool_bool d k
  |int i=>obtain⟨t,rfl⟩:=a;exact .bool_int d i t
  |str z=>obtain⟨t,rfl⟩:=a;exact .bool_str d z t
  |_=>cases e
 |int c=>obtain⟨b,rfl⟩:=f;cases y with
  |non=>cases a;exact .int_none c b
  |bl k=>cases a;exact .int_bool c b k
  |int i=>obtain⟨t,rfl⟩:=a;exact .int_int c b i t
  |str z=>obtain⟨t,rfl⟩:=a;exact .int_str c b z t
  |_=>cases e
 |str g=>obtain⟨b,rfl⟩:=f;cases y with
  |non=>cases a;exact .str_none g b
  |bl k=>cases a;exact .str_bool g b k
  |int i=>obtain⟨t,rfl⟩:=a;exact .str_int g b i t
  |str z=>obtain⟨t,rfl⟩:=a;exact .str_str g b z t
  |_=>cases e
 |_=>cases h
theorem nK{A:dE}{b:Bool}{a:dB}{its:Array dz}{v:V}{u:dz}(c:SCo b s.heap a its)(r:eg v u)(f:lm v=M)(d:A.units<QX):SeqAt.RcNeAt A s (.ref a) u M/\SeqAt.RcNeAt A s u (.ref a) M:=by
 cases v with
 | non => cases r;cases b
          · exact⟨.tuple_none c d,.none_tuple c d⟩
          · exact⟨.list_none c d,.none_list c d⟩
 | bl k => cases r;cases b
           · exact⟨.tuple_bool k c d,.bool_tuple k c d⟩
           · exact⟨.list_bool k c d,.bool_list k c d⟩
 | int i => obtain ⟨t,rfl⟩:=r;cases b
            · exact⟨.tuple_int i t c d,.int_tuple i t c d⟩
            · exact⟨.list_int i t c d,.int_list i t c d⟩
 | str x => obtain ⟨t,rfl⟩:=r;cases b
            · exact⟨.tuple_str x t c d,.str_tuple x t c d⟩
            · exact⟨.list_str x t c d,.str_list x t c d⟩
 |_=>cases f
theorem JC(I:Inv X ag σ H s)(hs:Sim X.K H mu S)(n:Nat){A:dE}{d e:D}{v w:V}{u z:dz}{b:Bool}(hu:A.units+n<QX)(aq:fg X.K H mu d v)(E:fg X.K H mu e w)(au:eg v u)(K:eg w z)(h:jm S n d e=Z b):SeqAt.RcNeAt A s u z (!b):=by
 cases n with
 |zero=>cases h
 |succ n=>
  have g:A.units<QX:=by lia
  rw[jm]at h;cases hd:ee S d with
  |some p=>
   obtain⟨Q,xs⟩:=p;obtain⟨a,vs,rfl,q,t⟩:=d5 aq hs hd;obtain⟨k,W,co,_⟩:=fh I q;cases au;cases he:ee S e with
   |some p2=>
    obtain⟨qb,ys⟩:=p2;obtain⟨a2,G,rfl,P,av⟩:=d5 E hs he;obtain⟨c,l,i,_⟩:=fh I P;cases K;rw[hd,he]at h;dsimp only at h;have l1:=t.length;have l2:=av.length;have l3:=W.length;have l4:=l.length
    split at h
    ·rename_i L;have wq:Q=qb:=L;subst wq;split at h
     ·rename_i T;cases h;obtain⟨h1,h2⟩:=T;subst h1;refine .lists_lengths co i ?_ g;simp only[sT1,bne_iff_ne,ne_eq];lia
     ·rename_i T;obtain ⟨f,hf,F⟩:=w6 _ h;have elts:∀ j (h1:j<k.toArray.size) (h2:j<c.toArray.size),Rr A.in1 s k.toArray[j] c.toArray[j] (f j):=fun j h1 h2=>by
       have B:j<k.length:=by simpa using h1
       have m:j<c.length:=by simpa using h2
       have k1:j<vs.length:=by rw[W.length];exact B
       have k2:j<G.length:=by rw[l.length];exact m
       obtain⟨x,ex,rx⟩:=t.getV (gG1 k1);obtain⟨y,ey,ry⟩:=av.getV (gG1 k2);obtain⟨u1,C,R⟩:=W.get (gG1 k1);obtain⟨u2,r,N⟩:=l.get (gG1 k2);have ao:k.toArray[j]=u1:=by
        rw[gG1 B]at C;simpa using C
       have U:c.toArray[j]=u2:=by
        rw[gG1 m]at r;simpa using r
       rw[ao,U];exact(lF I hs n (A:=A.in1) (by show A.units+1+n<QX;lia) rx ry R N (hf j x y ex ey)).1
      cases Q with
      |false=>
       have:=SeqAt.RcNeAt.tuples co i g elts;rw[F];have ao:k.toArray.size=xs.length:=by simp;lia
       have U:c.toArray.size=ys.length:=by simp;lia
       rw[ao,U]at this;exact this
      |true=>
       have o:xs.length=ys.length:=by
        by_cases z:xs.length=ys.length
        ·exact z
        ·exact absurd ⟨O,z⟩ T
       have:=SeqAt.RcNeAt.lists co i (by simp;lia) g elts;rw[F];have ao:k.toArray.size=xs.length:=by simp;lia
       rw[ao]at this;rw[o,bR,Sa,bM,<- o];exact this
    ·rename_i L;cases h;cases Q with
     |true=>
      cases qb with
      |true=>exact absurd O L
      |false=>exact .list_tuple co i g
     |false=>
      cases qb with
      |false=>exact absurd O L
      |true=>exact .tuple_list co i g
   |none=>
    rw[hd,he]at h;dsimp only at h;split at h
    ·rename_i f;cases h;exact(nK co K (f0 E f).1 g).1
    ·cases h
  |none=>
   cases he:ee S e with
   |some p2=>
    obtain⟨qb,ys⟩:=p2;obtain⟨a2,G,rfl,P,av⟩:=d5 E hs he;obtain⟨c,l,i,_⟩:=fh I P;cases K;rw[hd,he]at h;dsimp only at h;split at h
    ·rename_i f;cases h;exact(nK i au (f0 aq f).1 g).2
    ·cases h
   |none=>
    rw[hd,he]at h;dsimp only at h;obtain⟨f1,f2⟩:=pO h;obtain⟨g1,g2⟩:=f0 aq f1;have g3:=(f0 E f2).1;rw[g2 e w E f2]at h;cases h;exact F2 au K g1 g3
end
def wV:G2:=λd e S=>(jm S eu d e).map λb=>(.bl (!b),S)
noncomputable def Ez(f:D->D->Option Bool)(x:D):List D->Option Bool
 |[]=>Z J
 |y::ys=>(f y x).bind λb=>(Ez f x ys).map λc=>b||c
def Ls:G2:=λd e S=>(ee S e).bind λp=>(Ez (jm S eu) d p.2).map λb=>(.bl b,S)
def nh:G2:=λd e S=>(ee S e).bind λp=>(Ez (jm S eu) d p.2).map λb=>(.bl (!b),S)
noncomputable def rK:D->Bool
 | .non=>M
 |_=>J
def Oo:G2:=λd e S=>match e with
 | .non=>Z (.bl (rK d),S)
 |_=>Y
def GU:G2:=λd e S=>match e with
 | .non=>Z (.bl (!rK d),S)
 |_=>Y
section
theorem wM(l:X.A.units+64<QX):gU X (QQ .NotEq) (r2 X.K (b2 wV)):=by
 intro ag s σ H x y u w Q I i j h;obtain⟨mu,S,d,e,r,k,g,r2,c,a,hc⟩:=qo h;obtain⟨b,f,a⟩:=Ti a;cases a;exact JC I c eu (by show _+60<QX;lia) g r2 i j f X.prog X.w X.xe _ ⟨.bl (!b),H,I,O,hc.now (.bl _) c⟩
theorem Dd(f:D->D->Option Bool)(x:D):∀{ys:List D} {b:Bool},Ez f x ys=Z b -> ∃bs:List Bool,bs.length=ys.length/\(∀(j:Nat) (y:D) (k:Bool),ys[j]?=Z y->bs[j]?=Z k->f y x=Z k)/\b=bs.any id
 |[],b,h=>by cases h;exact⟨[],O,λj y k h=>by simp at h,O⟩
 |y::ys,b,h=>by
  rw[Ez]at h;obtain⟨b1,e,h⟩:=Th h;obtain⟨b2,l,h⟩:=Ti h;obtain⟨bs,i,g,a⟩:=Dd f x l;refine⟨b1::bs,by simp[i],λj m k c d=>?_,?_⟩
  ·cases j with
   |zero=>simp at c d;subst c;subst d;exact e
   |succ j=>exact g j m k (by simpa using c) (by simpa using d)
  ·rw[<- h,a];simp
open Classical in
theorem HP{ag:List (dB×Obj)}{σ:L2.St}{H:Hp}{s:dA}{mu:List dB}{S:Sto}(I:Inv X ag σ H s)(hs:Sim X.K H mu S){A:dE}(ao:A.units+61<QX){x:D}{v:V}{u:dz}(B:fg X.K H mu x v)(F:eg v u){ys:List D}{vs:List V}{a:List dz}{b:Bool}(p:d8 X.K H mu ys vs)(o:ez vs a)(h:Ez (jm S eu) x ys=Z b):∃e:dz->Bool,(∀w∈a,Rr A.in1 s w u (e w))/\a.any e=b:=by
 obtain⟨bs,aq,E,rfl⟩:=Dd _ x h;have L:=p.length;have G:=o.length;have at_:∀(j:Nat) w k,a[j]?=Z w->bs[j]?=Z k->Rr A.in1 s w u k:=λj w k g d=>by
  have m:j<a.length:=(Tg g).1;obtain⟨y,C,t⟩:=p.getV (i:=j) (v:=vs[j]'(by lia)) (gG1 (by lia));obtain⟨K,q,r2⟩:=o.get (i:=j) (x:=vs[j]'(by lia)) (gG1 (by lia));rw[g]at q;cases q;exact(lF I hs eu (A:=A.in1) (by show A.units+1+60<QX;lia) t B r2 F (E j y k C d)).1
 refine⟨λw=>decide (∃j:Nat,a[j]?=Z w/\bs[j]?=Z M),λw g=>?_,?_⟩
 ·by_cases z:∃j:Nat,a[j]?=Z w/\bs[j]?=Z M
  ·dsimp only;rw[ah z];obtain⟨j,n,c⟩:=z;exact at_ j w M n c
  ·dsimp only;rw[ai z];obtain⟨j,f⟩:=bq g;have m:j<a.length:=(Tg f).1;have l:j<bs.length:=by lia
   have c:=gG1 l;cases d:bs[j]with
   |true=>rw[d]at c;exact absurd ⟨j,f,c⟩ z
   |false=>rw[d]at c;exact at_ j w J f c
 ·rw[bS,bT,bT];constructor
  ·rintro⟨w,g,z⟩;obtain⟨j,n,c⟩:=RJ z;exact⟨M,gM1 c,O⟩
  ·rintro⟨k,d,z⟩;obtain⟨j,f⟩:=bq d;have m:j<bs.length:=(Tg f).1;have l:j<a.length:=by lia
   have r:k=M:=z;subst r;exact⟨a[j],bU l,ah ⟨j,gG1 l,f⟩⟩
theorem N9(E:X.A.units+64<QX):gU X (QQ .In) (r2 X.K (b2 Ls)):=by
 intro ag s σ H x y u w Q I B C h;obtain⟨mu,S,d,e,r,D,v,r2,k,g,hc⟩:=qo h;obtain⟨⟨m,ys⟩,n,g⟩:=Th g;obtain⟨b,p,g⟩:=Ti g;cases g;obtain⟨a,vs,rfl,q,t⟩:=d5 r2 k n;cases C;obtain⟨c,z,co,_⟩:=fh I q;obtain⟨f,l,o⟩:=HP I k (A:=X.A) (by lia) v B t z p;have i:EP X ag σ Q (.bool (c.toArray.any f)) s:=⟨.bl b,H,I,by rw[show c.toArray.any f=c.any f by simp,o];rfl,hc.now (.bl b) k⟩;cases m
 ·exact SeqAt.in_tupleAt f co (λy j=>l y (by simpa using j)) i
 ·exact SeqAt.in_listAt f co (λy j=>l y (by simpa using j)) i
theorem FY(E:X.A.units+64<QX):gU X (QQ .NotIn) (r2 X.K (b2 nh)):=by
 intro ag s σ H x y u w Q I B C h;obtain⟨mu,S,d,e,r,D,v,r2,k,g,hc⟩:=qo h;obtain⟨⟨m,ys⟩,n,g⟩:=Th g;obtain⟨b,p,g⟩:=Ti g;cases g;obtain⟨a,vs,rfl,q,t⟩:=d5 r2 k n;cases C;obtain⟨c,z,co,_⟩:=fh I q;obtain⟨f,l,o⟩:=HP I k (A:=X.A) (by lia) v B t z p;have i:EP X ag σ Q (.bool (!c.toArray.any f)) s:=⟨.bl (!b),H,I,by rw[show c.toArray.any f=c.any f by simp,o];rfl,hc.now (.bl _) k⟩;cases m
 ·exact SeqAt.notIn_tupleAt f co (λy j=>l y (by simpa using j)) i
 ·exact SeqAt.notIn_listAt f co (λy j=>l y (by simpa using j)) i
theorem yh{K:Fg1}{H:Hp}{mu:List dB}{d:D}{v:V}(r:fg K H mu d v):rK d=decide (v = .non):=by
 cases r<;>simp[rK]
theorem Mf:gU X (QQ .Is) (r2 X.K (b2 Oo)):=by
 intro ag s σ H x y u w Q I c f h;obtain⟨mu,S,d,e,r,i,b,r2,g,a,hc⟩:=qo h;cases e with
 |non=>
  cases a;cases r2;refine Js ag s σ H _ _ u w Q I c f ⟨O,?_⟩;rw[<- yh b];exact hc.now (.bl _) g
 |_=>cases a
theorem Jy:gU X (QQ .IsNot) (r2 X.K (b2 GU)):=by
 intro ag s σ H x y u w Q I c f h;obtain⟨mu,S,d,e,r,i,b,r2,g,a,hc⟩:=qo h;cases e with
 |non=>
  cases a;cases r2;refine FQ ag s σ H _ _ u w Q I c f ⟨O,?_⟩;rw[<- yh b];exact hc.now (.bl _) g
 |_=>cases a
end
def eM:G1:=λd S=>match d with
 | .str x=>if x.length<=dI then Z (.int x.length,S)else Y
 |_=>(ee S d).map λp=>(.int p.2.length,S)
def EC:G2:=λd e S=>match e with
 | .int i=>(ee S d).bind λp=>(xh p.2 i).map λx=>(x,S)
 |_=>Y
def gTup:G1:=λd S=>(ee S d).map λp=>(.tup p.2,S)
def GT:G1:=λd S=>(ee S d).map λp=>(.ref S.length,S++[.lst p.2])
def lD:G3:=λo i v S=>match o,i with
 | .ref n,.int k=>match S[n]? with
  |some (.lst xs)=>(Ag xs.length k).map λj=>(.non,S.set n (.lst (xs.set j v)))
  |_=>Y
 |_,_=>Y
noncomputable def D9:List D->Option Bool
 |[]=>Z M
 | .bl b::r=>(D9 r).map λc=>b&&c
 |_=>Y
def qy:G1:=λd S=>(ee S d).bind λp=>(D9 p.2).map λb=>(.bl b,S)
noncomputable def pI:G1:=λd S=>match d with
 | .int i=>Z (.int i,S)
 | .bl b=>Z (.int (if b then 1 else 0),S)
 |_=>Y
noncomputable def GR:G2:=λd e S=>match d,e with
 | .int i,.int j=>Z (.int (if j>i then j else i),S)
 |_,_=>Y
noncomputable def GQ:G2:=λd e S=>match d,e with
 | .int i,.int j=>Z (.int (if j<i then j else i),S)
 |_,_=>Y
theorem eR:fc X (.builtin "len") (rN X.K (b1 eM)):=by
 intro ag s σ H xs g Q I r h;obtain⟨x,mu,S,d,l,k,rfl,f,e,c,hc⟩:=BW h;unfold eM at c;split at c
 ·split at c
  ·rename_i z j;cases c;cases f;exact uf ag s σ H _ g Q I r ⟨_,O,j,hc.now (.int _) e⟩
  ·cases c
 ·obtain⟨⟨b,ys⟩,i,c⟩:=Ti c;cases c;obtain⟨a,vs,rfl,q,t⟩:=d5 f e i;refine ug ag s σ H _ g Q I r ⟨a,vs,O,?_,?_⟩
  ·cases b
   ·exact .inr q
   ·exact .inl q
  ·rw[<- t.length];exact hc.now (.int _) e
theorem Hj{K:Fg1}{H:Hp}{mu:List dB}{ds:List D}{vs:List V}{i:Int}{d:D}(t:d8 K H mu ds vs)(h:xh ds i=Z d):∃v,xh vs i=Z v/\fg K H mu d v:=by
 unfold xh at h ⊢;rw[<- t.length];obtain⟨j,b,h⟩:=Th h;obtain⟨v,a,c⟩:=t.get h;exact⟨v,by rw[b];exact a,c⟩
theorem NI:H7 X (r2 X.K (b2 EC)):=by
 intro value c ag s σ H x y v u Q I n o h g;obtain⟨mu,S,d,e,r,B,A,r2,j,f,hc⟩:=qo h;cases e with
 |int i=>
  obtain⟨⟨b,ys⟩,p,f⟩:=Th f;obtain⟨z,w,f⟩:=Ti f;cases f;cases r2;obtain⟨a,vs,rfl,q,t⟩:=d5 A j p;obtain⟨m,k,l⟩:=Hj t w;cases b
  ·exact Kx value c ag s σ H _ _ v u Q I n o ⟨a,vs,i,m,O,O,q,k,hc.now l j⟩ g
  ·exact GD value c ag s σ H _ _ v u Q I n o ⟨a,vs,i,m,O,O,q,k,hc.now l j⟩ g
 |_=>cases f
theorem e6:fc X (.type "tuple") (rN X.K (b1 gTup)):=by
 intro ag s σ H xs j Q I r h;obtain⟨x,mu,S,d,m,k,rfl,i,f,e,hc⟩:=BW h;obtain⟨⟨b,ys⟩,g,e⟩:=Ti e;cases e;obtain⟨a,vs,rfl,q,t⟩:=d5 i f g;refine qC ag s σ H _ j Q I r ⟨a,vs,O,?_⟩;cases b
 ·exact .inr ⟨q,hc.now (.tup q t) f⟩
 ·exact .inl ⟨q,λl c=>hc _ _ mu (Ext.fresh c) (.tup (kS.of eA) (t.ext (Ext.fresh c))) (f.fresh c)⟩
theorem K1:fc X (.type "list") (rN X.K (b1 GT)):=by
 intro ag s σ H xs j Q I r h;obtain⟨x,mu,S,d,m,k,rfl,i,e,c,hc⟩:=BW h;obtain⟨⟨b,ys⟩,g,c⟩:=Ti c;cases c;obtain⟨a,vs,rfl,q,t⟩:=d5 i e g;refine ue ag s σ H _ j Q I r ⟨a,vs,O,?_,λl f=>hc _ _ (mu++[l]) (Ext.new_ f) (.ref (gM e.len l)) (e.newL t f)⟩;cases b
 ·exact .inr q
 ·exact .inl q
theorem LQ:xr X (rU X.K (b3 lD)):=by
 intro ag s σ H o i v B q u Q I x m A h;obtain⟨mu,S,ds,d,D,l,f,a,hc⟩:=h;cases l with
 |cons z w=>cases w with
  |cons C r=>cases r with
   |cons p g=>
    cases g;rename_i E F G;dsimp only[b3]at a;unfold lD at a;split at a
    ·rename_i n k;split at a
     ·rename_i xs e;obtain⟨j,y,a⟩:=Ti a;cases a;cases z with
      |ref b=>
       cases C;obtain⟨vs,c,t⟩:=f.lst e b;refine BN ag s σ H _ _ v B q u Q I x m A ⟨_,vs,k,j,O,O,c,by rw[<- t.length];exact y,?_⟩;exact hc _ mu (Ext.put c trivial (gM1 b)) (f.putL (t.set p j) b c)
     ·cases a
    ·cases a
theorem Hm{K:Fg1}{H:Hp}{mu:List dB}:∀{ds:List D} {vs:List V} {a:List dz} {b:Bool},d8 K H mu ds vs->ez vs a->D9 ds=Z b -> ∃bs:List Bool,a=bs.map Qa/\b=bs.all id:=by
 intro ds
 induction ds with
 |nil=>intro vs a b r v h;cases r;cases v;cases h;exact⟨[],O,O⟩
 |cons d ds ih=>
  intro vs a b r v h;cases r with
  |cons i t=>
   cases v with
   |cons r j=>
    cases i
    case bl k=>
     obtain⟨c,e,h⟩:=Ti h;obtain⟨bs,f,g⟩:=ih t j e;cases r;exact⟨k::bs,by rw[f];rfl,by rw[<- h,g];rfl⟩
    all_goals cases h
theorem rn(bs:List Bool):(af bs.length).all (λi=>bs.getD i M)=bs.all id:=by
 rw[bS,bB,bB];constructor
 ·intro h b c;obtain⟨i,hi,rfl⟩:=List.mem_iff_getElem.mp c;have:=h i (aC.mpr hi);simpa[bJ,hi]using this
 ·intro h i hi;have a:=aC.mp hi;have:=h _ (bU a);simpa[bJ,a]using this
theorem wl{s:dA}{b:Bool}{a:dB}{bs:List Bool}(hc:X.A.handled=Y)(co:SCo b s.heap a (bs.map Qa).toArray){Q:dz->dA->Prop}(all:∀h' tk,(∀c o,s.heap.get? c=Z o->h'.get? c=Z o)->Q (.bool (bs.all id)) {s with heap:=h',toks:=tk}):dJ (Qm X.prog X.w) X.A (call (.builtin "all") [.ref a]) Q X.xe s:=by
 refine call_all_walk (jQ co ?_);have g:a<s.heap.objs.size:=by cases b<;>(obtain⟨o,e,_⟩:=co;exact hL1 e)
 have ne:a≠s.heap.objs.size:=nN1 g;have j:TruthOf X.prog X.w X.A.in1 (λi v=>(bs.map Qa).toArray[i]?=Z v) (λi=>bs.getD i M):=λi v s' n p m h=>by
  have f:(bs.map Qa)[i]?=Z v:=by simpa using m
  rw[gP1]at f;obtain⟨k,l,rfl⟩:=Ti f;dsimp only at h;rw[bJ,l]at h;exact Qr h
 have keep:∀(h':dM),(∀c o,c∉[s.heap.objs.size]->(s.heap.push (gF b a)).get? c=Z o->h'.get? c=Z o) -> ∀c o,s.heap.get? c=Z o->h'.get? c=Z o:=λh' d c o e=>
  d c o (by simpa using nN1 (hL1 e)) (hP1 _ e)
 have hi:(s.heap.push (gF b a)).get? s.heap.objs.size=Z (gF b a):=hS1 _ (by cases b<;>rfl);cases b with
 |true=>
  refine⟨s.heap.objs.size,_,_,_,_,_,_,O,Walks.list (A:=X.A.in1) hc s.heap.objs.size a ne (bs.map Qa).toArray,⟨⟨_,hi,O,O⟩,SCo.to (b:=M) co λo e=>hP1 _ e⟩,j,λh' tk d=>?_⟩;have e:(bs.map Qa).toArray.size=bs.length:=by simp
  rw[e,rn];exact all h' tk (keep h' d)
 |false=>
  refine⟨s.heap.objs.size,_,_,_,_,_,_,O,Walks.tuple (A:=X.A.in1) hc s.heap.objs.size a ne (bs.map Qa).toArray,⟨⟨_,hi,O,O⟩,SCo.to (b:=J) co λo e=>hP1 _ e⟩,j,λh' tk d=>?_⟩;have e:(bs.map Qa).toArray.size=bs.length:=by simp
  rw[e,rn];exact all h' tk (keep h' d)
theorem DX(hc:X.calm=M):fc X (.builtin "all") (rN X.K (b1 qy)):=by
 intro ag s σ H xs w Q I r h;obtain⟨x,mu,S,d,v,p,rfl,j,f,c,e⟩:=BW h;obtain⟨⟨b,ys⟩,g,c⟩:=Th c;obtain⟨k,l,c⟩:=Ti c;cases c;obtain⟨a,vs,rfl,q,t⟩:=d5 j f g;obtain⟨u,rfl,n⟩:=iP r;cases n;obtain⟨i,m,co,_⟩:=fh I q;obtain⟨bs,rfl,rfl⟩:=Hm t m l;exact wl (I.ok.hd hc) co λh' tk o=>⟨.bl _,H,I.kept o,O,e.now (.bl _) f⟩
theorem vV:fc X (.type "int") (rN X.K (b1 pI)):=by
 intro ag s σ H xs e Q I r h;obtain⟨x,mu,S,d,j,g,rfl,c,f,a,hc⟩:=BW h;cases d with
 |int i=>cases a;cases c;exact r9 ag s σ H _ e Q I r (.inl ⟨i,O,hc.now (.int _) f⟩)
 |bl b=>cases a;cases c;exact r9 ag s σ H _ e Q I r (.inr ⟨b,O,hc.now (.int _) f⟩)
 |_=>cases a
theorem M7(hc:X.calm=M):fc X (.builtin "max") (rN X.K (b2 GR)):=by
 intro ag s σ H xs f Q I r h;obtain⟨x,y,mu,S,d,e,j,i,rfl,c,r2,g,a,b⟩:=zJ h;unfold GR at a;split at a
 ·cases a;cases c;cases r2;exact AL hc ag s σ H _ f Q I r ⟨_,_,O,b.now (.int _) g⟩
 ·cases a
theorem M6(hc:X.calm=M):fc X (.builtin "min") (rN X.K (b2 GQ)):=by
 intro ag s σ H xs f Q I r h;obtain⟨x,y,mu,S,d,e,j,i,rfl,c,r2,g,a,b⟩:=zJ h;unfold GQ at a;split at a
 ·cases a;cases c;cases r2;exact AK hc ag s σ H _ f Q I r ⟨_,_,O,b.now (.int _) g⟩
 ·cases a
open PySem.SeqAt
open PySem.AutoSeq1 (wpAny_loadPart')
open PySem.MeetsSeq PySem.MeetsSeq2 PySem.MeetsSeq3
def Ht(A:dE)(s:dA)(y x:dz)(b:Bool):Prop:=∀(prog:dD) (w:dF) (E:dz->dA->Prop) (Q:dz->dA->Prop),Q (.bool b) s->dJ (Qm prog w) A (richCompare .Lt y x) Q E s
inductive AU (A:dE)(s:dA):List dz->List dz->Bool->Prop
 |nn:AU A s [] [] false
 |nc (y:dz) (ys:List dz):AU A s [] (y::ys) true
 |cn (x:dz) (xs:List dz):AU A s (x::xs) [] false
 |eq {x y:dz} {xs ys:List dz} {k:Bool} (e:EqAt A.in1 s x y true) (t:AU A s xs ys k):AU A s (x::xs) (y::ys) k
 |lt {x y:dz} {xs ys:List dz} {k:Bool} (e:EqAt A.in1 s x y false) (t:Ht A.in1 s x y k):AU A s (x::xs) (y::ys) k
theorem Il(l b:dB)(items items2:Array dz)(n B:Nat)(dd p:Option dB)(sl q:Array (Option dz))(c:Bool):
  Meets (Builtin.«tuple.__lt__» ⟨[.ref l,.ref b],[]⟩) (fun A R s=>s.heap.get? l=some {cls:=.type "tuple",dict:=dd,data:=.seq items n,slots:=sl}/\s.heap.get? b=some {cls:=.type "tuple",dict:=p,data:=.seq items2 B,slots:=q} /\
    AU A s items.toList items2.toList c/\R (.ok (.ret (.bool c))) s):=
 .of_wp λprog w A R s h=>by
  obtain⟨u,g,d,tk,v⟩:=s;obtain⟨C,E,D,h⟩:=h;have G:=AutoSeq1.sub_tuple_tuple
  wp_walk using wpAny_loadPart' C,wpAny_loadPart' E,Sc _ (λrest b s'=>b.1=Y/\s'=⟨u,g,d,tk,v⟩ /\ ∃vs ws:List dz,rest=vs.zip ws/\AU A ⟨u,g,d,tk,v⟩ vs ws c/\vs.length+items2.size=ws.length+items.size) _
  case turn=>
   rintro⟨y,x⟩ rest b s' ⟨k,rfl,vs,ws,f,r,a⟩;cases r with
   |nn=>cases f
   |nc _ _=>cases f
   |cn _ _=>cases f
   |eq e t=>
    rw[bV]at f;injection f with j i;injection j with m o;subst m o
    simp only[lC1]at a;refine wB1 (e prog w _ _ ?_)
    wp_walk
    exact⟨O,O,_,_,i,t,by lia⟩
   |lt e t=>
    rw[bV]at f;injection f with j i;injection j with m o;subst m o
    refine wB1 (e prog w _ _ ?_);have F:=t prog w
    wp_walk using F
    exact⟨_,O,by simpa using h⟩
  case fin=>
   rintro⟨b1,b2⟩ s' ⟨k,rfl,vs,ws,f,r,a⟩;simp only at k;subst k;have z:c=decide (items.size<items2.size):=by
    cases r with
    |nn=>simp only[bf]at a;exact(ai (by lia)).symm
    |nc _ _=>simp only[bf,lC1]at a;exact(ah (by lia)).symm
    |cn _ _=>simp only[bf,lC1]at a;exact(ai (by lia)).symm
    |eq _ _=>rw[bV]at f;cases f
    |lt _ _=>rw[bV]at f;cases f
   rw[z]at h
   wp_walk
   exact⟨_,O,by simpa[Builtin.Tuple.tupleCompareSizes]using h⟩
  case h=>exact⟨O,O,items.toList,items2.toList,O,D,by simp;lia⟩
theorem CZ(l b:dB)(items items2:Array dz)(n F:Nat)(dd v:Option dB)(sl z:Array (Option dz))(c:Bool)(k:Nat):
  ∀i:Nat,items.size-i=k->i<=items.size->i<=items2.size->Meets (Builtin.«list.__eq__.loop» ⟨[.ref l,.ref b,QK i,QK 0],[]⟩)
   (λA R s=>s.heap.get? l=Z {cls:=.type "list",dict:=dd,data:=.seq items n,slots:=sl}/\s.heap.get? b=Z {cls:=.type "list",dict:=v,data:=.seq items2 F,slots:=z} /\
    AU A s (items.toList.drop i) (items2.toList.drop i) c/\R (.ok (.ret (.bool c))) s):=by
 induction k with
 |zero=>
  intro i D B x prog w A R s h;obtain⟨E,g,d,tk,H⟩:=s;obtain⟨j,m,a,h⟩:=h
  wp_walk using wpAny_loadPart' j,wpAny_loadPart' m
  have p:items[((i:Nat):Int).toNat]?=Y:=by simp;lia
  have r:items.toList.drop i=[]:=by simp;lia
  rw[r]at a;rw[p]
  wp_walk using wpAny_loadPart' j,wpAny_loadPart' m
  have C:c=decide (items.size<items2.size):=by
   cases h2:items2.toList.drop i with
   |nil=>
    rw[h2]at a;cases a;have:=congrArg List.length h2;simp at this;exact(ai (by lia)).symm
   |cons y ys=>
    rw[h2]at a;cases a;have:=congrArg List.length h2;simp at this;exact(ah (by lia)).symm
  show R (.ok (.ret (.bool (decide (items.size<items2.size))))) _;rw[<- C];exact h
 |succ k ih=>
  intro i D B x prog w A R s h;obtain⟨E,g,d,tk,H⟩:=s;obtain⟨j,m,a,h⟩:=h;have o:i<items.size:=by lia
  have r:items.toList.drop i=items[i]::items.toList.drop (i+1):=by simp[List.drop_eq_getElem_cons,o]
  have p:items[((i:Nat):Int).toNat]?=Z items[i]:=by simp[o]
  have hc:((i:Int)+1)=((i+1:Nat):Int):=by push_cast;rfl
  rw[r]at a;rcases bW i items2.size with f|G
  ·have u:items2.toList.drop i=items2[i]::items2.toList.drop (i+1):=by simp[List.drop_eq_getElem_cons,f]
   have q:items2[((i:Nat):Int).toNat]?=Z items2[i]:=by simp[f]
   rw[u]at a
   wp_walk using wpAny_loadPart' j,wpAny_loadPart' m
   rw[p,q];cases a with
   |eq e t=>
    refine wB1 (e prog w _ _ ?_)
    wp_walk
    rw[hc];exact⟨Sd plain_eq_loop _,wD1 entry_eq_loop (by rw[Se plain_eq_loop _];exact ih (i+1) (by lia) (by lia) (by lia) prog w A R _ ⟨j,m,t,h⟩)⟩
   |lt e t=>
    refine wB1 (e prog w _ _ ?_);have I:=t prog w
    wp_walk using wpAny_loadPart' j,wpAny_loadPart' m
    rw[p,q]
    wp_walk using I
    simpa using h
  ·have q:items2[((i:Nat):Int).toNat]?=Y:=by simp;lia
   have u:items2.toList.drop i=[]:=by simp;lia
   rw[u]at a;cases a
   wp_walk using wpAny_loadPart' j,wpAny_loadPart' m
   rw[p,q]
   wp_walk using wpAny_loadPart' j,wpAny_loadPart' m
   show R (.ok (.ret (.bool (decide (items.size<items2.size))))) _;rw[ai (by lia)];exact h
theorem Kh(l b:dB)(items items2:Array dz)(n j:Nat)(dd a:Option dB)(sl e:Array (Option dz))(c:Bool):
  Meets (Builtin.«list.__lt__» ⟨[.ref l,.ref b],[]⟩) (fun A R s=>s.heap.get? l=some {cls:=.type "list",dict:=dd,data:=.seq items n,slots:=sl}/\s.heap.get? b=some {cls:=.type "list",dict:=a,data:=.seq items2 j,slots:=e} /\
    AU A s items.toList items2.toList c/\R (.ok (.ret (.bool c))) s):=by
 intro prog w A R s h;obtain⟨p,g,d,tk,m⟩:=s;obtain⟨i,f,k,h⟩:=h;have o:=AutoSeq1.sub_list_list
 wp_walk using wpAny_loadPart' i,wpAny_loadPart' f
 exact⟨Sd plain_eq_loop _,wD1 entry_eq_loop (by rw[Se plain_eq_loop _];exact CZ l b items items2 n j dd a sl e c _ 0 O (bi _) (bi _) prog w A R _ ⟨i,f,by simpa using k,h⟩)⟩
theorem II{A:dE}{s:dA}{k:Bool}{l b:dB}{xs ys:Array dz}{c:Bool}(z:SCo k s.heap l xs)(y:SCo k s.heap b ys)(B:A.units<QX)(h:AU A s xs.toList ys.toList c):Ht A s (.ref l) (.ref b) c:=λprog w E Q q=>by
 cases k
 ·obtain⟨⟨t,u,j,r⟩,p,hc,n,m⟩:=id z;obtain⟨⟨o,f,i,g⟩,a,e,v,d⟩:=id y;simp only at hc m e d;subst hc m e d;exact richCompare_meets_room (op:=.Lt) ⟨_,p,O⟩ ⟨_,a,O⟩ PySem.F.slot_tuple_lt PySem.F.entry_tuple_lt (PySem.F.args_tuple_lt_2 _ _) (Il l b xs ys n v u f r g c) ⟨p,a,h,show Qa c≠Value.notImplemented/\Q (.bool c) s from⟨(λx=>nomatch x),q⟩⟩ B
 ·obtain⟨⟨t,u,j,r⟩,p,hc,n,m⟩:=id z;obtain⟨⟨o,f,i,g⟩,a,e,v,d⟩:=id y;simp only at hc m e d;subst hc m e d;exact richCompare_meets_room (op:=.Lt) ⟨_,p,O⟩ ⟨_,a,O⟩ PySem.F.slot_list_lt PySem.F.entry_list_lt (PySem.F.args_list_lt_2 _ _) (Kh l b xs ys n v u f r g c) ⟨p,a,h,show Qa c≠Value.notImplemented/\Q (.bool c) s from⟨(λx=>nomatch x),q⟩⟩ B
noncomputable def Mt(f g:D->D->Option Bool):List D->List D->Option Bool
 |[],[]=>Z J
 |[],_::_=>Z M
 |_::_,[]=>Z J
 |x::xs,y::ys=>(f x y).bind λb=>if b=M then Mt f g xs ys else g x y
noncomputable def Od:D->D->Option Bool
 | .int i,.int j=>Z (decide (i<j))
 | .str x,.str y=>Z (decide (x.cps.toList<y.cps.toList))
 |_,_=>Y
def HJ(S:Sto):Nat->D->D->Option Bool
 |0,_,_=>Y
 |n+1,d,e=>match Od d e with
  |some b=>Z b
  |none=>match ee S d,ee S e with
   |some p,Z q=>if p.1=q.1 then Mt (jm S n) (HJ S n) p.2 q.2 else Y
   |_,_=>Y
def gLt:G2:=λd e S=>(HJ S eu d e).map λb=>(.bl b,S)
section
variable{ag:List (dB×Obj)}{σ:L2.St}{H:Hp}{s:dA}{mu:List dB}{S:Sto}
theorem Kg(I:Inv X ag σ H s)(hs:Sim X.K H mu S){n:Nat}{A:dE}(r:A.units+1+n<QX)(ih:∀ {d e:D} {v w:V} {u z:dz} {b:Bool},fg X.K H mu d v->fg X.K H mu e w->eg v u->eg w z->HJ S n d e=some b->Ht A.in1 s u z b):
  ∀{xs ys:List D} {vs ws:List V} {f zs:List dz} {b:Bool},d8 X.K H mu xs vs->d8 X.K H mu ys ws->ez vs f->ez ws zs->Mt (jm S n) (HJ S n) xs ys=Z b->AU A s f zs b
 :=by
 intro xs
 induction xs with
 |nil=>
  intro ys vs ws f zs b a r2 g c h;cases a;cases g;cases r2 with
  |nil=>cases c;cases h;exact .nn
  |cons _ _=>cases c;cases h;exact .nc _ _
 |cons x xs m=>
  intro ys vs ws f zs b a r2 g c h;cases a with
  |cons a q=>
   cases g with
   |cons j p=>
    cases r2 with
    |nil=>cases c;cases h;exact .cn _ _
    |cons r2 o=>
     cases c with
     |cons i p2=>
      rw[Mt]at h;obtain⟨k,l,h⟩:=Th h;have eq:=(lF I hs n (A:=A.in1) r a r2 j i l).1;cases k with
      |true=>exact .eq eq (m q o p p2 h)
      |false=>exact .lt eq (ih a r2 j i h)
theorem CY(I:Inv X ag σ H s)(hs:Sim X.K H mu S):∀(n:Nat) {A:dE} {d e:D} {v w:V} {u z:dz} {b:Bool},A.units+n<QX->fg X.K H mu d v->fg X.K H mu e w->eg v u->eg w z->HJ S n d e=Z b->Ht A s u z b
 |0,_,_,_,_,_,_,_,_,_,_,_,_,_,h=>by cases h
 |n + 1,A,d,e,v,w,u,z,b,U,f,l,m,g,h=>by
  rw[HJ]at h;split at h
  ·rename_i k c;cases h;unfold Od at c;split at c
   ·cases c;cases f;cases l;obtain⟨t,rfl⟩:=m;obtain⟨r,rfl⟩:=g;exact λprog w E Q q=>(PyProof.Rows.lt_int q:dJ (Qm prog w) A (QQ .Lt (.int _ t) (.int _ r)) Q E s)
   ·cases c;cases f;cases l;obtain⟨t,rfl⟩:=m;obtain⟨r,rfl⟩:=g;exact λprog w E Q q=>(PyProof.Rows.lt_str q:dJ (Qm prog w) A (QQ .Lt (.str _ t) (.str _ r)) Q E s)
   ·cases c
  ·split at h
   ·rename_i p q G av;split at h
    ·rename_i aq;obtain⟨K,xs⟩:=p;obtain⟨qb,ys⟩:=q;have o:K=qb:=aq;subst o;obtain⟨a,vs,rfl,L,ao⟩:=d5 f hs G;obtain⟨a2,N,rfl,T,F⟩:=d5 l hs av;cases m;cases g;obtain⟨B,P,co,_⟩:=fh I L;obtain⟨x,j,i,_⟩:=fh I T;refine II co i (by lia) ?_;have:=Kg I hs (A:=A) (n:=n) (by lia) (λC r2 y R h=>CY I hs n (A:=A.in1) (by show A.units+1+n<QX;lia) C r2 y R h) ao F P j h;simpa using this
    ·cases h
   ·cases h
theorem lf(l:X.A.units+64<QX):gU X (QQ .Lt) (r2 X.K (b2 gLt)):=by
 intro ag s σ H x y u w Q I i j h;obtain⟨mu,S,d,e,r,k,g,r2,c,a,hc⟩:=qo h;obtain⟨b,f,a⟩:=Ti a;cases a;exact CY I c eu (by show _+60<QX;lia) g r2 i j f X.prog X.w X.xe _ ⟨.bl b,H,I,O,hc.now (.bl b) c⟩
end
inductive Ty where
 |int|bool|str|tuple|list|dict
 deriving DecidableEq
noncomputable def Ty.nm:Ty->String
 | .int=>"int" | .bool=>"bool" | .str=>"str" | .tuple=>"tuple" | .list=>"list" | .dict=>"dict"
noncomputable def vj (S:Sto)(T:Ty):D->Option Bool
 | .non=>some false
 | .bl _=>some (decide (T = .bool)||decide (T = .int))
 | .int _=>some (decide (T = .int))
 | .str _=>some (decide (T = .str))
 | .tup _=>some (decide (T = .tuple))
 | .rol _=>some (decide (T = .list))
 | .ref n=>match S[n]? with
  |some (.lst _)=>some (decide (T = .list))
  |some (.dct _)=>some (decide (T = .dict))
  |some (.dcT _)=>some (decide (T = .dict))
  |_=>none
 | .fn _=>none
def tI(T:Ty)(m:FE):FE:=λr S=>(m r S).bind λp=>(vj p.2 T p.1).map λb=>(.bl b,p.2)
section
variable{ag:List (dB×Obj)}{σ:L2.St}{H:Hp}{s:dA}{mu:List dB}{S:Sto}{K:Fg1}
theorem Gz(T:Ty):QU K (.type "NoneType") (.type T.nm)=Z J:=by cases T<;>rfl
theorem Kq(T:Ty):QU K (.type "bool") (.type T.nm)=Z (decide (T = .bool)||decide (T = .int)):=by cases T<;>rfl
theorem GB(T:Ty):QU K (.type "int") (.type T.nm)=Z (decide (T = .int)):=by cases T<;>rfl
theorem Gy(T:Ty):QU K (.type "str") (.type T.nm)=Z (decide (T = .str)):=by cases T<;>rfl
theorem Gx(T:Ty):QU K (.type "tuple") (.type T.nm)=Z (decide (T = .tuple)):=by cases T<;>rfl
theorem GA(T:Ty):QU K (.type "list") (.type T.nm)=Z (decide (T = .list)):=by cases T<;>rfl
theorem yx(T:Ty):QU K (.type "dict") (.type T.nm)=Z (decide (T = .dict)):=by cases T<;>rfl
theorem GH{T:Ty}{d:D}{v:V}{u:dz}{b:Bool}{Q:dz->dA->Prop}{E:dz->dA->Prop}(I:Inv X ag σ H s)(hs:Sim X.K H mu S)(r:fg X.K H mu d v)(f:eg v u)(h:vj S T d=some b)(q:∀ tk,Q (.bool b) {s with toks:=tk}):
  dJ (Qm X.prog X.w) X.A (call (.builtin "isinstance") [u,.type T.nm]) Q E s:=by
 have j:∀{k:Bool} {a:dB} {vs:List V},ul X.K k H a vs->b=(match k with|true=>decide (T = .list)|false=>decide (T = .tuple))->dJ (Qm X.prog X.w) X.A (call (.builtin "isinstance") [.ref a,.type T.nm]) Q E s:=λ{k a vs} g p=>by
  obtain⟨y,B,co,_⟩:=fh I g;cases k
  ·obtain⟨o,e,c,_⟩:=co;subst p;exact QV PySem.W.kitx_tuple I.kIn ⟨o,e,c⟩ (Gx T) (λz=>nomatch z) q
  ·obtain⟨o,e,c,_⟩:=co;subst p;exact QV PySem.W.kitx_list I.kIn ⟨o,e,c⟩ (GA T) (λz=>nomatch z) q
 cases d with
 |non=>cases h;cases r;exact jj I f .non (Gz T) q
 |bl k=>cases h;cases r;exact jj I f (.bl k) (Kq T) q
 |int i=>cases h;cases r;exact jj I f (.int i) (GB T) q
 |str x=>cases h;cases r;exact jj I f (.str x) (Gy T) q
 |tup xs=>
  cases h;obtain⟨a,vs,rfl,g,t⟩:=d5 (S:=S) r hs O;cases f;exact j g O
 |fn x=>cases h
 |rol xs=>
  cases h;obtain⟨a,vs,rfl,g,t⟩:=d5 (S:=S) r hs O;cases f;exact j g O
 |ref n=>
  rw[vj]at h;split at h
  ·rename_i xs e;cases h;obtain⟨a,vs,rfl,g,t⟩:=d5 (S:=S) r hs (by rw[ee,e]);cases f;exact j g O
  ·rename_i ks e;cases h;cases r with
   |ref m=>
    obtain⟨ws,l,_⟩:=hs.dct e m;exact jj I f (.dK l) (yx T) q
  ·rename_i ks e;cases h;cases r with
   | @ref _ a m=>
    cases(show u=Qb a from f);obtain⟨ws,l,_⟩:=hs.dcT e m;obtain⟨⟨_,_,o,_,_,A,w,_⟩,_⟩:=(show e9 X.prog X.w H s.heap a (.ext (kq a ws))from I.hok a _ l);exact QV PySem.W.kitx_dict I.kIn ⟨o,A,w.1⟩ (yx T) (λz=>nomatch z) q
  ·cases h
theorem DW(T:Ty):fc X (.builtin "isinstance") (λxs H Q=>∃x mu S d b,xs=[x,.ty T.nm]/\fg X.K H mu d x/\Sim X.K H mu S/\vj S T d=Z b/\Q (.bl b) H):=by
 intro ag s σ H xs i Q I r h;obtain⟨x,mu,S,d,b,rfl,c,f,a,hc⟩:=h;obtain⟨u,g,rfl,e,rt⟩:=Ba r;cases rt;exact GH I f c e a λtk=>⟨.bl b,H,I.tok tk,O,hc⟩
theorem zY (T:Ty){e:Expr}{m:FE}{nm:Str}{p p2 pos:Pos}(hg:Gl X "isinstance")(hm:X.mg "isinstance"=none)(hg2:Gl X nm)(hm2:X.mg nm=none)(hv2:Qg nm=some (.type T.nm))(h:ME X e m)
  (hn:autoParam (nm≠"__name__") bu0) (hd:autoParam ((nm == ("__debug__":Str))=J) bu0)
  (hs1:autoParam (dH [e,.Name nm p2] X.env=(J,eval e X.env)::dH [.Name nm p2] X.env) cu0) (hs2:autoParam (dH [.Name nm p2] X.env=(J,eval (.Name nm p2) X.env)::dH [] X.env) cu0)
  (hpl:autoParam ((Qn pos (dH [.Name nm p2] X.env)).any (·.1)=J) cu0):ME X (.Call (.Name "isinstance" p) [e,.Name nm p2] [] pos) (tI T m):=
 eX (l6 (DW T) hg hm (by decide+kernel) (iR h (iR (FM (v:=.ty T.nm) hg2 hm2 hv2 O hn hd) lC hs2) hs1) (by decide) (by decide) hs1 hpl) <| by
  rintro σ H Q ⟨r,mu,S,d,n,g,l,hm,hc⟩;obtain⟨⟨a,o⟩,f,hm⟩:=Th hm;obtain⟨b,i,hm⟩:=Ti hm;cases hm;refine⟨r,mu,S,a,_,g,l,f,λv H1 mu1 k j c=>?_⟩;exact⟨v,mu1,_,a,b,O,j,c,i,hc _ H1 mu1 k (.bl b) c⟩
end
abbrev FO:=Ev->Sto->Option (Option Int×Sto)
noncomputable def Pc(K:Fg1)(m:FO):TO:=fun σ H Q=>∃r mu S o S',fT K H mu r σ/\Sim K H mu S/\m r S=Z (o,S') /\ ∀H' mu',Ext mu mu' H H'->Sim K H' mu' S'->Q o H'
abbrev MO(X:Cx)(e:Option Expr)(m:FO):Prop:=PO X e (Pc X.K m)
noncomputable def jf:FO:=λ_ S=>Z (Y,S)
noncomputable def jE(m:FE):FO:=λr S=>(m r S).bind λp=>match p.1 with
 | .int i=>Z (Z i,p.2)
 |_=>Y
def mD(xs:List D)(lo hi:Option Int):List D:=(xs.drop (HT.sIx xs.length 0 lo)).take (HT.sIx xs.length xs.length hi-HT.sIx xs.length 0 lo)
theorem Ga:MO X Y jf:=by
 rintro ag s σ H Q I ⟨r,mu,S,o,d,c,a,b,hc⟩;cases b;exact Fx ag s σ H Q I (hc H mu (.refl _ _) a)
theorem F9{e:Expr}{m:FE}(h:ME X e m):MO X (Z e) (jE m):=by
 rintro ag s σ H Q I ⟨r,mu,S,o,l,c,k,a,hc⟩;obtain⟨⟨d,n⟩,b,a⟩:=Th a;cases d with
 |int i=>
  cases a;refine Fw h ag s σ H Q I ⟨r,mu,S,_,_,c,k,b,λv H1 mu1 j g f=>?_⟩;cases g;exact⟨i,O,hc H1 mu1 j f⟩
 |_=>cases a
theorem yV{K:Fg1}{H:Hp}{mu:List dB}{ds:List D}{vs:List V}(t:d8 K H mu ds vs)(lo hi:Option Int):d8 K H mu (mD ds lo hi) (vK vs lo hi):=by
 unfold mD vK;rw[<- t.length];exact(t.drop _).take _
def LD(ta:TA):TE:=fun σ H Q=>ta σ H λvs H1=>∃j:Int,vs=[.int j] /\ ∀p,H1 p=Y->Q (.ref p) (upd H1 p (.rng 0 j))
theorem zO {a:Expr}{ta:TA}{p pos:Pos}(hg:Gl X "range")(hm:X.mg "range"=Y)(ha:PA X [a] ta)(hs:autoParam (dH [a] X.env=[(J,eval a X.env)]) cu0):PE X (.Call (.Name "range" p) [a] [] pos) (LD ta):=by
 intro ag s σ H Q I h;refine Call_ (j2 I hg hm boot_range (QN (fx (ha pos ag s σ H _ I h) λk f ⟨vs,H1,c,d,i⟩=>?_) hs O));obtain⟨j,e,q⟩:=i;subst e;cases d with
 |cons r g=>
  cases g;obtain⟨t,rfl⟩:=r;refine call_range_1 ⟨.ref f.heap.objs.size,_,c.laid (λb o e=>hP1 _ e) (nR1 _) (o:=.rng 0 j) ?_,O,q _ (c.hok.fresh (nR1 _))⟩;exact⟨_,_,_,hS1 _ O⟩
noncomputable def nV(i:Int):Nat->List V
 |0=>[]
 |n+1=>.int i::nV (i+1) n
theorem oX:∀(n:Nat) (i:Int),(nV i n).length=n
 |0,_=>rfl
 |n+1,i=>by rw[nV,lC1,oX n]
theorem uI:∀(n:Nat) (i:Int) (k:Nat) (v:V),(nV i n)[k]?=Z v->v = .int (i+k)
 |0,i,k,v,h=>by simp[nV]at h
 |n+1,i,0,v,h=>by simp[nV]at h;rw[<- h];simp
 |n+1,i,k+1,v,h=>by
  rw[nV,gC1]at h;rw[uI n (i+1) k v h,show i+1+(k:Int)=i+((k+1:Nat):Int) by push_cast;lia]
theorem uH{K:Fg1}{H:Hp}{mu:List dB}:∀(n:Nat) (i:Int),d8 K H mu (gi i n) (nV i n)
 |0,_=>.nil
 |n+1,i=>.cons (.int i) (uH n (i+1))
theorem xH:∀{xs:List V} {a:List dz},xs.length=a.length->(∀(i:Nat) x u,xs[i]?=Z x->a[i]?=Z u->eg x u)->ez xs a
 |[],[],_,_=>.nil
 |x::xs,u::a,h,f=>.cons (f 0 x u O O) (xH (by simpa using h) λi y w h1 h2=>f (i+1) y w (by simpa using h1) (by simpa using h2))
 |[],_::_,h,_=>by simp at h
 |_::_,[],h,_=>by simp at h
theorem Hc(hc:X.calm=M):fc X (.type "list") (λxs H Q=>∃p i j,xs=[.ref p]/\H p=Z (.rng i j)/\(-(2^62)<=i/\i<2^62 /\ -(2^62)<=j/\j<2^62)/\(j-i).toNat<=2^20 /\ ∀l,H l=Y->Q (.ref l) (upd H l (.lst (nV i (j-i).toNat)))):=by
 intro ag s σ H xs F Q I r h;obtain⟨p,i,j,rfl,A,⟨h1,h2,C,o⟩,f,q⟩:=h;obtain⟨u,rfl,z⟩:=iP r;cases z;obtain⟨t,u,v,e⟩:=I.hok p _ A;have y:(((j-i).toNat:Nat):Int)=Builtin.Range.rangeSize i j 1:=by rw[rangeSize_one];split<;>lia
 refine call_list_range (n:=(j-i).toNat) (I.ok.hd hc) e (small_one h1 h2 C o) y.symm (aD f (by decide)) λh' tk c g B w hi=>?_;obtain⟨d,a⟩:=hi;have b:ez (nV i (j-i).toNat) c.toList:=xH (by rw[oX];simpa using d.symm) λk x u D E=>by
  rw[uI _ _ _ _ D];obtain⟨m,rfl⟩:=a k u (by simpa using E);exact⟨m,by rw[Int.mul_one]⟩
 refine⟨.ref s.heap.objs.size,_,I.laid (t':=tk) B (nR1 _) (show e9 X.prog X.w _ h' _ (.lst (nV i (j-i).toNat))from⟨?_,c.toList,g,b,by simpa using w⟩),O,q _ (I.hok.fresh (nR1 _))⟩;rw[oX];exact aD f (by decide)
noncomputable def uK(i j:Int):Bool:=decide (-(2^62)<=i)&&decide (i<2^62)&&decide (-(2^62)<=j)&&decide (j<2^62)&&decide ((j-i).toNat<=2^20)
def Aa(m:FA):FE:=λr S=>(m r S).bind λp=>match p.1 with
 |[.int j]=>if uK 0 j=M then Z (.ref p.2.length,p.2++[.lst (gi 0 j.toNat)])else Y
 |_=>Y
theorem uJ{i j:Int}(h:uK i j=M):(-(2^62)<=i/\i<2^62 /\ -(2^62)<=j/\j<2^62)/\(j-i).toNat<=2^20:=by
 unfold uK at h;simp only[bA1,am]at h;obtain⟨⟨⟨⟨h1,h2⟩,b⟩,c⟩,a⟩:=h;exact⟨⟨h1,h2,b,c⟩,a⟩
theorem Ki{K:Fg1}{mu:List dB}{H H1:Hp}{S1:Sto}{i j:Int}{Q:VK}{mu1:List dB}(c:Ext mu mu1 H H1)(a:Sim K H1 mu1 S1)(hc:ur K mu H (.ref S1.length) (S1++[.lst (gi i (j-i).toNat)]) Q){p l:dB}(hp:H1 p=none)(b:upd H1 p (.rng i j) l=none):
  Q (.ref l) (upd (upd H1 p (.rng i j)) l (.lst (nV i (j-i).toNat))):=
 hc _ _ (mu1++[l]) ((c.trans (Ext.fresh hp)).trans (Ext.new_ b)) (.ref (gM a.len l)) ((a.fresh hp).newL (uH _ _) b)
theorem zX {a:Expr}{m:FA}{f p2 b c:Pos}(hc:X.calm=true)(hg:Gl X "range")(hm:X.mg "range"=none)(hg2:Gl X "list")(hm2:X.mg "list"=none)(ha:MA X [a] m)(hs:autoParam (dH [a] X.env=[(false,eval a X.env)]) cu0)
  (hs2:autoParam (dH [.Call (.Name "range" f) [a] [] b] X.env=[(J,eval (.Call (.Name "range" f) [a] [] b) X.env)]) cu0):ME X (.Call (.Name "list" p2) [.Call (.Name "range" f) [a] [] b] [] c) (Aa m):=
 eX (kE (Hc hc) hg2 hm2 (by decide+kernel) (iR (zO hg hm ha hs) lC hs2) (by decide) (by decide) hs2) <| by
  rintro σ H Q ⟨r,mu,S,d,u,k,hs,hm,e⟩;obtain⟨⟨ds,w⟩,h,hm⟩:=Th hm;dsimp only at hm;split at hm
  ·rename_i j;split at hm
   ·rename_i g;cases hm;refine⟨r,mu,S,_,_,k,hs,h,λvs H1 mu1 s o n=>?_⟩;obtain⟨v,rfl,q⟩:=oY o;cases q;refine⟨j,O,λp t=>⟨p,0,j,O,eA,(uJ g).1,(uJ g).2,λl i=>Ki s n (by rw[Int.sub_zero];exact e) t i⟩⟩
   ·cases hm
  ·cases hm
noncomputable def iX:G2:=λo v S=>match o with
 | .ref n=>match S[n]? with
  |some (.lst xs)=>if xs.length<dI then Z (.non,S.set n (.lst (xs++[v])))else Y
  |_=>Y
 |_=>Y
def Ao:G2:=λo i S=>match o,i with
 | .ref n,.int k=>match S[n]? with
  |some (.lst xs)=>if-(2^63)<=k/\k<2^63 then(Ag xs.length k).bind λj=>(xs[j]?).map λy=>(y,S.set n (.lst (xs.eraseIdx j)))else Y
  |_=>Y
 |_,_=>Y
noncomputable def pr (f:FN)(o:FE)(a:FA):FE:=λr S=>(o r S).bind λp=>match p.1 with
 | .ref n=>match p.2[n]? with
  |some (.lst _)=>(a r p.2).bind λq=>f (p.1::q.1) q.2
  |_=>none
 |_=>none
theorem LB:Et X "list.append" (λx xs H Q=>rN X.K (b2 iX) (x::xs) H Q):=by
 intro ag s σ H x xs v i Q I o k h;obtain⟨q,y,mu,S,d,e,r,p,l,j,r2,f,a,hc⟩:=zJ h;cases l;cases d with
 |ref n=>
  rw[iX]at a;split at a
  ·rename_i ys m;split at a
   ·rename_i g;cases a;cases j with
    |ref c=>
     obtain⟨vs,b,t⟩:=f.lst m c;refine rA ag s σ H _ [y] v i Q I o k ⟨_,vs,y,O,O,b,by rw[<- t.length];exact g,?_⟩;exact hc _ _ mu (Ext.put b trivial (gM1 c)) .non (f.putL (t.append (.cons r2 .nil)) c b)
   ·cases a
  ·cases a
 |_=>cases a
theorem HA:Et X "list.pop" (λx xs H Q=>rN X.K (b2 Ao) (x::xs) H Q):=by
 intro ag s σ H x xs v l Q I r o h;obtain⟨E,y,mu,S,d,e,F,D,p,m,r2,i,a,hc⟩:=zJ h;cases p;unfold Ao at a;split at a
 ·rename_i n k;split at a
  ·rename_i ys q;split at a
   ·rename_i g;obtain⟨j,B,a⟩:=Th a;obtain⟨z,A,a⟩:=Ti a;cases a;cases m with
    |ref f=>
     cases r2;obtain⟨vs,c,t⟩:=i.lst q f;obtain⟨w,C,b⟩:=t.get A;refine CD ag s σ H _ [.int k] v l Q I r o ⟨_,vs,k,j,w,O,O,c,g.1,g.2,?_,C,?_⟩
     ·rw[<- t.length];exact(tP B).1
     ·have x:=Ext.put (u:=.lst (vs.eraseIdx j)) c trivial (gM1 f);exact hc _ _ mu x (b.ext x) (i.putL (t.eraseIdx j) f c)
   ·cases a
  ·cases a
 ·cases a
theorem CO {o e:Expr}{es:List Expr}{m:FE}{a:FA}{f:FN}{name:Str}{apos cpos:Pos}{id:String}(slot:Slot "list" name id)(hty:typeOf (.builtin id)=pure (.type "method_descriptor"))(hm:Et X id (fun x xs H Q=>rN X.K f (x::xs) H Q))(ho:ME X o m)(ha:MA X (e::es) a)
  (hbase:autoParam (Rs o name X.env (eval o X.env)=eval o X.env) cu0)
  (hfew:autoParam (((Qn cpos (dH (e::es) X.env)).all (λx=> !x.1)&&(Rt cpos (Ru [] X.env)).all (λx=>x.1.isSome)&&decide ((e::es).length+([]:List Q1).length+(if([]:List Q1).isEmpty then 0 else 1)<30))=M) cu0)
  (hline:autoParam ((apos.endLine == cpos.line)=M) cu0) (hs:autoParam (dH (e::es) X.env=(J,eval e X.env)::dH es X.env) cu0) (hplain:autoParam ((Qn cpos (dH es X.env)).any (·.1)=J) cu0):
  ME X (.Call (.Attribute o name apos) (e::es) [] cpos) (pr f m a):=
 eX (L9 PySem.F.plainAttrs_list slot hty hm ho ha hbase hfew hline hs hplain) <| by
  rintro σ H Q ⟨r,mu,S,d,z,k,hs,hm,hc⟩;obtain⟨⟨g,q⟩,D,hm⟩:=Th hm;refine⟨r,mu,S,g,q,k,hs,D,λv H1 mu1 p h l=>?_⟩;cases g with
  |ref n=>
   dsimp only at hm;split at hm
   ·rename_i xs E;obtain⟨⟨ds,j⟩,A,hm⟩:=Th hm;refine⟨?_,r,mu1,q,ds,j,k.ext p,l,A,λvs H2 c i r2 B=>?_⟩
    ·cases h with
     |ref s=>
      obtain⟨vs,C,t⟩:=l.lst E s;exact .inl ⟨O,vs,nq.of C⟩
    ·exact⟨c,j,.ref n::ds,d,z,.cons (h.ext i) r2,B,hm,λw y b u=>hc w y b ((p.trans i).trans u)⟩
   ·cases hm
  |_=>cases hm
theorem x2{X:Cx}(hc:X.calm=true){elt tg iter:Expr}{ifs:List Expr}{rest:List Comprehension}{scope:dQ}{pos k aq:Pos}{y:Str}{i:Nat}{T:List Str}{keep:List Nat}{n:List (Str×dB)}{wi:TI}{g:TG}{ti:TT}{tb:dB->TS}{emit:dz->Env->Sem Unit}(S:Qu (.ListComp elt (⟨tg,iter,ifs,0⟩::rest) scope pos) (some (.Name y aq)) k.line X.env=pure true)(eq:∀it w j,RM (.ListComp elt (⟨tg,iter,ifs,0⟩::rest) scope pos) 0 it w j=lP iter.pos tg ifs it j (emit w j) (.compLoop (.ListComp elt (⟨tg,iter,ifs,0⟩::rest) scope pos) 0 it w j))(C:Lw X scope T keep)(B:j8 X.env.cells scope.names []=some n)(hi:PI X tg iter wi)(hb:∀s H fp p,PG (cxC X scope n T keep s H fp) tg g/\qi (cxC X scope n T keep s H fp) ifs ti/\PU (cxC X scope n T keep s H fp) (emit (.ref p) (cxC X scope n T keep s H fp).env) (tb p))(hN:X.N.Nodup)(hy:X.N[i]?=some y)(hx:v9 X.env.scope y)(hf:X.fn y=true\/X.env.scope.names.lookup y=some .local)(hs:autoParam (∀x,QO iter X.env x=pure x) du0):
  PS X (.Assign [.Name y aq] (.ListComp elt (⟨tg,iter,ifs,0⟩::rest) scope pos) k) (Bt (Bq T.length keep wi g ti tb) (yI i)):=by
 intro ag s σ H D I h;rw[exec_Assign_Name_used _ _ _ _ S];refine wB1 (QB (wB1 ?_));show dJ _ X.A (do let _<-comprehension (.ListComp elt (⟨tg,iter,ifs,0⟩::rest) scope pos) scope X.env _ (newList []) J (eval iter X.env) (Z (Qv (.Name y aq) X.env))) _ _ s;refine wB1 (Qo (wpAny_comprehension_free (use:=Z (Qv (.Name y aq) X.env)) (Q:=λ_ s'=>SP X ag D .next s') O hs (DQ B) C.kind C.names ?_) (λ_ s' hq=>wP1 (wP1 hq)) λ_ _ e=>e);refine fx (hi ag s σ H _ I h) λv s1 h1=>fx h1 λitv a h2=>?_;obtain⟨it,fp,tn,ao,H2,rfl,I2,TT,F,f2,q2⟩:=h2;refine wO1 ?_;have t:Inv X ag σ (upd H2 a.heap.objs.size (.lst [])) {a with heap:=a.heap.push {cls:=.type "list",data:=.seq ([]:List dz).toArray}}:=I2.lnew (t':=a.toks) .nil (bi _);have old:∀b∈fp,∃o,a.heap.get? b=Z o:=λb hb=>by
  obtain⟨o,e,_⟩:=TT.obj 0 a.heap F b hb;exact⟨o,e⟩
 have W:∀b∈fp,b≠a.heap.objs.size:=λb hb z=>by
  obtain⟨o,e⟩:=old b hb;have:=hL1 e;rw[z]at this;exact aA _ this
 have N:∀b∈fp,kX X ag (upd H2 a.heap.objs.size (.lst [])) b:=λb hb=>⟨by rw[eo (W b hb)];exact(f2 b hb).1,(f2 b hb).2⟩;have o3:∀b∈fp,∃o,({a with heap:=a.heap.push {cls:=.type "list",data:=.seq ([]:List dz).toArray}}:dA).heap.get? b=Z o:=λb hb=>by
  obtain⟨o,e⟩:=old b hb;exact⟨o,hP1 _ e⟩
 have av:=vm t C B N o3;obtain⟨hg,V,he⟩:=hb {a with heap:=a.heap.push {cls:=.type "list",data:=.seq ([]:List dz).toArray}} (upd H2 a.heap.objs.size (.lst [])) fp a.heap.objs.size;refine lh ?_;have f4:∀b∈fp,kX (cxC X scope n T keep {a with heap:=a.heap.push {cls:=.type "list",data:=.seq ([]:List dz).toArray}} (upd H2 a.heap.objs.size (.lst [])) fp) [] (upd H2 a.heap.objs.size (.lst [])) b:=λb hb=>
  ⟨(N b hb).1,(av.ok.exf b hb).1,av.ok.exfs b hb,.inl hb,(av.ok.exf b hb).2,λp K=>absurd (show p∈([]:List (dB×Obj))from K) (by simp)⟩
 have L:tn 0 (pushCells ((a.heap.push {cls:=.type "list",data:=.seq ([]:List dz).toArray}).push {cls:=.type "dict",data:=.dict #[]}) scope.names):=
  TT.keep 0 a.heap _ F λb hb o e=>RL scope.names _ b o (hP1 _ (hP1 _ e))
 have l:=np (X:=cxC X scope n T keep {a with heap:=a.heap.push {cls:=.type "list",data:=.seq ([]:List dz).toArray}} (upd H2 a.heap.objs.size (.lst [])) fp) O hc (eq (.ref it) (.ref a.heap.objs.size) _) TT hg V he av L f4
  (q2 a.heap.objs.size (I2.hok.fresh (nR1 _)))
 refine QZ (codeAny_compStart_list l (TT.self X.A 0 _ _ _ L l)) λr s' wq=>?_;cases r with
 |error e=>exact wq.elim
 |ok f=>
  obtain⟨σ',H',A,q'⟩:=wq;have J1:Inv X ag σ H' s':=t.call' (s':=s') (ch:=fp) A.os A.base A.hok A.bare λb hb=>(N b hb).2.2.2 |> λz=>⟨z.1,(N b hb).2.1,z.2.1,z.2.2⟩
  -- the block's own dict is kept aside
  obtain⟨m,hn,_⟩:=id A.loc;obtain⟨P,es,ep,eC,dC,rC⟩:=id hn;have hCz:(a.heap.push {cls:=.type "list",data:=.seq ([]:List dz).toArray}).get? (a.heap.push {cls:=.type "list",data:=.seq ([]:List dz).toArray}).objs.size=Y:=Qi (nR1 _);have E:(a.heap.push {cls:=.type "list",data:=.seq ([]:List dz).toArray}).objs.size≠X.env.locals:=λz=>by
   have:=t.lt;rw[<- z]at this;exact aA _ this
  have U:H' (a.heap.push {cls:=.type "list",data:=.seq ([]:List dz).toArray}).objs.size=Y:=A.free;have J2:Inv X (ag++[((a.heap.push {cls:=.type "list",data:=.seq ([]:List dz).toArray}).objs.size,P)]) σ H' s':=J1.pins_of λp K=>by
   rcases aG.mp K with z|z
   ·exact J1.pin p (mA1 _ z)
   ·have z':p=((a.heap.push {cls:=.type "list",data:=.seq ([]:List dz).toArray}).objs.size,P):=by simpa using z
    subst z';exact⟨eC,U,E,t.nofs (nR1 _),λv q=>by rw[dC]at q;cases q⟩
  refine fx (yb hN hy hx hf _ s' σ H' (.ref a.heap.objs.size) (.ref a.heap.objs.size) D.nx J2 O q') λ_ s5 ⟨G,H5,J5,q5⟩=>?_;obtain⟨e5,n5,_⟩:=J5.pin ((a.heap.push {cls:=.type "list",data:=.seq ([]:List dz).toArray}).objs.size,P) (mA1 _ (mA1 _ mS1));refine⟨m,⟨P,es,ep,e5,dC,rC⟩,λh' au=>?_⟩;have J6:Inv X ag G H5 s5:=J5.unpinned;refine⟨G,H5,J6.turned (t':=s5.toks) (λb o hb e=>(au.2 b hb).trans e) n5 E (.inr ?_) (λx c u z=>?_) (λp K z=>?_),q5⟩
  ·exact t.sz
  ·obtain⟨w',zc⟩:=t.cell x c u;have d:=zc.lt;rw[z]at d;exact aA _ d
  ·obtain⟨R,_⟩:=t.pin p K;have d:=hL1 R;rw[z]at d;exact aA _ d
theorem D5{K:Fg1}{te:TE}{m:FE}{i:Nat}(hm:∀ σ H Q,tM K m σ H Q->te σ H Q){E:jK}{σ:L2.St}{H:Hp}(h:xN K (d4 m (gN i)) E σ H):Bt te (yI i) E σ H:=by
 obtain⟨r,mu,S,d,c,h1,h2,k,e⟩:=tJ h;refine hm _ _ _ ⟨r,mu,S,d,c,h1,h2,k,λv H' mu' j f g=>?_⟩;obtain⟨r2,a,u,q,t,s,p,l,n,b,o⟩:=e v H' mu' j f g;cases b;exact o _ H' a (.refl _ _) (p.set n) l
theorem mv (i:Nat){x:Str}{pos:Pos}(hN:autoParam (X.N[i]? = some x) cu0)(hv:autoParam (Vis X.env.scope x) au0)(hd:autoParam ((x == ("__debug__":Str))=false) bu0)(hcd:autoParam ((x == ("__classdict__":Str))=false) bu0):
  ME X (.Name x pos) (mV i):=JY i hN hv hd hcd
def fe(P:dD)(w:dF)(K:Fg1)(mg:Str->Option dz)(base:dM)(k:Nat)(x:Str)(n:Nat)(m:FN):Prop:=
 ∃(f:dB) (fd:dN) (ps:List Str),kn P w K mg base wa k f fd ps (By K n m)/\ly K fd ps []/\wK1 K (.ref f)=M/\mg x=Z (.ref f)
theorem J3 {X:Cx}{k k' n:Nat}{x:Str}{m:FN}{p pos:Pos}{e:Expr}{es:List Expr}{a:FA}(h:fe X.prog X.w X.K X.mg X.base k x n m)(hr:ga k' X.A)(hk:k<=k')(hg:Gl X x)(ha:MA X (e::es) a)(hdb:autoParam ((x == ("__debug__":Str))=false) bu0)
  (he:autoParam (dH (e::es) X.env=(J,eval e X.env)::dH es X.env) cu0) (hpl:autoParam ((Qn pos (dH es X.env)).any (·.1)=J) cu0):ME X (.Call (.Name x p) (e::es) [] pos) (mN (dU n m) a):=by
 obtain⟨f,fd,ps,F,b,c,d⟩:=h;exact Gh F (hr.mono hk) hg d c b ha hdb he hpl
theorem Jp{P:dD}{w:dF}{K:Fg1}{mg:Str->Option dz}{base:dM}{x a:Str}{st:dP}{f:dB}{fd:dN}{N ps:List Str}{k n:Nat}{b:FS}(F:AV K x a st f fd)(hb:ly K fd ps [])(hm:mg x=some (.ref f))(S:hH N ps (ej st))(hn:ps.length=n)(c:∀(e:dz) (A:dE) (d:List Env) (s:dA) (H:Hp) (E:XK),ga k (A.deeper (Q3 a (ej st) s.heap.objs.size f e)) ->
   AO (og wa P w K mg base N a (ej st) f e A d s H E).nox (fJ st) b):fe P w K mg base (k+1) x n (hB N.length b):=by
 subst hn;exact⟨f,fd,ps,ML F S c,hb,F.kp,hm⟩
def CGl(K:Fg1)(mg:Str->Option dz)(x:Str)(d:D):Prop:=∃(v:V) (u:dz),mg x=Z u/\eg v u /\ ∀H mu,fg K H mu d v
theorem Gg {X:Cx}{x:Str}{d:D}{pos:Pos}(h:CGl X.K X.mg x d)(hg:Gl X x)(hd:autoParam ((x == ("__debug__":Str))=J) bu0):ME X (.Name x pos) (mC d):=by
 obtain⟨v,u,a,r,q⟩:=h;exact CT d (FF hg a r hd) q
noncomputable def gm:List Bool->Ev->Ev
 |true::bs,o::r=>o::gm bs r
 |false::bs,_::r=>Y::gm bs r
 |[],_::r=>Y::gm [] r
 |_,[]=>[]
def lS:Ev->Bool
 |[]=>M
 |none::r=>lS r
 |some d::r=>d.und 0&&lS r
noncomputable def rB (ki ko:List Bool)(b:FS):FS:=fun r S=>if lS (gm ki r)=true then
  (b (gm ki r) []).bind λp=>match p.1 with
   | .rt d=>if d.und 0=true then some (.rt d,[],S)else none
   |f=>if lS (gm ko p.2.1)=true then some (f,gm ko p.2.1,S)else none
 else none
theorem kF:∀(bs:List Bool) (r:Ev),(gm bs r).length=r.length
 |true::bs,o::r=>congrArg (· + 1) (kF bs r)
 |false::bs,o::r=>congrArg (· + 1) (kF bs r)
 |[],o::r=>congrArg (· + 1) (kF [] r)
 |[],[]=>rfl
 |true::_,[]=>rfl
 |false::_,[]=>rfl
theorem kG:∀(bs:List Bool) (r:Ev) (i:Nat) (d:D),(gm bs r)[i]?=Z (Z d)->r[i]?=Z (Z d)
 |true::bs,o::r,0,d,h=>h
 |true::bs,o::r,i+1,d,h=>by
  rw[gC1];exact kG bs r i d (by rw[gm,gC1]at h;exact h)
 |false::bs,o::r,0,d,h=>by simp[gm]at h
 |false::bs,o::r,i+1,d,h=>by
  rw[gC1];exact kG bs r i d (by rw[gm,gC1]at h;exact h)
 |[],o::r,0,d,h=>by simp[gm]at h
 |[],o::r,i+1,d,h=>by
  rw[gC1];exact kG [] r i d (by rw[gm,gC1]at h;exact h)
 |[],[],i,d,h=>by simp[gm]at h
 |true::_,[],i,d,h=>by simp[gm]at h
 |false::_,[],i,d,h=>by simp[gm]at h
theorem mX:∀(r:Ev) (i:Nat) (d:D),lS r=M->r[i]?=Z (Z d)->d.und 0=M
 |none::r,0,d,_,h=>by simp at h
 |none::r,i+1,d,hs,h=>mX r i d hs (by simpa using h)
 |some e::r,0,d,hs,h=>by
  rw[lS,bA1]at hs;simp at h;subst h;exact hs.1
 |some e::r,i+1,d,hs,h=>by
  rw[lS,bA1]at hs;exact mX r i d hs.2 (by simpa using h)
theorem fT.mask{K:Fg1}{H:Hp}{mu mu':List dB}{r:Ev}{σ:L2.St}{bs:List Bool}(h:fT K H mu r σ)(hs:lS (gm bs r)=M):fT K H mu' (gm bs r) σ:=
 ⟨by rw[kF];exact h.len,λi d e=>by
  obtain⟨v,b,a⟩:=h.val i d (kG bs r i d e);exact⟨v,b,a.cut (n:=0) (λk c=>absurd c (bw _)) (mX _ i d hs e)⟩⟩
theorem CU{K:Fg1}{l A:List Bool}{b:FS}{E:jK}{σ:L2.St}{H:Hp}(h:xN K (rB l A b) E σ H):xN K b E σ H:=by
 obtain⟨r,mu,S,f,C,B,t,j,c,hc⟩:=h;unfold rB at c;split at c
 ·rename_i p;obtain⟨⟨m,u,y⟩,q,c⟩:=Th c;refine⟨gm l r,[],[],m,u,y,t.mask p,.nil,q,?_⟩;have back:∀{H':Hp} {mu':List dB},Ext [] mu' H H'->Ext mu mu H H':=λ{H' mu'} x=>⟨bo,λa o e _=>x.old a o e (by simp),x.tup,x.frz,λ_ z=>.inl z⟩;have keep:∀{H':Hp} {mu':List dB},Ext [] mu' H H'->Sim K H' mu S:=λ{H' mu'} x=>⟨j.len,j.nd,λn o a h1 h2=>(j.ob n o a h1 h2).keep (back x) λo e=>x.old a o e (by simp)⟩;cases m with
  |rt d=>
   dsimp only at c;split at c
   ·rename_i i;cases c;exact λv H' mu' x r s=>hc v H' mu (back x) (r.cut (n:=0) (λk w=>absurd w (bw _)) i) (keep x)
   ·cases c
  |nx=>
   dsimp only at c;split at c
   ·rename_i i;cases c;exact λg H' mu' x r s=>hc g H' mu (back x) (r.mask i) (keep x)
   ·cases c
  |bk=>
   dsimp only at c;split at c
   ·rename_i i;cases c;exact λg H' mu' x r s=>hc g H' mu (back x) (r.mask i) (keep x)
   ·cases c
  |ct=>
   dsimp only at c;split at c
   ·rename_i i;cases c;exact λg H' mu' x r s=>hc g H' mu (back x) (r.mask i) (keep x)
   ·cases c
 ·cases c
theorem CF{X:Cx}{sts:List dP}{b:FS}(c a:List Bool)(h:AO X sts b):AO X sts (rB c a b):=sY h λ_ _ _=>CU
def CV(K:Fg1)(d:D)(u:dz):Prop:=∃v:V,eg v u /\ ∀H mu,fg K H mu d v
def NH(K:Fg1)(ds:List D)(us:List dz):Prop:=∃vs:List V,ez vs us /\ ∀H mu,d8 K H mu ds vs
section
variable{K:Fg1}
theorem ua{i:Int}{t}:CV K (.int i) (.int i t):=⟨.int i,⟨t,O⟩,λ_ _=>.int i⟩
theorem t8{x:Str}{t}:CV K (.str x) (.str x t):=⟨.str x,⟨t,O⟩,λ_ _=>.str x⟩
theorem mz:NH K [] []:=⟨[],.nil,λ_ _=>.nil⟩
theorem fL{d:D}{u:dz}{ds:List D}{a:List dz}(h:CV K d u)(t:NH K ds a):NH K (d::ds) (u::a):=by
 obtain⟨v,r,q⟩:=h;obtain⟨vs,rs,b⟩:=t;exact⟨v::vs,.cons r rs,λH mu=>.cons (q H mu) (b H mu)⟩
theorem pT {a:dB}{b:List dz}{n:Nat}{sl:Array (Option dz)}{ds:List D}(h:K.lookup a=Z ⟨.type "tuple",Y,.seq b.toArray n,sl⟩)(hs:b.length<=dI)(t:NH K ds b):CV K (.tup ds) (.ref a):=by
 obtain⟨vs,rs,c⟩:=t;exact⟨.ref a,O,λH mu=>.tup (.inr ⟨_,b.toArray,n,h,O,O,O,by simpa using hs,by simpa using rs⟩) (c H mu)⟩
theorem DT{mg:Str->Option dz}{x:Str}{d:D}{u:dz}(hm:mg x=Z u)(h:CV K d u):CGl K mg x d:=by
 obtain⟨v,r,q⟩:=h;exact⟨v,u,hm,r,q⟩
end
theorem jb{K:Fg1}{H:Hp}{mu:List dB}:∀ns:List Int,d8 K H mu (ns.map D.int) (ns.map V.int)
 |[]=>.nil
 |n::ns=>.cons (.int n) (jb ns)
theorem Kl{K:Fg1}{m:FN}(hm:∀ ns:List Int,ns.length<=63 -> ∃ S,m [.rol (ns.map D.int)] []=some (.bl true,S))(H:Hp)(a:dB)(ns:List Int)(d:ns.length<=63)(f:Hu H)(b:nq K H a (ns.map V.int)):
  By K 1 m [.ref a] H (λv _=>v = .bl M) λ_ _ _=>False:=by
 refine⟨O,?_⟩;obtain⟨S,e⟩:=hm ns d;have c:RoL K H a (ns.map V.int):=by
  rcases b with h|h
  ·rcases h with h|h
   ·rcases f a with z|⟨o,xs,z⟩
    ·rw[h]at z;cases z
    ·rw[h]at z;cases z
   ·exact .inl h
  ·exact .inr h
 refine⟨[],[],[.rol (ns.map D.int)],.bl M,S,.cons (.rol c (jb ns)) .nil,.nil,e,λv H' mu' x r s=>?_⟩;cases r;rfl
theorem walk_m{l:PySem.W.OpenLaw}{q:dD}{b:List Str}{XP:(Str->Option dz)->dM->Prop}{g:dF->dM->Prop}{d:DefRec}{K:Params->Fg1}{m:FN}{k:Nat}{x:Str}(hn:l.most=some 63)(c:d.params.defaults=[])(hr:ga k callerA)(p:∀(w:dF) (h:dM),g w h->(K w.params).In h)(hm:∀ns:List Int,ns.length<=63 -> ∃S,m [.rol (ns.map D.int)] []=some (.bl true,S))(F:∀(w:dF) (mg:Str->Option dz) (e:dB) (h:dM),(K w.params).In h->h.Ns dG mg->mg d.name=some (.ref e) ->
   ∃fd:dN,(∀(s:dA) (u:dz),BindsTo s fd ⟨[u],[]⟩ [(x,u)]) /\ ∀base:dM,(K w.params).In base->base.Ns dG mg->kn l.prog w (K w.params) mg base wa k e fd [x] (By (K w.params) 1 m)):
  PySem.W.WalkO q b XP g l.row.toRowW d [] (λf vs=>PySem.call f vs):=
 L2.EV (n:=63) (k:=k) (x:=x) (CX:=λ_=>wa) (sp:=λw=>By (K w.params) 1 m) hn (by decide) c hr p F (λ_ H a ns i j o=>Kl hm H a ns i j o) λ_ _ _ _ _ z=>z
structure XE (X:Cx)(e:Expr)(m:FE):Prop where
 h:ME X e m
structure XT (X:Cx)(e:Expr)(m:FT):Prop where
 h:MT X e m
structure XW (X:Cx)(e:Expr)(m:FT):Prop where
 h:MW X e m
structure XA (X:Cx)(e:List Expr)(m:FA):Prop where
 h:MA X e m
structure XS (X:Cx)(e:dP)(m:FS):Prop where
 h:MS X e m
structure xl (X:Cx)(e:List dP)(m:FS):Prop where
 h:AO X e m
structure XI (X:Cx)(tg e:Expr)(m:FI):Prop where
 h:MI X tg e m
structure XG (X:Cx)(e:Expr)(m:FG):Prop where
 h:MG X e m
structure NE (X:Cx)(e:List Expr)(m:Eu):Prop where
 h:Nl X e m
structure XO (X:Cx)(e:Option Expr)(m:FO):Prop where
 h:MO X e m
structure XF (X:Cx)(K:Fg1)(ifs:List Expr)(t:FT):Prop where
 h:qi X ifs (Bo K t)
theorem eE{X:Cx}:XF X X.K [] fm:=⟨Gc⟩
theorem gI{X:Cx}{c:Expr}{t:FT}(h:XT X c t):XF X X.K [c] t:=⟨Gb h.h⟩
theorem zk{X:Cx}{sts:List dP}{b:FS}(c a:List Bool)(h:xl X sts b):xl X sts (rB c a b):=⟨CF c a h.h⟩
section
variable{pos:Pos}
theorem qK{i:Int}{j}:XE X (.Constant (.int i) j pos) (mC (.int i)):=⟨Ka⟩
theorem fU{b:Bool}{j}:XE X (.Constant (.bool b) j pos) (mC (.bl b)):=⟨Mq⟩
theorem iO{j}:XE X (.Constant .none j pos) (mC .non):=⟨J8⟩
theorem fu{x:Str}{j}:XE X (.Constant (.str x) j pos) (mC (.str x)):=⟨J0⟩
end
section
variable{pos:Pos}{e:Expr}{es:List Expr}{m:FE}{n:FA}
theorem qN:XA X [] dS:=⟨Ke⟩
theorem qA(h:XE X e m)(ht:XA X es n)(hs:autoParam (dH (e::es) X.env=(J,eval e X.env)::dH es X.env) cu0):XA X (e::es) (dR m n):=⟨Gi (h:=h.h) (ht:=ht.h) (hs:=hs)⟩
end
section
variable{K:Fg1}{f:FN}{a b:FE}{σ:L2.St}{H:Hp}{Q:VK}
theorem qI{op:Qx}{x y:Expr}{pos:Pos}(ho:gU X (QP op) (r2 X.K f))(hx:XE X x a)(hy:XE X y b):XE X (.BinOp x op y pos) (m2 f a b):=⟨Mn (ho:=ho) (hx:=hx.h) (hy:=hy.h)⟩
theorem EN{op:QR}{x y:Expr}{pos:Pos}(ho:gU X (QQ op) (r2 X.K f))(hx:XE X x a)(hy:XE X y b)(hm:QS op y=J):XE X (.Compare x [op] [y] pos) (m2 f a b):=⟨Kb (ho:=ho) (hx:=hx.h) (hy:=hy.h) (hm:=hm)⟩
theorem qJ{x y:Expr}{pos:Pos}(ho:H7 X (r2 X.K f))(hx:XE X x a)(hy:XE X y b)(hs:oD y):XE X (.Subscript x y pos) (m2 f a b):=⟨Mo (ho:=ho) (hx:=hx.h) (hy:=hy.h) (hs:=hs)⟩
theorem qD {x:Str}{p pos:Pos}{e:Expr}{es:List Expr}{id:String}{a:FA}(hc:fc X (.builtin id) (rN X.K f))(hg:Gl X x)(hm:X.mg x=Y)(hv:Qg x=Z (.builtin id))(ha:XA X (e::es) a)(hn:autoParam (x≠"__name__") bu0)(hdb:autoParam ((x == ("__debug__":Str))=J) bu0)(he:autoParam (dH (e::es) X.env=(J,eval e X.env)::dH es X.env) cu0)(hpl:autoParam ((Qn pos (dH es X.env)).any (·.1)=J) cu0):XE X (.Call (.Name x p) (e::es) [] pos) (mN f a):=⟨CS (hc:=hc) (hg:=hg) (hm:=hm) (hv:=hv) (ha:=ha.h) (hn:=hn) (hdb:=hdb) (he:=he) (hpl:=hpl)⟩
theorem qE {x:Str}{p pos:Pos}{e:Expr}{es:List Expr}{T:String}{a:FA}(hc:fc X (.type T) (rN X.K f))(hg:Gl X x)(hm:X.mg x=Y)(hv:Qg x=Z (.type T))(ha:XA X (e::es) a)(hn:autoParam (x≠"__name__") bu0)(hdb:autoParam ((x == ("__debug__":Str))=J) bu0)(he:autoParam (dH (e::es) X.env=(J,eval e X.env)::dH es X.env) cu0)(hpl:autoParam ((Qn pos (dH es X.env)).any (·.1)=J) cu0):XE X (.Call (.Name x p) (e::es) [] pos) (mN f a):=⟨zZ (hc:=hc) (hg:=hg) (hm:=hm) (hv:=hv) (ha:=ha.h) (hn:=hn) (hdb:=hdb) (he:=he) (hpl:=hpl)⟩
end
section
variable{x y c:Expr}{rest:List Expr}{pos:Pos}{a b:FT}{f g:FE}
theorem qX{op:QR}{f:FN}{a b:FE}(ho:gU X (QQ op) (r2 X.K f))(hx:XE X x a)(hy:XE X y b)(hm:QS op y=J):XT X (.Compare x [op] [y] pos) (mB (m2 f a b)):=⟨JH (ho:=ho) (hx:=hx.h) (hy:=hy.h) (hm:=hm)⟩
theorem jL(ha:XT X x a):XW X (.BoolOp .And [x] pos) a:=⟨F4 (ha:=ha.h)⟩
theorem lK(ha:XT X x a):XW X (.BoolOp .Or [x] pos) a:=⟨JD (ha:=ha.h)⟩
theorem kr(ha:XT X x a)(hb:XW X (.BoolOp .And (y::rest) pos) b):XW X (.BoolOp .And (x::y::rest) pos) (qw a b):=⟨JE (ha:=ha.h) (hb:=hb.h)⟩
theorem lz(ha:XT X x a)(hb:XW X (.BoolOp .Or (y::rest) pos) b):XW X (.BoolOp .Or (x::y::rest) pos) (CW a b):=⟨Mk (ha:=ha.h) (hb:=hb.h)⟩
theorem kY(h:XW X x a):XT X x a:=⟨Oc (h:=h.h)⟩
theorem ku(ha:XT X x a):XT X (.UnaryOp .Not x pos) (nZ a):=⟨JG (ha:=ha.h)⟩
theorem kA{op}(h:XE X x f):XE X (.BoolOp op [x] pos) f:=⟨J4 (h:=h.h)⟩
theorem js(ha:XE X x f)(hb:XE X (.BoolOp .And (y::rest) pos) g):XE X (.BoolOp .And (x::y::rest) pos) (lj f g):=⟨Kc (ha:=ha.h) (hb:=hb.h)⟩
theorem xA(ha:XE X x f):XE X (.UnaryOp .Not x pos) (u8 f):=⟨J7 (ha:=ha.h)⟩
theorem lA(hc:XT X c a)(hx:XE X x f)(hy:XE X y g):XE X (.IfExp c x y pos) (u9 a f g):=⟨Mp (hc:=hc.h) (hx:=hx.h) (hy:=hy.h)⟩
end
section
variable{x y z:Expr}{pos:Pos}{f g:FN}{a b c:FE}{op op':QR}
theorem zl(ho:gU X (QQ op) (r2 X.K f))(ho':gU X (QQ op') (r2 X.K g))(hx:XE X x a)(hy:XE X y b)(hz:XE X z c)(hm:autoParam (lastMarks [op,op'] [y,z]=J) Cf._auto_1):XE X (.Compare x [op,op'] [y,z] pos) (Mr f g a b c):=⟨CP (ho:=ho) (ho':=ho') (hx:=hx.h) (hy:=hy.h) (hz:=hz.h) (hm:=hm)⟩
end
section
variable{pos:Pos}{e c:Expr}{st:dP}{rest as bs:List dP}{a b:FS}{m:FE}{t:FT}
theorem qQ:xl X [] li:=⟨F6⟩
theorem qF(h1:XS X st a)(h2:xl X rest b):xl X (st::rest) (dZ a b):=⟨CG (h1:=h1.h) (h2:=h2.h)⟩
theorem qG(h1:XS X st a):xl X [st] a:=⟨F5 (h1:=h1.h)⟩
theorem A1(h:XE X e m)(hs:autoParam (Qu e Y pos.line X.env=pure J) cu0):XS X (.Expr e pos) (fR m):=⟨F7 (h:=h.h) (hs:=hs)⟩
theorem qU(h:XE X e m):XS X (.Return (Z e) pos) (eD m):=⟨JJ (h:=h.h)⟩
theorem qV(hc:XT X c t)(ha:xl X as a)(hb:xl X bs b):XS X (.If c as bs pos) (fC t a b):=⟨Ml (hc:=hc.h) (ha:=ha.h) (hb:=hb.h)⟩
end
section
variable{pos:Pos}
theorem qO(i:Nat){x:Str}(hN:X.N.Nodup)(hi:X.N[i]?=Z x)(hx:v9 X.env.scope x)(hf:autoParam (X.fn x=M\/X.env.scope.names.lookup x=Z .local) au0):XG X (.Name x pos) (gN i):=⟨Gf (i:=i) (hN:=hN) (hi:=hi) (hx:=hx) (hf:=hf)⟩
theorem i4:NE X [] gNl:=⟨Ge⟩
theorem eJ{e:Expr}{es:List Expr}{g:FG}{a:Eu}(h1:XG X e g)(h2:NE X es a)(hs:autoParam ((Qw (e::es) X.env).map (·.2)=Qv e X.env::(Qw es X.env).map (·.2)) cu0):NE X (e::es) (gCs g a):=⟨CL (h1:=h1.h) (h2:=h2.h) (hs:=hs)⟩
theorem kw{es:List Expr}{k:Nat}{a:Eu}{n:Nat}(hc:X.calm=M)(h:NE X es a)(hn:autoParam ((Qw es X.env).length=n) cu0)(hst:autoParam ((Qw es X.env).findIdx? (·.1)=Y) cu0):XG X (.Tuple es k pos) (gT n a):=⟨JS (hc:=hc) (h:=h.h) (hn:=hn) (hst:=hst)⟩
theorem lN{o i:Expr}{a b:FE}{f:FN}(ho:XE X o a)(hi:XE X i b)(hs:xr X (rU X.K f))(ha:autoParam (∀ v,Qv (.Subscript o i pos) X.env v=(do
   let ov<-Qy [v] (eval o X.env)
   let iv<-Qy [v,ov] (eval i X.env)
   Qz pos
   Qy [v,ov,iv] (setItem ov iv v)
   release [v,ov,iv] [])) du0):XG X (.Subscript o i pos) (gS f a b):=⟨JT (ho:=ho.h) (hi:=hi.h) (hs:=hs) (ha:=ha)⟩
theorem qR{tg e:Expr}{m:FE}{g:FG}(he:XE X e m)(hg:XG X tg g)(hs:autoParam (QC [tg] e pos.line X.env=pure J) cu0)(hw:autoParam (QD [tg] e X.env=pure Y) cu0)(h1:autoParam ((Qw [tg] X.env).map (·.2)=[Qv tg X.env]) cu0):XS X (.Assign [tg] e pos) (d4 m g):=⟨JM (he:=he.h) (hg:=hg.h) (hs:=hs) (hw:=hw) (h1:=h1)⟩
theorem qY(i:Nat){x:Str}{e:Expr}{m:FE}{pos':Pos}(hN:X.N.Nodup)(hi:X.N[i]?=Z x)(hx:v9 X.env.scope x)(he:XE X e m)(hs:autoParam (Qu e (Z (.Name x pos')) pos.line X.env=pure J) cu0)(hf:autoParam (X.fn x=M\/X.env.scope.names.lookup x=Z .local) au0):XS X (.Assign [.Name x pos'] e pos) (d4 m (gN i)):=⟨JI (i:=i) (hN:=hN) (hi:=hi) (hx:=hx) (he:=he.h) (hs:=hs) (hf:=hf)⟩
theorem EK(i:Nat){x:Str}{e:Expr}{m:FE}{op:Qx}{f:FN}{pos':Pos}(hN:X.N.Nodup)(hi:X.N[i]?=Z x)(hx:v9 X.env.scope x)(he:XE X e m)(ho:NF X op (r2 X.K f))(hf:autoParam (X.fn x=M\/X.env.scope.names.lookup x=Z .local) au0):XS X (.AugAssign (.Name x pos') op e pos) (Gm i f m):=⟨JL (i:=i) (hN:=hN) (hi:=hi) (hx:=hx) (he:=he.h) (ho:=ho) (hf:=hf)⟩
end
section
theorem i3{X:Cx}{pos:Pos}(n:Nat){c:Expr}{a:List dP}{t:FT}{b:FS}(hp:QF (Qm X.prog X.w) X.A X.env X.xe)(hc:XT X c t)(hb:xl X a b):XS X (.While c a [] pos) (q9 t b n):=⟨CH (n:=n) (hp:=hp) (hc:=hc.h) (hb:=hb.h)⟩
theorem qW{X:Cx}{pos:Pos}{tg iter:Expr}{a:List dP}{m:FI}{g:FG}{b:FS}(hp:QF (Qm X.prog X.w) X.A X.env X.xe)(hc:X.calm=M)(hi:XI X tg iter m)(hg:XG X tg g)(hb:xl X a b)(hs:autoParam (∀x,QO iter X.env x=pure x) du0):XS X (.For tg iter a [] pos) (fO m g b):=⟨JK (hp:=hp) (hc:=hc) (hi:=hi.h) (hg:=hg.h) (hb:=hb.h) (hs:=hs)⟩
end
section
variable{es:List Expr}{pos:Pos}{a:FA}
theorem d9{x1}(h:XA X es a):XE X (.Tuple es x1 pos) (eQ a):=⟨JZ (h:=h.h)⟩
theorem fv(h:XA X es a):XE X (.List es pos) (hZ a):=⟨J9 (h:=h.h)⟩
end
section
variable{tg:Expr}
theorem qd{e:Expr}{m:FE}(h:XE X e m):XI X tg e (ia m):=⟨JR (h:=h.h)⟩
theorem wg {a:Expr}{m:FA}{p pos:Pos}(hg:Gl X "range")(hm:X.mg "range"=Y)(ha:XA X [a] m)(hs:autoParam (dH [a] X.env=[(J,eval a X.env)]) cu0):XI X tg (.Call (.Name "range" p) [a] [] pos) (oa m):=⟨zW (hg:=hg) (hm:=hm) (ha:=ha.h) (hs:=hs)⟩
theorem oE {a b:Expr}{m:FA}{p pos:Pos}(hg:Gl X "range")(hm:X.mg "range"=Y)(ha:XA X [a,b] m)(hs:autoParam (dH [a,b] X.env=[(J,eval a X.env),(J,eval b X.env)]) cu0)(hs2:autoParam (dH [b] X.env=[(J,eval b X.env)]) cu0):XI X tg (.Call (.Name "range" p) [a,b] [] pos) (Lr m):=⟨zV (hg:=hg) (hm:=hm) (ha:=ha.h) (hs:=hs) (hs2:=hs2)⟩
end
section
variable{tg:Expr}
variable{elts:List Expr}{k:Nat}{tpos:Pos}
theorem A2 {a:Expr}{m:FA}{p pos:Pos}(hg:Gl X "enumerate")(hm:X.mg "enumerate"=Y)(ha:XA X [a] m)(hs:autoParam (dH [a] X.env=[(J,eval a X.env)]) cu0):XI X (.Tuple elts k tpos) (.Call (.Name "enumerate" p) [a] [] pos) (qx m):=⟨Gd (hg:=hg) (hm:=hm) (ha:=ha.h) (hs:=hs)⟩
theorem sB {a b:Expr}{m:FA}{p pos:Pos}(hg:Gl X "zip")(hm:X.mg "zip"=Y)(ha:XA X [a,b] m)(hs:autoParam (dH [a,b] X.env=[(J,eval a X.env),(J,eval b X.env)]) cu0)(hs2:autoParam (dH [b] X.env=[(J,eval b X.env)]) cu0):XI X (.Tuple elts k tpos) (.Call (.Name "zip" p) [a,b] [] pos) (HQ m):=⟨JQ (hg:=hg) (hm:=hm) (ha:=ha.h) (hs:=hs) (hs2:=hs2)⟩
end
section
variable{ag:List (dB×Obj)}{σ:L2.St}{H:Hp}{s:dA}{mu:List dB}{S:Sto}{K:Fg1}
theorem wh (T:Ty){e:Expr}{m:FE}{nm:Str}{p p2 pos:Pos}(hg:Gl X "isinstance")(hm:X.mg "isinstance"=Y)(hg2:Gl X nm)(hm2:X.mg nm=Y)(hv2:Qg nm=Z (.type T.nm))(h:XE X e m)(hn:autoParam (nm≠"__name__") bu0)(hd:autoParam ((nm == ("__debug__":Str))=J) bu0)(hs1:autoParam (dH [e,.Name nm p2] X.env=(J,eval e X.env)::dH [.Name nm p2] X.env) cu0)(hs2:autoParam (dH [.Name nm p2] X.env=(J,eval (.Name nm p2) X.env)::dH [] X.env) cu0)(hpl:autoParam ((Qn pos (dH [.Name nm p2] X.env)).any (·.1)=J) cu0):XE X (.Call (.Name "isinstance" p) [e,.Name nm p2] [] pos) (tI T m):=⟨zY (T:=T) (hg:=hg) (hm:=hm) (hg2:=hg2) (hm2:=hm2) (hv2:=hv2) (h:=h.h) (hn:=hn) (hd:=hd) (hs1:=hs1) (hs2:=hs2) (hpl:=hpl)⟩
end
theorem iA:XO X Y jf:=⟨Ga⟩
theorem iz{e:Expr}{m:FE}(h:XE X e m):XO X (Z e) (jE m):=⟨F9 (h:=h.h)⟩
theorem oF {a:Expr}{m:FA}{d p2 b c:Pos}(hc:X.calm=M)(hg:Gl X "range")(hm:X.mg "range"=Y)(hg2:Gl X "list")(hm2:X.mg "list"=Y)(ha:XA X [a] m)(hs:autoParam (dH [a] X.env=[(J,eval a X.env)]) cu0)(hs2:autoParam (dH [.Call (.Name "range" d) [a] [] b] X.env=[(J,eval (.Call (.Name "range" d) [a] [] b) X.env)]) cu0):XE X (.Call (.Name "list" p2) [.Call (.Name "range" d) [a] [] b] [] c) (Aa m):=⟨zX (hc:=hc) (hg:=hg) (hm:=hm) (hg2:=hg2) (hm2:=hm2) (ha:=ha.h) (hs:=hs) (hs2:=hs2)⟩
theorem qe {o e:Expr}{es:List Expr}{m:FE}{a:FA}{f:FN}{name:Str}{apos cpos:Pos}{id:String}(slot:Slot "list" name id)(hty:typeOf (.builtin id)=pure (.type "method_descriptor"))(hm:Et X id (λx xs H Q=>rN X.K f (x::xs) H Q))(ho:XE X o m)(ha:XA X (e::es) a)(hbase:autoParam (Rs o name X.env (eval o X.env)=eval o X.env) cu0)(hfew:autoParam (((Qn cpos (dH (e::es) X.env)).all (λx=> !x.1)&&(Rt cpos (Ru [] X.env)).all (λx=>x.1.isSome)&&decide ((e::es).length+([]:List Q1).length+(if([]:List Q1).isEmpty then 0 else 1)<30))=M) cu0)(hline:autoParam ((apos.endLine == cpos.line)=M) cu0)(hs:autoParam (dH (e::es) X.env=(J,eval e X.env)::dH es X.env) cu0)(hplain:autoParam ((Qn cpos (dH es X.env)).any (·.1)=J) cu0):XE X (.Call (.Attribute o name apos) (e::es) [] cpos) (pr f m a):=⟨CO (slot:=slot) (hty:=hty) (hm:=hm) (ho:=ho.h) (ha:=ha.h) (hbase:=hbase) (hfew:=hfew) (hline:=hline) (hs:=hs) (hplain:=hplain)⟩
theorem O9 (i:Nat){x:Str}{pos:Pos}(hN:autoParam (X.N[i]?=Z x) cu0)(hv:autoParam (Vis X.env.scope x) au0)(hd:autoParam ((x == ("__debug__":Str))=J) bu0)(hcd:autoParam ((x == ("__classdict__":Str))=J) bu0):XE X (.Name x pos) (mV i):=⟨mv (i:=i) (hN:=hN) (hv:=hv) (hd:=hd) (hcd:=hcd)⟩
section
theorem qH {X:Cx}{k k' n:Nat}{x:Str}{m:FN}{p pos:Pos}{e:Expr}{es:List Expr}{a:FA}(h:fe X.prog X.w X.K X.mg X.base k x n m)(hr:ga k' X.A)(hk:k<=k')(hg:Gl X x)(ha:XA X (e::es) a)(hdb:autoParam ((x == ("__debug__":Str))=J) bu0)(he:autoParam (dH (e::es) X.env=(J,eval e X.env)::dH es X.env) cu0)(hpl:autoParam ((Qn pos (dH es X.env)).any (·.1)=J) cu0):XE X (.Call (.Name x p) (e::es) [] pos) (mN (dU n m) a):=⟨J3 (h:=h) (hr:=hr) (hk:=hk) (hg:=hg) (ha:=ha.h) (hdb:=hdb) (he:=he) (hpl:=hpl)⟩
theorem oG {X:Cx}{x:Str}{d:D}{pos:Pos}(h:CGl X.K X.mg x d)(hg:Gl X x)(hd:autoParam ((x == ("__debug__":Str))=J) bu0):XE X (.Name x pos) (mC d):=⟨Gg (h:=h) (hg:=hg) (hd:=hd)⟩
end
structure OD (X:Cx)(K:Fg1)(tg:Expr)(ifs:List Expr)(elt:Expr)(g:FG)(t:FT)(e:FE):Prop where
 g:XG X tg g
 t:XF X K ifs t
 e:XE X elt e
structure PV (X:Cx)(K:Fg1)(tg:Expr)(ifs:List Expr)(tg2 iter2:Expr)(ifs2:List Expr)(elt:Expr)(g:FG)(t:FT)(m2:FI)(g2:FG)(t2:FT)(e:FE):Prop where
 g:XG X tg g
 t:XF X K ifs t
 i2:XI X tg2 iter2 m2
 g2:XG X tg2 g2
 t2:XF X K ifs2 t2
 e:XE X elt e
theorem EJ{P:dD}{w:dF}{K:Fg1}{mg:Str->Option dz}{base:dM}{x c:Str}{st:dP}{f:dB}{fd:dN}{N ps:List Str}{k n:Nat}{b:FS}(F:AV K x c st f fd)(hb:ly K fd ps [])(hm:mg x=some (.ref f))(S:hH N ps (ej st))(hn:ps.length=n)(e:∀(d:dz) (A:dE) (a:List Env) (s:dA) (H:Hp) (E:XK),ga k (A.deeper (Q3 c (ej st) s.heap.objs.size f d)) ->
   xl (og wa P w K mg base N c (ej st) f d A a s H E).nox (fJ st) b):fe P w K mg base (k+1) x n (hB N.length b):=
 Jp F hb hm S hn λd A a s H E g=>(e d A a s H E g).h
theorem Ib{P:dD}{w:dF}{K:Fg1}{mg:Str->Option dz}{base:dM}{x c:Str}{st:dP}{f:dB}{fd:dN}{N ps:List Str}{k n:Nat}{b:FS}(F:AV K x c st f fd)(S:hH N ps (ej st))(hn:ps.length=n)(e:∀(d:dz) (A:dE) (a:List Env) (s:dA) (H:Hp) (E:XK),ga k (A.deeper (Q3 c (ej st) s.heap.objs.size f d)) ->
   xl (og wa P w K mg base N c (ej st) f d A a s H E).nox (fJ st) b):kn P w K mg base wa (k+1) f fd ps (By K n (hB N.length b)):=by
 subst hn;exact ML F S λd A a s H E g=>(e d A a s H E g).h
abbrev FV:=Ev->Sto->Option (List D×Ev×Sto)
noncomputable def fS (c:List (Nat×List D))(g:FG)(t:FT)(b:FV):List D->FV
 |[]=>λr S=>if qj S c=true then some ([],r,S)else none
 |d::ds=>λr S=>if qj S c=true then(g d r S).bind λp=>(t p.1 p.2).bind λk=>if k.1=true then(b p.1 k.2).bind λq=>(fS c g t b ds q.2.1 q.2.2).map λz=>(q.1++z.1,z.2)else fS c g t b ds p.1 k.2 else none
noncomputable def eB (m:FE):FV:=λr S=>(m r S).map λq=>([q.1],r,q.2)
def Du(m:FI)(g:FG)(t:FT)(b:FV):FV:=λr S=>(m r S).bind λp=>fS p.1.chk g t b p.1.items r p.2
noncomputable def eK (k:Nat)(keep:List Nat)(m:FI)(g:FG)(t:FT)(b:FV):FE:=λr S=>(m r S).bind λp=>
 (fS p.1.chk g t b p.1.items (vn k keep r) p.2).bind λq=>if q.1.length<=dI then some (.ref q.2.2.length,q.2.2++[.lst q.1])else none
section
variable{K:Fg1}{H H' H1:Hp}{mu mu' mu1:List dB}{S:Sto}{a:dB}
theorem Ext.aside(x:Ext mu mu' H H'):Ext (a::mu) (a::mu') H H' where
 pre:=bX.mpr ⟨O,x.pre⟩
 old:=λb o h n=>x.old b o h λz=>n (mC1 _ z)
 tup:=x.tup
 frz:=x.frz
 new:=λb h=>by
  rcases aF.mp h with h|h
  ·exact .inl (by rw[h];exact mS1)
  ·rcases x.new b h with q|q
   ·exact .inl (mC1 _ q)
   ·exact .inr q
theorem Ext.inner(x:Ext (a::mu) (a::mu') H H'):uu mu mu' H H':=⟨(bX.mp x.pre).2,x.tup,x.frz⟩
theorem Ext.held{o:HO}(x:Ext mu mu' H H')(ha:H a=Z o)(hn:a∉mu):H' a=Z o/\a∉mu':=by
 refine⟨x.old a o ha hn,λz=>?_⟩;rcases x.new a z with q|q
 ·exact hn q
 ·rw[ha]at q;cases q
theorem fT.exw{r:Ev}{σ:L2.St}(e:uu mu mu' H H')(h:fT K H mu r σ):fT K H' mu' r σ:=⟨h.len,λi d q=>by
 obtain⟨v,b,a⟩:=h.val i d q;exact⟨v,b,a.exw e⟩⟩
theorem ql.exw{b:dB}(e:uu mu mu' H H')(h:∀o,H b=Z o->H' b=Z o):∀{o:Ob},ql K H mu b o->ql K H' mu' b o
 | .lst _,⟨vs,q,r⟩=>⟨vs,h _ q,r.exw e⟩
 | .dct _,⟨ws,q,r⟩=>⟨ws,h _ q,Paired.mapP r λ_ _ z=>⟨z.1,z.2.exw e⟩⟩
 | .dcT _,⟨ws,q,r,l⟩=>⟨ws,h _ q,Paired.mapP r λ_ _ ⟨z,d,k,v,a,r⟩=>⟨z,d,k.exw e,v,a,r.exw e⟩,l⟩
 | .iset _,q=>⟨h _ q.1,q.2⟩
 | .dcF _,⟨ws,⟨o,u,c,f⟩,r,l⟩=>⟨ws,⟨o,u,h _ c,f⟩,Paired.mapP r λ_ _ ⟨z,d,k,v,a,r⟩=>⟨z,d,k.exw e,v,a,r.exw e⟩,l⟩
 | .tst _,⟨ws,q,r⟩=>⟨ws,h _ q,Paired.mapP r λ_ _ ⟨z,d,k,v,a,r⟩=>⟨z,d,k.exw e,v,a,r.exw e⟩⟩
theorem Sim.aside{u:HO}(s:Sim K H mu S)(e:uu mu mu H (upd H a u))(hn:a∉mu):Sim K (upd H a u) mu S:=
 ⟨s.len,s.nd,λk o b h1 h2=>(s.ob k o b h1 h2).exw e λo' q=>by rw[eo (λz=>hn (by rw[<- z];exact gM1 h2))];exact q⟩
end
inductive Lp (K:Fg1)(a:dB)(m:FV)(E:jK)(σ:L2.St)(H:Hp):Prop
 |mk (r:Ev) (mu:List dB) (S:Sto) (acc:List D) (vs:List V) (xs:List D) (r':Ev) (S':Sto):H a=some (.lst vs)->a∉mu->d8 K H mu acc vs->fT K H mu r σ->Sim K H mu S->m r S=some (xs,r',S')->vs.length+xs.length<=dI ->
 (∀ σ' H' mu' vs',Ext (a::mu) (a::mu') H H'->H' a=some (.lst vs')->a∉mu'->d8 K H' mu' (acc++xs) vs'->fT K H' mu' r' σ'->Sim K H' mu' S'->E.nx σ' H')->Lp K a m E σ H
theorem pP{K:Fg1}{a:dB}{m:FE}{E:jK}{σ:L2.St}{H:Hp}(h:Lp K a (eB m) E σ H):uz a (tM K m) E σ H:=by
 obtain⟨r,mu,S,t,vs,xs,w,u,k,g,p,i,q,f,l,hc⟩:=h;obtain⟨⟨d,s⟩,j,f⟩:=Ti f;cases f;refine⟨r,mu,S,d,s,i,q,j,λv H1 mu1 e n o=>?_⟩;obtain⟨b,c⟩:=e.held k g;have put:Ext (a::mu1) (a::mu1) H1 (upd H1 a (.lst (vs++[v]))):=Ext.put b trivial mS1;refine⟨vs,b,l,?_⟩;exact hc σ _ mu1 (vs++[v]) (e.aside.trans put) eA c (((p.ext e).append (.cons n .nil)).exw put.inner) ((i.ext e).exw put.inner) (o.aside put.inner c)
inductive OL (K:Fg1)(a:dB)(mu2:List dB)(H:Hp)(c:List (Nat×List D))(g:FG)(t:FT)(b:FV)(r':Ev)(S':Sto)(tot:List D)(L:List D)(σ':L2.St)(H':Hp):Prop
 |mk (r3:Ev) (mu3:List dB) (S3:Sto) (acc3:List D) (vs3:List V) (xs3:List D):Ext (a::mu2) (a::mu3) H H'->H' a=some (.lst vs3)->a∉mu3->d8 K H' mu3 acc3 vs3->fT K H' mu3 r3 σ'->Sim K H' mu3 S3->fS c g t b L r3 S3=some (xs3,r',S')->acc3++xs3=tot->vs3.length+xs3.length<=dI->OL K a mu2 H c g t b r' S' tot L σ' H'
theorem vc{K:Fg1}{a:dB}{j:It}{ao:AQ}{g:FG}{t:FT}{b:FV}{tb:TS}{D:jK}(hb:∀ E σ H,Lp K a b E σ H->tb E σ H){mu1 e:List dB}{H1 H:Hp}{r L:Ev}{S S':Sto}{σ:L2.St}{acc xs:List Mi.D}{vs:List V}(hJ:OM K j ao mu1 H1)(x:uu mu1 e H1 H)(ha:H a=Z (.lst vs))(hna:a∉e)(hr:d8 K H e acc vs)(he:fT K H e r σ)(hs:Sim K H e S)(hm:fS ao.chk g t b ao.items r S=Z (xs,L,S'))(hl:vs.length+xs.length<=dI)(hc:∀h H' mu' B,Ext (a::e) (a::mu') H H'->H' a=Z (.lst B)->a∉mu'->d8 K H' mu' (acc++xs) B->fT K H' mu' L h->Sim K H' mu' S'->D.nx h H'):Bp j (Ix K g) (Bo K t) tb D σ H:=by
 refine⟨λi k h H'=>k=(ao.items.drop i).length/\OL K a e H ao.chk g t b L S' (acc++xs) (ao.items.drop i) h H',
  ⟨_,O,r,e,S,acc,vs,xs,.refl _ _,ha,hna,hr,he,hs,hm,O,hl⟩,?_⟩
 rintro i k wq R ⟨rfl,r3,m,S3,f,vs3,X,G,w,s,C,A,s3,c,n,l⟩;cases hd0:ao.items.drop i with
 |nil=>
  left;rw[hd0,fS]at c;dsimp only at c;split at c
  ·rename_i ok;cases c;refine⟨(hJ i R m _ (x.trans G.inner) s3 ok).2 (List.drop_eq_nil_iff.mp hd0),hc wq R m vs3 G w s ?_ A s3⟩;rw[<- n,aN];exact C
  ·cases c
 |cons d ds=>
  right;rw[hd0]at c;obtain⟨hi,hd⟩:=nM hd0;rw[fS]at c;dsimp only at c;split at c
  ·rename_i ok;obtain⟨⟨aq,S4⟩,e4,c⟩:=Th c;obtain⟨⟨k5,S5⟩,e5,c⟩:=Th c;obtain⟨go,yl⟩:=(hJ i R m _ (x.trans G.inner) s3 ok).1 d hi;refine⟨go,OL K a e H ao.chk g t b L S' (acc++xs) ds,?_,λy H4 yy=>?_⟩
   ·intro h H' h6;exact⟨ds.length,bC _,(congrArg List.length hd).symm,hd.symm ▸ h6⟩
   ·obtain⟨I,s4,q4⟩:=yl y H4 yy;obtain⟨T,N⟩:=I.held w s;refine⟨r3,m,S3,d,aq,S4,A.ext I,s4,q4,e4,fun σ5 H5 P U o s5=>?_⟩;obtain⟨av,Q⟩:=U.held T N;refine⟨aq,P,S4,k5,S5,o,s5,e5,λH6 p F s6=>?_⟩;obtain⟨z,v⟩:=F.held av Q;have xx:=((G.trans I.aside).trans U.aside).trans F.aside;have q:d8 K H6 p f vs3:=((C.ext I).ext U).ext F;cases k5 with
    |true=>
     obtain⟨⟨q1,r7,S7⟩,e7,c⟩:=Th c;obtain⟨⟨z1,r8,S8⟩,e8,c⟩:=Ti c;cases c;refine hb _ _ _ ⟨aq,p,S5,f,vs3,q1,r7,S7,z,v,q,o.ext F,s6,e7,?_,fun σ8 H8 W vs8 x8 ha8 hn8 u au s8=>⟨r7,W,S7,f++q1,vs8,z1,xx.trans x8,ha8,hn8,u,au,s8,e8,?_,?_⟩⟩
     ·rw[lA1]at l;dsimp only at l;lia
     ·rw[<- n,bG]
     ·have:=u.length;have h3:=q.length;rw[lA1]at this l;dsimp only at l;lia
    |false=>exact⟨aq,p,S5,f,vs3,X,xx,z,v,q,o.ext F,s6,c,n,l⟩
  ·cases c
theorem Cz{K:Fg1}{a:dB}{m:FI}{g:FG}{t:FT}{b:FV}{tb:TS}(hb:∀E σ H,Lp K a b E σ H->tb E σ H){E:jK}{σ:L2.St}{H:Hp}(h:Lp K a (Du m g t b) E σ H):Bn (LJ K m) (Ix K g) (Bo K t) tb E σ H:=by
 obtain⟨r,mu,S,w,vs,xs,B,A,o,k,q,n,v,f,u,hc⟩:=h;obtain⟨⟨ao,z⟩,x,f⟩:=Th f;refine⟨r,mu,S,ao,z,n,v,x,λj H1 mu1 c s y=>?_⟩;obtain⟨e,i⟩:=c.held o k;exact vc hb s (Ext.refl _ _).w e i (q.ext c) (n.ext c) y f u λd H' mu' l p=>hc d H' mu' l (c.aside.trans p)
theorem pU{K:Fg1}{k:Nat}{keep:List Nat}{m:FI}{g:FG}{t:FT}{b:FV}{tb:dB->TS}(hb:∀ a E σ H,Lp K a b E σ H->tb a E σ H){σ:L2.St}{H:Hp}{Q:VK}(h:tM K (eK k keep m g t b) σ H Q):
  Bq k keep (LJ K m) (Ix K g) (Bo K t) tb σ H Q:=by
 obtain⟨r,mu,S,d,au,L,V,f,hc⟩:=h;obtain⟨⟨ao,X⟩,W,f⟩:=Th f;obtain⟨⟨xs,r2,I⟩,U,f⟩:=Th f;dsimp only at f;split at f
 ·rename_i T;cases f;refine ⟨r,mu,S,ao,X,L,V,W,fun j H1 mu1 N R aq p i=>?_⟩;have w:Ext mu1 mu1 H1 (upd H1 p (.lst [])):=Ext.fresh i;refine vc (hb p) R w.w eA (aq.notin i) .nil ((My k keep (L.ext N)).ext w) (aq.fresh i) U (by simpa using T) fun av H' mu' v l C B A P s'=>?_;have y:Ext mu1 (mu'++[p]) H1 H':=by
   refine⟨((bX.mp l.pre).2).trans (bv _ _),λb o e n=>?_,λb ys e=>l.tup b ys (w.tup b ys e),λb o u e=>l.frz b o u (w.frz b o u e),λb D=>?_⟩
   ·have F:b≠p:=eI e i;exact l.old b o (by rw [eo F];exact e) fun z=>by
     rcases aF.mp z with z|z
     ·exact F z
     ·exact n z
   ·rcases aG.mp D with z|z
    ·rcases l.new b (mC1 _ z)with q|q
     ·rcases aF.mp q with q|q
      ·exact .inr (by rw[q];exact i)
      ·exact .inl q
     ·by_cases s:b=p
      ·exact .inr (by rw[s];exact i)
      ·rw[eo s]at q;exact .inr q
    ·have:b=p:=by simpa using z
     exact .inr (by rw[this];exact i)
  refine hc _ H' (mu'++[p]) (N.trans y) (.ref (gM s'.len p)) ⟨by rw[lA1,lA1,s'.len];rfl,?_,λn o b h1 h2=>?_⟩
  ·rw[bx];refine⟨s'.nd,by simp,λb hb c hc e=>?_⟩;have:c=p:=by simpa using hc
   subst this;subst e;exact B hb
  ·by_cases G:n<I.length
   ·rw[gL1 G]at h1;rw[gL1 (by rw[s'.len];exact G)]at h2;exact(s'.ob n o b h1 h2).mor [p]
   ·have x:n=I.length:=by
     have:=(Tg h1).1;rw[lA1]at this;simp at this;lia
    subst x;rw[gR1 (nR1 _)]at h1;rw[<- s'.len,gR1 (nR1 _)]at h2;simp at h1 h2;subst h1;subst h2;exact⟨v,C,(by simpa using A:d8 K H' mu' xs v).mor [p]⟩
 ·cases f
theorem qZ{elt tg iter:Expr}{ifs:List Expr}{scope:dQ}{pos:Pos}{T:List Str}{keep:List Nat}{f:List (Str×dB)}{m:FI}{g:FG}{t:FT}{e:FE}(hc:X.calm=M)(C:Lw X scope T keep)(b:j8 X.env.cells scope.names []=Z f)(hi:XI X tg iter m)(hb:∀s H fp,OD (cxC X scope f T keep s H fp) X.K tg ifs elt g t e)(hs:autoParam (∀x,QO iter X.env x=pure x) du0):XE X (.ListComp elt [⟨tg,iter,ifs,0⟩] scope pos) (eK T.length keep m g t (eB e)):=
 ⟨eX (FJ (emit:=pQ elt) (tb:=λp=>uz p (tM X.K e)) hc (λit c d=>Bg elt tg iter ifs scope pos it c d) C b hi.h (λs H fp p=>⟨(hb s H fp).g.h,(hb s H fp).t.h,sX (hb s H fp).e.h p⟩) hs)
  fun σ H Q h=>pU (λa E σ H q=>pP q) h⟩
theorem ix{elt tg iter:Expr}{ifs:List Expr}{scope:dQ}{pos b l:Pos}{y:Str}(i:Nat){T:List Str}{keep:List Nat}{k:List (Str×dB)}{m:FI}{g:FG}{t:FT}{e:FE}(hc:X.calm=M)(C:Lw X scope T keep)(c:j8 X.env.cells scope.names []=Z k)(hi:XI X tg iter m)(hb:∀s H fp,OD (cxC X scope k T keep s H fp) X.K tg ifs elt g t e)(hN:X.N.Nodup)(hy:X.N[i]?=Z y)(hx:v9 X.env.scope y)(d:autoParam (Qu (.ListComp elt [⟨tg,iter,ifs,0⟩] scope pos) (Z (.Name y l)) b.line X.env=pure M) cu0)(hf:autoParam (X.fn y=M\/X.env.scope.names.lookup y=Z .local) au0)(hs:autoParam (∀x,QO iter X.env x=pure x) du0):XS X (.Assign [.Name y l] (.ListComp elt [⟨tg,iter,ifs,0⟩] scope pos) b) (d4 (eK T.length keep m g t (eB e)) (gN i)):=
 ⟨iE (x2 (emit:=pQ elt) (tb:=λp=>uz p (tM X.K e)) hc d (λit j f=>Bg elt tg iter ifs scope pos it j f) C c hi.h (λs H fp p=>⟨(hb s H fp).g.h,(hb s H fp).t.h,sX (hb s H fp).e.h p⟩) hN hy hx hf hs)
  λE σ H h=>D5 (fun σ H Q q=>pU (λa E σ H q=>pP q) q) h⟩
theorem zm{elt tg iter tg2 iter2:Expr}{ifs ifs2:List Expr}{scope:dQ}{pos b o:Pos}{y:Str}(i:Nat){T:List Str}{keep:List Nat}{k:List (Str×dB)}{m m2:FI}{g f:FG}{t l:FT}{e:FE}(hc:X.calm=true)(C:Lw X scope T keep)(d:j8 X.env.cells scope.names []=some k)(hi:XI X tg iter m)(hb:∀s H fp,PV (cxC X scope k T keep s H fp) X.K tg ifs tg2 iter2 ifs2 elt g t m2 f l e)(hN:X.N.Nodup)(hy:X.N[i]?=some y)(hx:v9 X.env.scope y)(j:autoParam (Qu (.ListComp elt [⟨tg,iter,ifs,0⟩,⟨tg2,iter2,ifs2,0⟩] scope pos) (some (.Name y o)) b.line X.env=pure true) cu0)(hf:autoParam (X.fn y=true\/X.env.scope.names.lookup y=some .local) au0)(hs:autoParam (∀x,QO iter X.env x=pure x) du0)(hs2:∀c x,QO iter2 c x=pure x:=by intro _ _;rfl):
  XS X (.Assign [.Name y o] (.ListComp elt [⟨tg,iter,ifs,0⟩,⟨tg2,iter2,ifs2,0⟩] scope pos) b) (d4 (eK T.length keep m g t (Du m2 f l (eB e))) (gN i)):=
 ⟨iE (x2 (emit:=rW (.ListComp elt [⟨tg,iter,ifs,0⟩,⟨tg2,iter2,ifs2,0⟩] scope pos) iter2) (tb:=fun p=>Bn (LJ X.K m2) (Ix X.K f) (Bo X.K l) (uz p (tM X.K e))) hc j (fun it n c=>Ik elt tg iter tg2 iter2 ifs ifs2 scope pos it n c) C d hi.h
   (λs H fp p=>⟨(hb s H fp).g.h,(hb s H fp).t.h,Fo (X:=cxC X scope k T keep s H fp) O hc (hb s H fp).i2.h (hb s H fp).g2.h (hb s H fp).t2.h (sX (hb s H fp).e.h p) (hs2 _)⟩) hN hy hx hf hs)
  λE σ H h=>D5 (fun σ H Q q=>pU (λa E σ H q=>Cz (λ_ _ _ z=>pP z) q) q) h⟩
noncomputable def n6:D->Option Key
 | .int i=>Z (.inl i)
 | .str x=>Z (.inr x)
 |_=>Y
noncomputable def d6{κ:Type}[DecidableEq κ](kvs:List (κ×D))(k:κ):Option D:=(kvs.find? λp=>decide (p.1=k)).map (·.2)
noncomputable def hO{κ:Type}[DecidableEq κ](kvs:List (κ×D))(k:κ)(d:D):List (κ×D):=
 if(kvs.any λp=>decide (p.1=k))=M then kvs.map (λp=>if p.1=k then(p.1,d)else p)else kvs++[(k,d)]
section
variable{K:Fg1}{H:Hp}{mu:List dB}
theorem kK{d:D}{v:V}{k:Key}(r:fg K H mu d v)(h:n6 d=Z k):v=kV k:=by
 cases r with
 |int i=>cases h;rfl
 |str x=>cases h;rfl
 |_=>cases h
end
section
variable{κ:Type} [DecidableEq κ] {K:Fg1}{H:Hp}{mu:List dB}
theorem KR.length:∀{ks:List (κ×D)} {ws:List (κ×V)},KR K H mu ks ws->ks.length=ws.length:=λh=>Paired.length h
theorem KR.look{k:κ}:∀ {ks:List (κ×D)} {ws:List (κ×V)},KR K H mu ks ws ->
  (∀d,d6 ks k=Z d -> ∃v,ib ws k=Z v/\fg K H mu d v)/\(d6 ks k=Y->ib ws k=Y):=by
 intro ks ws h
 induction h with
 |nil=>exact⟨λd h=>by simp[d6]at h,λ_=>rfl⟩
 | @cons p q ks ws r t ih=>
  obtain⟨a,f⟩:=p;obtain⟨j,c⟩:=q;obtain⟨e,r⟩:=r;dsimp only at e r;subst e;obtain⟨h1,h2⟩:=ih;by_cases b:a=k
  ·subst b;refine⟨λd h=>?_,λh=>?_⟩
   ·have:f=d:=by simpa[d6]using h
    subst this;exact⟨c,by simp[ib],r⟩
   ·simp[d6]at h
  ·have g:d6 ((a,f)::ks) k=d6 ks k:=by simp[d6,bc,b]
   have i:ib ((a,c)::ws) k=ib ws k:=by simp[ib,bc,b]
   rw[g,i];exact⟨h1,h2⟩
theorem KR.any{k:κ}:∀{ks:List (κ×D)} {ws:List (κ×V)},KR K H mu ks ws->(ks.any λp=>decide (p.1=k))=ws.any λp=>decide (p.1=k):=by
 intro ks ws h
 induction h with
 |nil=>rfl
 |cons r t ih=>rw[bd,bd,ih,r.1]
theorem KR.repl{k:κ}{d:D}{v:V}(q:fg K H mu d v):∀ {ks:List (κ×D)} {ws:List (κ×V)},KR K H mu ks ws ->
  KR K H mu (ks.map λp=>if p.1=k then(p.1,d)else p) (ws.map λp=>if p.1=k then(p.1,v)else p):=by
 intro ks ws h
 induction h with
 |nil=>exact .nil
 | @cons a b ks ws r t ih=>
  refine .cons ?_ ih;obtain⟨e,r⟩:=r;dsimp only;by_cases h:a.1=k
  ·rw[ak h,ak (e ▸ h)];exact⟨e,q⟩
  ·rw[aj h,aj (e ▸ h)];exact⟨e,r⟩
theorem KR.snoc{k:κ}{d:D}{v:V}(q:fg K H mu d v):∀{ks:List (κ×D)} {ws:List (κ×V)},KR K H mu ks ws->KR K H mu (ks++[(k,d)]) (ws++[(k,v)]):=by
 intro ks ws h
 induction h with
 |nil=>exact .cons ⟨O,q⟩ .nil
 |cons r t ih=>exact .cons r ih
theorem KR.put{k:κ}{d:D}{v:V}(q:fg K H mu d v){ks:List (κ×D)}{ws:List (κ×V)}(h:KR K H mu ks ws):KR K H mu (hO ks k d) (iq ws k v):=by
 unfold hO iq;rw[h.any];split
 ·exact h.repl q
 ·exact h.snoc q
end
def wX:G2:=λd e S=>match e with
 | .ref n=>match S[n]? with
  |some (.dct kvs)=>(n6 d).map λk=>(.bl (d6 kvs k).isSome,S)
  |_=>Ls d e S
 |_=>Ls d e S
def jz:G2:=λd e S=>match e with
 | .ref n=>match S[n]? with
  |some (.dct kvs)=>(n6 d).map λk=>(.bl (!(d6 kvs k).isSome),S)
  |_=>nh d e S
 |_=>nh d e S
def nj:G2:=λd e S=>match d with
 | .ref n=>match S[n]? with
  |some (.dct kvs)=>(n6 e).bind λk=>(d6 kvs k).map λx=>(x,S)
  |_=>EC d e S
 |_=>EC d e S
def nL:G3:=λo i v S=>match o with
 | .ref n=>match S[n]? with
  |some (.dct kvs)=>(n6 i).bind λk=>if kvs.length<dI then Z (.non,S.set n (.dct (hO kvs k v)))else Y
  |_=>lD o i v S
 |_=>lD o i v S
theorem pw{K:Fg1}{H:Hp}{mu:List dB}{S:Sto}(hs:Sim K H mu S){n:Nat}{a:dB}{kvs:List (Key×D)}{k:Key}{y:V}(hn:mu[n]? = some a)(he:S[n]? = some (.dct kvs))(hy:y=kV k):
  ∃o:Option V,qS H a y o/\(∀d,d6 kvs k=Z d -> ∃v,o=Z v/\fg K H mu d v)/\(d6 kvs k=Y->o=Y)/\o.isSome=(d6 kvs k).isSome:=by
 obtain⟨ws,b,c⟩:=hs.dct he hn;subst hy;obtain⟨h1,h2⟩:=c.look (k:=k);refine⟨ib ws k,qS.k b,h1,h2,?_⟩;cases e:d6 kvs k with
 |none=>rw[h2 e];rfl
 |some d=>obtain⟨v,f,_⟩:=h1 d e;rw[f];rfl
theorem Mg(v:X.A.units+64<QX):gU X (QQ .In) (r2 X.K (b2 wX)):=by
 intro ag s σ H x y u w Q I l j h;obtain⟨mu,S,d,e,r,f,i,b,c,a,hc⟩:=qo h;have back:Ls d e S=Z (r,f)->dJ (Qm X.prog X.w) X.A (QQ .In u w) (EP X ag σ Q) X.xe s:=λa=>N9 v ag s σ H x y u w Q I l j ⟨mu,S,[d,e],r,f,.cons i (.cons b .nil),c,a,hc⟩;unfold wX at a;split at a
 ·rename_i n;split at a
  ·rename_i kvs q;obtain⟨k,p,a⟩:=Ti a;cases a;cases b with
   |ref m=>
    cases j;obtain⟨o,g,_,_,hi⟩:=pw c m q (kK i p);exact Ot (by lia) I g l λs' t=>⟨.bl o.isSome,H,t,O,by rw[hi];exact hc.now (.bl _) c⟩
  ·exact back a
 ·exact back a
theorem Ct(v:X.A.units+64<QX):gU X (QQ .NotIn) (r2 X.K (b2 jz)):=by
 intro ag s σ H x y u w Q I l j h;obtain⟨mu,S,d,e,r,f,i,b,c,a,hc⟩:=qo h;have back:nh d e S=Z (r,f)->dJ (Qm X.prog X.w) X.A (QQ .NotIn u w) (EP X ag σ Q) X.xe s:=λa=>FY v ag s σ H x y u w Q I l j ⟨mu,S,[d,e],r,f,.cons i (.cons b .nil),c,a,hc⟩;unfold jz at a;split at a
 ·rename_i n;split at a
  ·rename_i kvs q;obtain⟨k,p,a⟩:=Ti a;cases a;cases b with
   |ref m=>
    cases j;obtain⟨o,g,_,_,hi⟩:=pw c m q (kK i p);exact G6 (by lia) I g l λs' t=>⟨.bl (!o.isSome),H,t,O,by rw[hi];exact hc.now (.bl _) c⟩
  ·exact back a
 ·exact back a
theorem Lx(P:X.A.units+64<QX):H7 X (r2 X.K (b2 nj)):=by
 intro value b ag s σ H x y v u Q I C B h m;obtain⟨mu,S,d,e,r,t,w,j,q,c,hc⟩:=qo h;have back:EC d e S=Z (r,t)->dJ (Qm X.prog X.w) X.A (Ro value b v u) (EP X ag σ Q) X.xe s:=λc=>NI value b ag s σ H x y v u Q I C B ⟨mu,S,[d,e],r,t,.cons w (.cons j .nil),q,c,hc⟩ m;unfold nj at c;split at c
 ·rename_i n;split at c
  ·rename_i kvs N;obtain⟨k,ao,c⟩:=Th c;obtain⟨z,av,c⟩:=Ti c;cases c;cases w with
   | @ref _ a D=>
    cases C;obtain⟨o,g,h1,_,_⟩:=pw q D N (kK j ao);obtain⟨G,L,aq⟩:=h1 _ av;subst L;have A:=vH I g;unfold Ro;refine wB1 ?_;rw[getitemInPython_of_ne A.not_modules];refine wB1 (Sf A PySem.F.slot_dict_getitem.lookup ?_);have i:dJ (Qm X.prog X.w) X.A (subscripted b J (.ref a) u) (λr f=>dJ (Qm X.prog X.w) X.A (letTemporaryGo value (.ref a) r >>= λ_=>pure r) (EP X ag σ Q) X.xe f) X.xe s:=by
     rw[m];exact wpAny_operating (Qo (Aw (by lia) I g B λE K F p=>(⟨G,H,F,p,hc.now aq q⟩:EP X ag σ Q E K)) (λr f l=>wB1 (wpAny_letTemporaryGo (wP1 l))) λ_ _ x=>x)
    first
     |exact wP1 (wB1 i)
     |exact wB1 i
     |exact i
  ·exact back c
 ·exact back c
theorem IJ(L:X.A.units+64<QX):xr X (rU X.K (b3 nL)):=by
 intro ag s σ H o i v y j u Q I t f x h;obtain⟨mu,S,ds,d,l,B,e,a,hc⟩:=id h;cases B with
 |cons w D=>cases D with
  |cons z C=>cases C with
   |cons g A=>
    cases A;rename_i m q r;dsimp only[b3]at a;have back:lD m q r S=Z (d,l)->dJ (Qm X.prog X.w) X.A (setItem y j u) (λ_ s'=>∃H',Inv X ag σ H' s'/\Q H') X.xe s:=λa=>LQ ag s σ H o i v y j u Q I t f x ⟨mu,S,[m,q,r],d,l,.cons w (.cons z (.cons g .nil)),e,a,hc⟩;unfold nL at a;split at a
    ·rename_i n;split at a
     ·rename_i kvs K;obtain⟨k,G,a⟩:=Th a;split at a
      ·rename_i F;cases a;cases w with
       |ref b=>
        cases t;obtain⟨ws,c,p⟩:=e.dct K b;have ao:=kK z G;subst ao;refine Av (by lia) I (AR.k c (by rw[<- p.length];exact F)) f x λs' E=>⟨_,E,?_⟩;have put:Ext mu mu H (upd H _ (.dK (iq ws k v))):=Ext.put c trivial (gM1 b);exact hc _ mu put (e.put b c trivial ⟨_,eA,(p.put g).ext put⟩)
      ·cases a
     ·exact back a
    ·exact back a
def wW:G2:=λd e S=>match e with
 | .non=>Z (.bl (rK d),S)
 | .bl b=>match d with
  | .bl c=>Z (.bl (c == b),S)
  |_=>Y
 |_=>Y
def iw:G2:=λd e S=>match e with
 | .non=>Z (.bl (!rK d),S)
 | .bl b=>match d with
  | .bl c=>Z (.bl (!(c == b)),S)
  |_=>Y
 |_=>Y
theorem HG:gU X (QQ .Is) (r2 X.K (b2 wW)):=by
 intro ag s σ H x y u w Q I i j h;obtain⟨mu,S,d,e,r,l,g,a,k,f,hc⟩:=qo h;cases e with
 |non=>exact Mf ag s σ H x y u w Q I i j ⟨mu,S,[d,.non],r,l,.cons g (.cons a .nil),k,f,hc⟩
 |bl b=>
  cases d with
  |bl c=>
   cases f;cases g;cases a;cases i;cases j;exact is_bool ⟨.bl (c == b),H,I,O,hc.now (.bl _) k⟩
  |_=>cases f
 |_=>cases f
theorem pk:gU X (QQ .IsNot) (r2 X.K (b2 iw)):=by
 intro ag s σ H x y u w Q I i j h;obtain⟨mu,S,d,e,r,l,g,a,k,f,hc⟩:=qo h;cases e with
 |non=>exact Jy ag s σ H x y u w Q I i j ⟨mu,S,[d,.non],r,l,.cons g (.cons a .nil),k,f,hc⟩
 |bl b=>
  cases d with
  |bl c=>
   cases f;cases g;cases a;cases i;cases j;exact isnot_bool ⟨.bl (!(c == b)),H,I,O,hc.now (.bl _) k⟩
  |_=>cases f
 |_=>cases f
noncomputable def pu:FE:=λ_ S=>Z (.ref S.length,S++[.dct []])
theorem oH{pos:Pos}:XE X (.Dict [] [] pos) pu:=⟨eX Ce <| by
 rintro σ H Q ⟨r,mu,S,d,f,e,b,c,hc⟩ p a;cases c;exact hc _ _ (mu++[p]) (Ext.new_ a) (.ref (gM b.len p)) (b.new a ⟨[],eA,.nil⟩)⟩
noncomputable def Gj:List (FE×FE)->Ev->Sto->Option (List (D×D)×Sto)
 |[],_,S=>Z ([],S)
 |(a,b)::l,r,S=>(a r S).bind λp=>(b r p.2).bind λq=>(Gj l r q.2).map λt=>((p.1,q.1)::t.1,t.2)
def yA:List (D×D)->Option (List (Key×D))
 |[]=>Z []
 |(k,d)::l=>(n6 k).bind λk=>(yA l).map λt=>(k,d)::t
def yp(l:List (FE×FE)):FE:=λr S=>(Gj l r S).bind λp=>(yA p.1).bind λkvs=>if kvs.length<=15 then Z (.ref p.2.length,p.2++[.dct (kvs.foldl (λacc kv=>hO acc kv.1 kv.2) [])])else Y
structure XP (X:Cx)(pos:Pos)(ks:List (Option Expr))(vs:List Expr)(l:List (FE×FE)):Prop where
 h:Nj X pos ks vs (l.map λp=>(tM X.K p.1,tM X.K p.2))
theorem EL{pos:Pos}:XP X pos [] [] []:=⟨Fu⟩
theorem lM{pos:Pos}{k v:Expr}{ks:List (Option Expr)}{vs:List Expr}{a b:FE}{l:List (FE×FE)}(hk:XE X k a)(hv:XE X v b)(t:XP X pos ks vs l):XP X pos (Z k::ks) (v::vs) ((a,b)::l):=⟨B3 hk.h hv.h t.h⟩
theorem B2{K:Fg1}{σ:L2.St}:∀ {l:List (FE×FE)} {r:Ev} {mu:List dB} {H:Hp} {S S':Sto} {ps:List (D×D)} {Q:List (V×V)->Hp->Prop},fT K H mu r σ->Sim K H mu S->Gj l r S=some (ps,S') ->
  (∀vs H' mu',Ext mu mu' H H'->Paired (λ(p:D×D) (q:V×V)=>fg K H' mu' p.1 q.1/\fg K H' mu' p.2 q.2) ps vs->Sim K H' mu' S'->Q vs H')->sG (l.map λp=>(tM K p.1,tM K p.2)) σ H Q
 |[],r,mu,H,S,S',ps,Q,he,hs,c,hc=>by cases c;exact hc [] H mu (.refl _ _) .nil hs
 |(a,b)::l,r,mu,H,S,S',ps,Q,he,hs,c,hc=>by
  obtain⟨⟨d,i⟩,z,c⟩:=Th c;obtain⟨⟨o,x⟩,u,c⟩:=Th c;obtain⟨⟨t,B⟩,m,c⟩:=Ti c;cases c;refine⟨r,mu,S,d,i,he,hs,z,λv H1 mu1 h n A=>⟨r,mu1,i,o,x,he.ext h,A,u,λC H2 s g r2 y=>?_⟩⟩;refine B2 ((he.ext h).ext g) y m λvs k f e j w=>hc _ k f ((h.trans g).trans e) (.cons ⟨(n.ext g).ext e,r2.ext e⟩ j) w
theorem C5{K:Fg1}{H:Hp}{mu:List dB}:∀ {ps:List (D×D)} {vs:List (V×V)} {kvs:List (Key×D)},Paired (fun (p:D×D) (q:V×V)=>fg K H mu p.1 q.1/\fg K H mu p.2 q.2) ps vs->yA ps=some kvs ->
  ∃ws:List (Key×V),vs=ws.map (λc=>(kV c.1,c.2))/\KR K H mu kvs ws:=by
 intro ps vs kvs l h
 induction l generalizing kvs with
 |nil=>cases h;exact⟨[],O,.nil⟩
 | @cons a b ps vs q t ih=>
  obtain⟨k,d⟩:=a;obtain⟨m,g⟩:=b;obtain⟨j,i,h⟩:=Th h;obtain⟨rest,f,h⟩:=Ti h;cases h;obtain⟨ws,e,r⟩:=ih f;have:=kK q.1 i;dsimp only at this;subst this;exact⟨(j,g)::ws,by rw[mP1,<- e],.cons ⟨O,q.2⟩ r⟩
theorem CM{K:Fg1}{H:Hp}{mu:List dB}:∀{kvs:List (Key×D)} {ws:List (Key×V)} {acc:List (Key×D)} {acw:List (Key×V)},KR K H mu kvs ws->KR K H mu acc acw->KR K H mu (kvs.foldl (λacc c=>hO acc c.1 c.2) acc) (jw acw ws):=by
 intro kvs ws acc acw f h
 induction f generalizing acc acw with
 |nil=>exact h
 | @cons a b kvs ws r t ih=>
  obtain⟨k,d⟩:=a;obtain⟨g,v⟩:=b;obtain⟨e,r⟩:=r;dsimp only at e r;subst e;show KR K H mu (kvs.foldl _ (hO acc k d)) (jw (iq acw k v) ws);exact ih (h.put r)
theorem A4{pos:Pos}{ks:List (Option Expr)}{vs:List Expr}{l:List (FE×FE)}(h:XP X pos ks vs l)(m:autoParam (ks.all (·.isSome)=M) cu0)(I:autoParam (ks.length=vs.length) cu0)(K:ks≠[]:=by(intro z;cases z))(x:autoParam (ks.length<=15) bu0):XE X (.Dict ks vs pos) (yp l):=
 ⟨eX (FH h.h m I K x) <| by
  rintro σ H Q ⟨r,mu,S,d,T,P,F,f,hc⟩ p g;obtain⟨⟨ps,G⟩,N,f⟩:=Th f;obtain⟨kvs,ao,f⟩:=Th f;dsimp only at f;split at f
  ·rename_i v;cases f;have C:Ext mu mu H (upd H p (.dK [])):=Ext.fresh g;refine B2 (P.ext C) (F.fresh g) N fun vs H1 mu1 j aq i=>?_;obtain ⟨t,s⟩:=j.held (a:=p) (o:=.dK []) eA (F.notin g);obtain ⟨ws,R,rk⟩:=C5 aq ao;refine ⟨t,ws,R,by rw [<- rk.length];exact v,?_⟩;have put:Ext (p::mu1) (p::mu1) H1 (upd H1 p (.dK (jw [] ws))):=Ext.put t trivial mS1;have L:=i.aside put.inner s;have y:Ext mu (mu1++[p]) H (upd H1 p (.dK (jw [] ws))):=by
    refine⟨j.pre.trans (bv _ _),λb o e n=>?_,λb ys e=>put.tup b ys (j.tup b ys (C.tup b ys e)),λb o u e=>put.frz b o u (j.frz b o u (C.frz b o u e)),λb B=>?_⟩
    ·have D:b≠p:=eI e g;rw[eo D];exact j.old b o (by rw[eo D];exact e) n
    ·rcases aG.mp B with z|z
     ·rcases j.new b z with q|q
      ·exact .inl q
      ·by_cases k:b=p
       ·exact .inr (by rw[k];exact g)
       ·rw[eo k]at q;exact .inr q
     ·have:b=p:=by simpa using z
      exact .inr (by rw[this];exact g)
   have A:=CM rk (acc:=[]) (acw:=[]) .nil;refine hc _ _ (mu1++[p]) y (.ref (gM i.len p)) ⟨by rw[lA1,lA1,i.len];rfl,?_,λn o b h1 h2=>?_⟩
   ·rw[bx];refine⟨i.nd,by simp,λb av c hc e=>?_⟩;have:c=p:=by simpa using hc
    subst this;subst e;exact s av
   ·by_cases E:n<G.length
    ·rw[gL1 E]at h1;rw[gL1 (by rw[i.len];exact E)]at h2;exact(L.ob n o b h1 h2).mor [p]
    ·have w:n=G.length:=by
      have:=(Tg h1).1;rw[lA1]at this;simp at this;lia
     subst w;rw[gR1 (nR1 _)]at h1;rw[<- i.len,gR1 (nR1 _)]at h2;simp at h1 h2;subst h1;subst h2;exact⟨_,eA,KR.mor [p] (Paired.mapP A λ_ _ z=>⟨z.1,z.2.exw put.inner⟩)⟩
  ·cases f⟩
theorem KC{K:Fg1}{H:Hp}{mu:List dB}{S:Sto}(hs:Sim K H mu S){n:Nat}{a:dB}{kvs:List (Key×D)}(hn:mu[n]?=Z a)(he:S[n]?=Z (.dct kvs)):ON H a:=by
 obtain⟨ws,b,_⟩:=hs.dct he hn;exact .inl ⟨ws,.inl b⟩
section
variable{K:Fg1}{H H':Hp}{mu mu':List dB}{S:Sto}
end
theorem jr{X:Cx}(i j:Nat){x y:Str}{a b:Expr}{m:FA}{n k pt pos:Pos}{kt k2 pt2}(hc:X.calm=true)(hN:X.N.Nodup)(hi:X.N[i]? = some x)(t:X.N[j]? = some y)(l:i≠j)(hx:X.env.scope.names.lookup x=some .local)(hy:X.env.scope.names.lookup y=some .local)(ha:XA X [a,b] m)(hw:autoParam (QD [.Tuple [.Name x n,.Name y k] kt pt] (.Tuple [a,b] k2 pt2) X.env=pure (some [x,y])) cu0)(hs:autoParam (QC [.Tuple [.Name x n,.Name y k] kt pt] (.Tuple [a,b] k2 pt2) pos.line X.env=pure false) cu0):
  XS X (.Assign [.Tuple [.Name x n,.Name y k] kt pt] (.Tuple [a,b] k2 pt2) pos) (d4 (eQ m) (gT 2 (gCs (gN i) (gCs (gN j) gNl)))):=
 ⟨iE (IX hc hN hi t l hx hy ha.h hw hs) <| by
  rintro E σ H ⟨r,mu,S,f,A,z,o,hs,g,hc⟩;obtain⟨⟨d,C⟩,e,g⟩:=Th g;obtain⟨⟨r2,B⟩,c,g⟩:=Th g;cases g;obtain⟨⟨ds,w⟩,q,e⟩:=Th e;dsimp only at e;split at e
  ·cases e;refine⟨r,mu,S,ds,_,o,hs,q,λvs H1 mu1 p h v=>?_⟩;dsimp only at c;rw[gT]at c;split at c
   ·cases h with
    |nil=>cases c
    |cons u h=>cases h with
     |nil=>cases c
     |cons s h=>cases h with
      |nil=>
       cases c;exact⟨_,_,O,hc _ H1 mu1 p (((o.ext p).set u).set s) v⟩
      |cons _ _=>cases c
   ·cases c
  ·cases e⟩
noncomputable def Do:G2:=λd e S=>match d,e with
 | .int i,.int j=>Z (.int (i+j),S)
 |_,_=>Y
theorem GI{X:Cx}:NF X .Add (r2 X.K (b2 Do)):=by
 intro ag s σ H x y v u Q I f g h;obtain⟨mu,S,d,e,r,l,c,b,k,a,hc⟩:=qo h;unfold Do at a;split at a
 ·rename_i i j;cases a;cases c;cases b;exact GJ ag s σ H _ _ v u Q I f g ⟨i,j,O,O,hc.now (.int _) k⟩
 ·cases a
end Mi
namespace HT
open PySem PySem.Spec PyProof.Rows
variable{prog:dD}{w:dF}{A:dE}{E:dz->dA->Prop}{s:dA}
theorem kU{t sl:dB}{items:Array dz}{e f:dz}{lo hi:Option Int}{Q:dz->dA->Prop}(ht:Qd s.heap t items)(hs:s.heap.IsSliceOf sl e f .none)(pl:Rg e lo)(i:Rg f hi)(hw:sIx items.size 0 lo=0/\sIx items.size items.size hi=items.size)(h:Q (.ref t) s):dJ (Qm prog w) A (getItem (.ref t) (.ref sl)) Q E s:=by
 obtain⟨g,c,d,j⟩:=id hs;have b:s.TypeIs (.ref sl) "slice":=⟨g,c,d⟩;unfold getItem
 try with_reducible refine QA ?_
 first|refine wB1 (wP1 ?_)|skip
 refine wB1 (wpAny_sequenceKey ht.typeIs (by decide) ?_);refine wB1 (Ri (name:=Rj "__getitem__") ht.typeIs Rk
  (wE1 Rk ht.typeIs entry_tuple_getitem ?_ (args_tuple_getitem _ _)))
 show dJ _ _ (Rl (.ref t) >>= _) _ _ s;refine wB1 (tupleItemsOf_ ht ?_);refine wB1 (Rm b ?_);rw[ak (by decide)];refine wB1 (i7 hs pl i ?_);have a:((((sIx items.size 0 lo:Nat):Int) == 0&&(1:Int) == 1&&(sIx items.size items.size hi-sIx items.size 0 lo) == items.size)=M):=by
  rw[hw.1,hw.2];simp
 show dJ _ _ (if(((sIx items.size 0 lo:Nat):Int) == 0&&(1:Int) == 1&&(sIx items.size items.size hi-sIx items.size 0 lo) == items.size)=M then _ else _) _ _ s;rw[ak a];refine wB1 ?_;unfold Builtin.Tuple.tupleIsExact;refine wB1 (Rm ht.typeIs (wP1 ?_));rw[ak (by decide)]
 first
  |exact wB1 (QE (wP1 ⟨_,rfl,wP1 h⟩))
  |exact wB1 (QE (wB1 (wP1 ⟨_,rfl,wP1 h⟩)))
end HT
namespace Mi
open PySem PySem.Spec PyProof.Rows L2
def N2(K:Fg1):V->Option Int->Option Int->Hp->VK->Prop:=λx lo hi H Q=>∃a xs,x = .ref a/\kS K H a xs/\(HT.sIx xs.length 0 lo=0/\HT.sIx xs.length xs.length hi=xs.length)/\Q (.ref a) H
variable{X:Cx}
theorem E8:EF X (N2 X.K):=by
 intro ag s σ H x v m n lo hi k Q I g i pl e h;obtain⟨a,xs,rfl,j,f,q⟩:=h;cases g;obtain⟨c,r,d,l⟩:=I.tuple j;have b:c.toArray.size=xs.length:=by rw[sT1];exact r.length.symm
 refine⟨"tuple",_,PyProof.Rows.slot_tuple_getitem.lookup,d.typeIs,?_⟩;exact HT.kU d i pl e (by rw[b];exact f) ⟨.ref a,H,I,O,q⟩
def sL(S:Sto)(d:D)(lo hi:Option Int):Option (D×Sto):=(ee S d).map λp=>if p.1=M then(.ref S.length,S++[.lst (Mi.mD p.2 lo hi)])else(.tup (Mi.mD p.2 lo hi),S)
def kT(m:FE)(lo hi:FO):FE:=λr S=>(m r S).bind λp=>(lo r p.2).bind λa=>(hi r a.2).bind λb=>sL b.2 p.1 a.1 b.1
theorem Ax{xs:List D}{lo hi:Option Int}(h:HT.sIx xs.length 0 lo=0/\HT.sIx xs.length xs.length hi=xs.length):Mi.mD xs lo hi=xs:=by
 unfold Mi.mD;rw[h.1,h.2,List.drop_zero,Nat.sub_zero,bY]
theorem gy{e:Expr}{lo hi:Option Expr}{m:FE}{a b:FO}{pos p2:Pos}(h:XE X e m)(I:XO X lo a)(D:XO X hi b):XE X (.Subscript e (.Slice lo hi Y p2) pos) (kT m a b):=
 ⟨eX (Cc (EF.or E8 (EF.or IG E9)) h.h I.h D.h) <| by
  rintro σ H Q ⟨r,mu,S,d,R,x,K,f,hc⟩;obtain⟨⟨E,B⟩,N,f⟩:=Th f;obtain⟨⟨n,A⟩,ao,f⟩:=Th f;obtain⟨⟨l,C⟩,F,f⟩:=Th f;refine⟨r,mu,S,E,B,x,K,N,λv H1 mu1 y G av=>?_⟩;refine⟨r,mu1,B,n,A,x.ext y,av,ao,λH2 s u aq=>?_⟩;refine⟨r,s,A,l,C,(x.ext y).ext u,aq,F,λP g z j=>?_⟩;obtain⟨⟨k,xs⟩,L,f⟩:=Ti f;have w:=(y.trans u).trans z;obtain⟨c,vs,rfl,q,t⟩:=d5 ((G.ext u).ext z) j L;cases k with
  |true=>
   cases f;right;right;exact⟨c,vs,O,q,λp i=>hc _ _ (g++[p]) (w.trans (Ext.new_ i)) (.ref (gM j.len p)) (j.newL (yV t n l) i)⟩
  |false=>
   simp only[bF1,Rc]at f;cases f;by_cases o:HT.sIx xs.length 0 n=0/\HT.sIx xs.length xs.length l=xs.length
   ·left;rw[Ax o]at hc;exact⟨c,vs,O,q,by rw[<- t.length];exact o,hc _ _ g w (.tup q t) j⟩
   ·right;left;exact⟨c,vs,O,q,by rw[<- t.length];exact o,λp i=>hc _ _ g (w.trans (Ext.fresh i)) (.tup (kS.of eA) ((yV t n l).ext (Ext.fresh i))) (j.fresh i)⟩⟩
mutual
inductive fq (h:dM):TK->dz->Prop
 |non:fq h .non .none
 |int (i t):fq h (.int i) (.int i t)
 |tup {a o items n xs}:h.get? a=some o->o.cls = .type "tuple"->o.data = .seq items n->fA h xs items.toList->fq h (.tup xs) (.ref a)
inductive fA (h:dM):List TK->List dz->Prop
 |nil:fA h [] []
 |cons {k v ks vs}:fq h k v->fA h ks vs->fA h (k::ks) (v::vs)
end
section
variable{prog:dD}{w:dF}{A:dE}{E:dz->dA->Prop}{s:dA}
theorem uP{Q:Int->dA->Prop}(h:Q 0xFCA86420 {s with toks:=s.toks+1}):dJ (Qm prog w) A (pyHash .none) Q E s:=by
 have a:s.TypeIs .none "NoneType":=rfl;unfold pyHash
 first|unfold pyHashByItsType|skip
 have b:[P9].any Value.onHeap=J:=rfl;refine wB1 ?_;rw[cRoomFor,aj (by rw[b];exact aL)];refine wP1 ?_;refine wB1 (Sf a F.slot_NoneType_hash.lookup ?_);show dJ _ _ (if(Z (Value.builtin "NoneType.__hash__") == Z P9)=M then _ else _) Q E s;rw[aj (by rw[beq_builtin_none];exact aL)];refine wB1 (Sf a F.slot_NoneType_hash.lookup ?_);show dJ _ _ (callSpecialIfBoundUnlessNone? .none "__hash__" _ >>= _) Q E s;refine wB1 (Sg a F.slot_NoneType_hash (wE1 F.slot_NoneType_hash a F.entry_NoneType_hash (show dJ _ _ (retInt 0xFCA86420) _ _ s from wpAny_ret_mkInt ?_) (F.args_NoneType_hash_1 _)));exact wP1 h
def uo(prog:dD)(w:dF)(k:TK):Prop:=∀{A:dE} {E:dz->dA->Prop} {s:dA} {v:dz} {Q:Int->dA->Prop},A.units+k.dep<QX->fq s.heap k v->Q k.hash {s with toks:=s.toks+k.draws}->dJ (Qm prog w) A (pyHash v) Q E s
theorem fA.split{h:dM}:∀{ks:List TK} {vs:List dz},fA h ks vs->ks.length=vs.length:=λa=>a.rec (motive_1:=λ_ _ _=>True) (motive_2:=λks vs _=>ks.length=vs.length) trivial (λ_ _=>trivial) (λ_ _ _ _ _=>trivial) O (λ_ _ _ ih=>congrArg (· + 1) ih)
theorem Dh{xs:List TK}(all:∀k∈xs,uo prog w k):uo prog w (.tup xs):=by
 intro A E s v Q y t h;cases t with
 | @tup a o p n _ r hc u hi=>
  have j:s.TypeIs (.ref a) "tuple":=⟨o,r,hc⟩;rw[TK.dep]at y;unfold pyHash
  first|unfold pyHashByItsType|skip
  first|refine wB1 (wpAny_cRoomFor_or (.inr (by lia)) ?_)|skip
  refine wB1 (Sf j F.slot_tuple_hash.lookup ?_);show dJ _ _ (if(Z (Value.builtin "tuple.__hash__") == Z P9)=M then _ else _) Q E s;rw[aj (by rw[beq_builtin_none];exact aL)];refine wB1 (Sf j F.slot_tuple_hash.lookup ?_);show dJ _ _ (callSpecialIfBoundUnlessNone? (.ref a) "__hash__" _ >>= _) Q E s;refine wB1 (Sg j F.slot_tuple_hash (wE1 F.slot_tuple_hash j F.entry_tuple_hash ?_ (F.args_tuple_hash_1 _)));show dJ _ _ (Rl (.ref a) >>= _) _ _ s;refine wB1 (wpAny_tupleItemsOf r u ?_);refine wB1 ?_;rw[<- bZ];refine Sc _
   (λrest (b:Array Int) s'=>∃c d,xs=c++d/\fA s.heap d rest/\b.toList=TK.hashes c/\s'={s with toks:=s.toks+TK.drawsAll c})
   _ ?_ ?_ _ _ ⟨[],xs,O,hi,O,O⟩
  ·rintro x rest b s' ⟨c,d,e,m,i,rfl⟩;cases m with
   | @cons k _ f _ h1 g=>
    have q:k∈xs:=by rw[e];simp
    refine wB1 (all k q (show A.in1.units+k.dep<QX by have:=TK.dep_mem q;rw[show A.in1.units=A.units+1 from rfl];lia) h1 ?_)
    first
     |exact wP1 ⟨c++[k],f,by simp[e],g,by rw[TK.hashes_app];simp[i,TK.hashes],by rw[TK.draws_app];simp[TK.drawsAll,bm]⟩
     |exact wB1 (wP1 (wP1 ⟨c++[k],f,by simp[e],g,by rw[TK.hashes_app];simp[i,TK.hashes],by rw[TK.draws_app];simp[TK.drawsAll,bm]⟩))
  ·rintro b s' ⟨c,d,e,m,i,rfl⟩;cases m;rw[aN]at e;subst e;show dJ _ _ (retInt (RD b.toList)) _ _ _;rw[i];refine wpAny_ret_mkInt ?_;show dJ _ _ (if(decide (-(2:Int)^63<=RD (TK.hashes xs))&&decide (RD (TK.hashes xs)<2^63))=M then _ else _) Q E _;rw[TK.hash,TK.draws]at h;unfold reduceHash at h;by_cases l:(decide (-(2:Int)^63<=RD (TK.hashes xs))&&decide (RD (TK.hashes xs)<2^63))=M
   ·rw[ak l];rw[ak l]at h;exact wP1 (by simpa[bm]using h)
   ·rw[aj l];rw[aj l]at h;exact wB1 (QE (wP1 (by simpa[bm]using h)))
mutual
theorem tV:∀k:TK,uo prog w k
 | .non=>λb a h=>by cases a;exact uP h
 | .int i=>λb a h=>by cases a;exact wpAny_pyHash_int h
 | .tup xs=>Dh (vp xs)
theorem vp:∀ks:List TK,∀k∈ks,uo prog w k
 |[],k,h=>by simp at h
 |x::xs,k,h=>by
  by_cases e:k=x
  ·rw[e];exact tV x
  ·exact vp xs k ((aF.mp h).resolve_left e)
end
end
theorem fq.inj{h:dM}:∀ {k k':TK} {v:dz},fq h k v->fq h k' v->k=k':=fun j=>j.rec (motive_1:=fun k v _=>∀ k',fq h k' v->k=k') (motive_2:=fun k v _=>∀ k',fA h k' v->k=k')
  (λk' g=>by cases g;rfl) (λ_ _ k' g=>by cases g;rfl)
  (λe m f n ih k' g=>by
   cases g with
   |tup d l c i=>
    rw[e]at d;cases d;rw[f]at c;cases c;rw[ih _ i])
  (λk' g=>by cases g;rfl) (λ_ _ a b k' g=>by cases g with|cons r' t'=>rw[a _ r',b _ t']) _
theorem fq.keeps{h h':dM}{d:dB}{o:Obj}{es ep}(ho:h.get? d=some o)(hd:o.data = .dict es ep)(hs:Ql d h h'):∀ {k:TK} {v:dz},fq h k v->fq h' k v:=fun f=>f.rec (motive_1:=fun k v _=>fq h' k v) (motive_2:=fun k v _=>fA h' k v) .non .int
  (λ{a} _ _ _ _ c g e _ ih=>.tup ((hs.2 a (λz=>by subst z;rw[c]at ho;cases ho;rw[e]at hd;cases hd)).trans c) g e ih) .nil (λ_ _ a b=>.cons a b)
theorem fA.at{h:dM}:∀{ks:List TK} {vs:List dz} (j:Nat) (h1:j<ks.length) (h2:j<vs.length),fA h ks vs->fq h ks[j] vs[j]
 |_::_,_::_,0,_,_,.cons r _=>r
 |_::ks,_::vs,j+1,h1,h2,.cons _ t=>fA.at j (by simpa using h1) (by simpa using h2) t
theorem D7{xs ys:List TK}(b:xs.length=ys.length):((af (min xs.length ys.length)).all λj=>decide (xs[j]?=ys[j]?))=decide (xs=ys):=by
 by_cases h:xs=ys
 ·subst h;simp
 ·rw[ai h,List.all_eq_false];have:∃j,xs[j]? ≠ ys[j]?:=Sh λz=>h (b0 λj=>Sh λq=>z ⟨j,q⟩);obtain⟨j,a⟩:=this;refine⟨j,?_,by simpa using a⟩;rw[aC,b,bR];apply Sh;intro c;exact a (by rw[b4 (by lia),b4 (by lia)])
theorem HS:∀(n:Nat) {k k':TK} {A:dE} {s:dA} {u v:dz},k.dep<=n->A.units+n<QX->fq s.heap k u->fq s.heap k' v->Rr A s u v (decide (k=k')):=by
 intro n
 induction n with
 |zero=>
  intro k k' A s u v D R r g;cases r with
  |tup _ _ _ _=>simp[TK.dep]at D
  |non=>
   cases g with
   |non=>simpa using SeqAt.EqAt.same (A:=A) (s:=s) P9
   |int i t=>simpa[wc]using lG (A:=A) (s:=s) (y:=.non) (x:=.int i) O ⟨t,O⟩ O O
   |tup e c d t=>simpa using(fF (A:=A) (s:=s) (b:=J) (v:=.non) (u:=.none) ⟨_,e,c,_,d⟩ O O (by lia)).2.1
  |int i t=>
   cases g with
   |non=>simpa[wc]using lG (A:=A) (s:=s) (y:=.int i) (x:=.non) ⟨t,O⟩ O O O
   |int j I=>
    have:=lG (A:=A) (s:=s) (y:=.int i) (x:=.int j) ⟨t,O⟩ ⟨I,O⟩ O O;have e:wc (.int i) (.int j)=decide (TK.int i=TK.int j):=by
     by_cases h:i=j
     ·subst h;simp[wc]
     ·rw[ai (λz=>h (by injection z))];simp[wc,h]
    rw[e]at this;exact this
   |tup e c d q=>simpa using(fF (A:=A) (s:=s) (b:=J) (v:=.int i) (u:=.int i t) ⟨_,e,c,_,d⟩ ⟨t,O⟩ O (by lia)).2.1
 |succ n ih=>
  intro k k' A s u v D R r g;cases r with
  |non=>
   cases g with
   |non=>simpa using SeqAt.EqAt.same (A:=A) (s:=s) P9
   |int i t=>simpa[wc]using lG (A:=A) (s:=s) (y:=.non) (x:=.int i) O ⟨t,O⟩ O O
   |tup e c d t=>simpa using(fF (A:=A) (s:=s) (b:=J) (v:=.non) (u:=.none) ⟨_,e,c,_,d⟩ O O (by lia)).2.1
  |int i t=>
   cases g with
   |non=>simpa[wc]using lG (A:=A) (s:=s) (y:=.int i) (x:=.non) ⟨t,O⟩ O O O
   |int j I=>
    have:=lG (A:=A) (s:=s) (y:=.int i) (x:=.int j) ⟨t,O⟩ ⟨I,O⟩ O O;have e:wc (.int i) (.int j)=decide (TK.int i=TK.int j):=by
     by_cases h:i=j
     ·subst h;simp[wc]
     ·rw[ai (λz=>h (by injection z))];simp[wc,h]
    rw[e]at this;exact this
   |tup e c d q=>simpa using(fF (A:=A) (s:=s) (b:=J) (v:=.int i) (u:=.int i t) ⟨_,e,c,_,d⟩ ⟨t,O⟩ O (by lia)).2.1
  | @tup a o f m xs B w l E=>
   cases g with
   |non=>simpa using(fF (A:=A) (s:=s) (b:=J) (v:=.non) (u:=.none) ⟨_,B,w,_,l⟩ O O (by lia)).1
   |int i t=>simpa using(fF (A:=A) (s:=s) (b:=J) (v:=.int i) (u:=.int i t) ⟨_,B,w,_,l⟩ ⟨t,O⟩ O (by lia)).1
   | @tup a2 Q items2 m2 ys P N av C=>
    by_cases ao:a=a2
    ·subst ao;have:TK.tup xs=TK.tup ys:=fq.inj (.tup B w l E) (.tup P N av C);rw[ah this];exact .same _
    ·refine .of_refs ao ?_;have aq:=E.split;have K:=C.split;have F:=SeqAt.RcAt.tuples (A:=A) (s:=s) (e:=fun j=>decide (xs[j]? = ys[j]?)) ⟨o,B,w,m,l⟩ ⟨Q,P,N,m2,av⟩ (by lia) (fun j h1 h2=>by
      have H:j<xs.length:=by rw[aq];simpa using h1
      have L:j<ys.length:=by rw[K];simpa using h2
      rw[TK.dep]at D;have V:=TK.dep_mem (bU H);have q:=ih (k:=xs[j]) (k':=ys[j]) (A:=A.in1) (s:=s) (by lia) (by show A.units+1+n<QX;lia) (E.at j H (by simpa using h1)) (C.at j L (by simpa using h2));have e:decide (xs[j]?=ys[j]?)=decide (xs[j]=ys[j]):=by
       rw[gG1 H,gG1 L];simp
      rw[e];simpa using q)
     have T:f.size=xs.length:=by rw[aq];simp
     have S:items2.size=ys.length:=by rw[K];simp
     rw[T,S]at F;have G:((af (min xs.length ys.length)).all (λj=>decide (xs[j]?=ys[j]?))&&xs.length == ys.length)=decide (TK.tup xs=TK.tup ys):=by
      by_cases p:xs.length=ys.length
      ·rw[D7 p,p,Sa,bM];by_cases h:xs=ys
       ·subst h;simp
       ·rw[ai h,ai (λz=>h (by injection z))]
      ·have U:(xs.length == ys.length)=J:=by simpa using p
       rw[U,Bool.and_false,ai (λz=>p (by injection z with z;rw[z]))]
     rw[G]at F;exact F
theorem oZ{prog:dD}{w:dF}:∀(n:Nat) {k:TK} {A:dE} {E:dz->dA->Prop} {s:dA} {v:dz} {Q:Bool->dA->Prop},k.dep<=n->fq s.heap k v->Q M s->dJ (Qm prog w) A (eqIsQuiet n v) Q E s:=by
 intro n
 induction n with
 |zero=>
  intro k A E s v Q e r h;cases r with
  |non=>rw[Si 0 O];exact wP1 h
  |int i t=>rw[Si 0 O];exact wP1 h
  |tup _ _ _ _=>simp[TK.dep]at e
 |succ n ih=>
  intro k A E s v Q e r h;cases r with
  |non=>rw[Si _ O];exact wP1 h
  |int i t=>rw[Si _ O];exact wP1 h
  | @tup a o b m xs f p l x=>
   have g:s.TypeIs (.ref a) "tuple":=⟨o,f,p⟩;rw[TK.dep]at e;unfold eqIsQuiet;refine wB1 (Sf g F.slot_tuple_eq.lookup ?_);show dJ _ _ (isInstance (.ref a) (.type "tuple") >>= _) _ _ s;refine wB1 (R3 g isSubtype_tuple_tuple ?_);simp only[b5,bF1,Rc];refine wB1 (RT f l ?_);refine wB1 ?_;show dJ _ _ (forIn b _ _) _ _ s;rw[<- bZ];refine Sc _ (λrest r s'=>r.1=Y/\s'=s /\ ∃ks,fA s.heap ks rest/\TK.depAll ks<=n) _ ?_ ?_ _ _ ⟨O,O,xs,x,by lia⟩
   ·rintro v rest r s' ⟨d,rfl,ks,u,j⟩;cases u with
    | @cons q _ c _ z y=>
     rw[TK.depAll]at j;refine wB1 (ih (k:=q) (by lia) z ?_);simp only[b5,bF1,Rc];exact wP1 ⟨O,O,c,y,by lia⟩
   ·rintro⟨B,r2⟩ s' ⟨d,rfl,_⟩;simp only at d;subst d;exact wP1 h
def ju(prog:dD)(w:dF):HeapKind prog w TK where
 is:=λh k a=>fq h k (.ref a)/\k.dep<=8
 hash:=TK.hash
 draws:=TK.draws
 room:=λA=>A.units+8<QX
 inj:=λhx hy=>hx.1.inj hy.1
 keeps:=λx ho hd hs=>⟨x.1.keeps ho hd hs,x.2⟩
 pyHash:=λhu hk h=>tV _ (by have:=hk.2;omega) hk.1 h
 eqBool:=λhu hx hy h=>HS 8 hx.2 hu hx.1 hy.1 _ _ _ _ h
 quiet:=λhk h=>oZ 8 hk.2 hk.1 h
noncomputable def PH:G2:=λo v S=>match o,v with
 | .ref n,.ref b=>match S[n]?,S[b]? with
  |some (.lst xs),Z (.lst ys)=>if xs.length+ys.length<=dI then Z (.non,S.set n (.lst (xs++ys)))else Y
  |_,_=>Y
 |_,_=>Y
noncomputable def Mx(n:Nat)(k:Int):Nat:=if k<0 then(k+(n:Int)).toNat else min k.toNat n
def PF:G3:=λo i v S=>match o,i with
 | .ref n,.int k=>match S[n]? with
  |some (.lst xs)=>if-(2^63)<=k/\k<2^63/\xs.length<dI then Z (.non,S.set n (.lst (xs.take (Mx xs.length k)++v::xs.drop (Mx xs.length k))))else Y
  |_=>Y
 |_,_=>Y
noncomputable def qz(f:D->D->Option Bool)(x:D):List D->Option (List Bool)
 |[]=>Z []
 |y::ys=>(f y x).bind λb=>(qz f x ys).map (b :: ·)
def Dm:G2:=λo x S=>match o with
 | .ref n=>match S[n]? with
  |some (.lst ys)=>(qz (jm S eu) x ys).bind λbs=>if bs.length<2^62 then(bs.findIdx? id).map λj=>(.int (j:Nat),S)else Y
  |_=>Y
 |_=>Y
theorem t5(f:D->D->Option Bool)(x:D):∀{ys:List D} {bs:List Bool},qz f x ys=Z bs->bs.length=ys.length /\ ∀(j:Nat) (y:D) (k:Bool),ys[j]?=Z y->bs[j]?=Z k->f y x=Z k
 |[],bs,h=>by cases h;exact⟨O,λj y k h=>by simp at h⟩
 |y::ys,bs,h=>by
  rw[qz]at h;obtain⟨b,eb,h⟩:=Th h;obtain⟨bt,c,h⟩:=Ti h;obtain⟨d,a1⟩:=t5 f x c;subst h;refine⟨by simp[d],λj=>?_⟩;cases j with
  |zero=>intro a k h1 h2;simp at h1 h2;subst h1;subst h2;exact eb
  |succ j=>intro a k h1 h2;exact a1 j a k (by simpa using h1) (by simpa using h2)
section
open PySem.MeetsSeq PySem.MeetsSeq2 PySem.MeetsSeq3 PySem.SeqRoads2
theorem vo{l:dB}{its:Array dz}{n:Nat}{x:dz}{e:Nat->Bool}{top:Int}{j:Nat}(f:j<its.size)(ht:(j:Int)<top)(c:e j=true):∀ (k i:Nat),i+k=j->(∀ m,i<=m->m<j->e m=false) ->
  Meets (Builtin.«list.index.loop» ⟨[.ref l,x,QK i,QK top],[]⟩)
   (λA R s=>s.heap.get? l=Z {cls:=.type "list",data:=.seq its n}/\(∀m (h:m<its.size),Rr A.in1 s its[m] x (e m))/\R (.ok (.ret (.int j s.toks))) {s with toks:=s.toks+1})
 |0,i,hk,hno,prog,w,A,R,⟨hp,g,d,tk,os⟩,⟨hl,he,h⟩=>by
  have o:i=j:=by lia
  subst o
  wp_walk using Sj hl
  rw[show(if(i:Int)<top then its[((i:Nat):Int).toNat]? else Y)=Z its[i] by simp[ht,f]];refine wB1 (he i f prog w _ _ ?_);rw[c]
  wp_walk
  exact h
 |k+1,i,hk,hno,prog,w,A,R,⟨hp,g,d,tk,os⟩,⟨hl,he,h⟩=>by
  have h1:i<its.size:=by lia
  have h2:(i:Int)<top:=by lia
  wp_walk using Sj hl
  rw[show(if(i:Int)<top then its[((i:Nat):Int).toNat]? else Y)=Z its[i] by simp[h1,h2]];refine wB1 (he i h1 prog w _ _ ?_);rw[hno i (nR1 i) (by lia)]
  wp_walk
  rw[show((i:Int)+1)=((i+1:Nat):Int) by push_cast;rfl];have z:=vo (l:=l) (n:=n) (x:=x) f ht c k (i+1) (by lia) (λm a b=>hno m (by lia) b) prog w A R _ ⟨hl,he,h⟩;exact⟨Sd Sk _,wD1 entry_index_loop (by rw[Se Sk _];exact z)⟩
theorem Df{l:dB}{its:Array dz}{n:Nat}{x:dz}{e:Nat->Bool}{j:Nat}(o:j<its.size)(ht:(j:Int)<2^63-1)(c:e j=true)(a:∀ m,m<j->e m=false):
  Meets (Builtin.«list.index» ⟨[.ref l,x],[]⟩)
   (λA R s=>s.heap.get? l=Z {cls:=.type "list",data:=.seq its n}/\(∀m (h:m<its.size),Rr A.in1 s its[m] x (e m))/\R (.ok (.ret (.int j s.toks))) {s with toks:=s.toks+1}):=by
 intro prog w A R ⟨q,g,d,tk,p⟩ ⟨f,k,h⟩
 wp_walk using Sj f
 rw[show((λi:Int=>if i<0 then max 0 (i+(its.size:Int))else i) ((Y:Option Int).getD 0))=((0:Nat):Int) by simp,show((λi:Int=>if i<0 then max 0 (i+(its.size:Int))else i) ((Y:Option Int).getD (2^63-1)))=2^63-1 by simp];have z:=vo (l:=l) (n:=n) (x:=x) o ht c j 0 (by lia) (λm _ b=>a m b) prog w A R _ ⟨f,k,h⟩;exact⟨Sd Sk _,wD1 entry_index_loop (by rw[Se Sk _];exact z)⟩
end
theorem LA(au:X.A.units+64<QX):Et X "list.index" (λx xs H Q=>rN X.K (b2 Dm) (x::xs) H Q):=by
 intro ag s σ H x xs v us Q I G av h;obtain⟨U,y,mu,S,d,e,r',wq,B,E,r2,l,a,hc⟩:=zJ h;cases B;unfold Dm at a;split at a
 ·rename_i n;split at a
  ·rename_i ys R;obtain⟨bs,eb,a⟩:=Th a;split at a
   ·rename_i q;obtain⟨j,p,a⟩:=Ti a;cases a;cases E with
    |ref w=>
     obtain⟨vs,N,t⟩:=l.lst R w;cases G;obtain⟨u,rfl,P⟩:=av.one;obtain⟨z,b,C,c,hl,e⟩:=I.lstM N;obtain⟨l1,g⟩:=t5 _ _ eb;have W:=t.length;have V:=c.length;rw[b6]at p;obtain⟨ao,f,o⟩:=p;have k:∀m (a:m<b.toArray.size),Rr X.A.in1 s b.toArray[m] u (bs[m]?.getD J):=λm a=>by
      have m1:m<b.length:=by simpa using a
      obtain⟨K,L,aq⟩:=t.getV (i:=m) (v:=vs[m]'(by lia)) (gG1 (by lia));obtain⟨w',r,T⟩:=c.get (i:=m) (x:=vs[m]'(by lia)) (gG1 (by lia));have m2:m<bs.length:=by lia
      have D:b.toArray[m]=w':=by
       have:=gG1 m1;rw[this]at r;simpa using r
      rw[D,gG1 m2];exact(lF I l eu (A:=X.A.in1) (by show X.A.units+1+60<QX;lia) aq r2 T P (g m K bs[m] L (gG1 m2))).1
     refine call_meets F.slot_list_index ⟨_,e,O⟩ F.entry_list_index (F.args_list_index_2 _ _)
      (Df (n:=C) (e:=λm=>bs[m]?.getD J) (j:=j) (by simp;lia) (by lia) ?_ ?_) ⟨e,k,?_⟩
     ·simp only[gG1 ao,b7];simpa using f
     ·intro m a;have m2:m<bs.length:=by lia
      have:=o m a;simp only[gG1 m2,b7];simpa using this
     ·exact⟨.int j,H,I.tok _,⟨_,O⟩,hc.now (.int _) l⟩
   ·cases a
  ·cases a
 ·cases a
mutual
noncomputable def kD:D->Option TK
 | .non=>Z .non
 | .int i=>Z (.int i)
 | .tup xs=>(Af xs).map .tup
 |_=>Y
noncomputable def Af:List D->Option (List TK)
 |[]=>Z []
 |x::xs=>(kD x).bind λk=>(Af xs).map (k :: ·)
end
def keyT:D->Option TK
 | .tup xs=>(Af xs).bind λks=>if(TK.tup ks).dep<=8 then Z (.tup ks)else Y
 |_=>Y
mutual
theorem Mw:∀{d:D} {k:TK},kD d=Z k->tkD k=d
 | .non,k,h=>by cases h;rfl
 | .int i,k,h=>by cases h;rfl
 | .tup xs,k,h=>by
  rw[kD]at h;obtain⟨ks,e,h⟩:=Ti h;subst h;rw[tkD,wR e]
 | .bl _,k,h=>by simp[kD]at h
 | .str _,k,h=>by simp[kD]at h
 | .rol _,k,h=>by simp[kD]at h
 | .fn _,k,h=>by simp[kD]at h
 | .ref _,k,h=>by simp[kD]at h
theorem wR:∀{ds:List D} {ks:List TK},Af ds=Z ks->jM ks=ds
 |[],ks,h=>by cases h;rfl
 |x::xs,ks,h=>by
  rw[Af]at h;obtain⟨k,a,h⟩:=Th h;obtain⟨t,b,h⟩:=Ti h;subst h;rw[jM,Mw a,wR b]
end
theorem mn{d:D}{k:TK}(h:keyT d=Z k):tkD k=d/\k.dep<=8 /\ ∃xs,k = .tup xs:=by
 cases d with
 |tup xs=>
  rw[keyT]at h;obtain⟨ks,e,h⟩:=Th h;split at h
  ·rename_i a;cases h;exact⟨by rw[tkD,wR e],a,ks,O⟩
  ·cases h
 |_=>cases h
section
variable{ag:List (dB×Obj)}{σ:L2.St}{H:Hp}{s:dA}{mu:List dB}
mutual
theorem xM(I:Inv X ag σ H s):∀(k:TK) {v:V} {u:dz},fg X.K H mu (tkD k) v->eg v u->fq s.heap k u
 | .non,v,u,r,q=>by
  rw[tkD]at r;cases r;cases q;exact .non
 | .int i,v,u,r,q=>by
  rw[tkD]at r;cases r;obtain⟨t,rfl⟩:=q;exact .int i t
 | .tup xs,v,u,r,q=>by
  rw[tkD]at r;cases r with
  |tup h t=>
   cases q;obtain⟨e,d,⟨o,a,b,n,c⟩,_⟩:=I.tuple h;exact .tup a b c (by simpa using wu I xs t d)
theorem wu(I:Inv X ag σ H s):∀(ks:List TK) {vs:List V} {a:List dz},d8 X.K H mu (jM ks) vs->ez vs a->fA s.heap ks a
 |[],vs,a,r,q=>by rw[jM]at r;cases r;cases q;exact .nil
 |k::ks,vs,a,r,q=>by
  rw[jM]at r;cases r with
  |cons r t=>cases q with
   |cons q p=>exact .cons (xM I k r q) (wu I ks t p)
end
theorem wE{α β γ δ:Type}{F:α->β->Prop}{G:γ->δ->Prop}{f:α->γ}{g:β->δ}:∀{l₁:List α} {l₂:List β},Paired F l₁ l₂->(∀a b,F a b->G (f a) (g b))->Paired G (l₁.map f) (l₂.map g):=by
 intro a b h g
 induction h with
 |nil=>exact .nil
 |cons r t ih=>exact .cons (g _ _ r) ih
theorem wF{α β:Type}{F:α->β->Prop}:∀{l₁ f:List α} {l₂ e:List β},Paired F l₁ l₂->Paired F f e->Paired F (l₁++f) (l₂++e):=by
 intro a b c d h g
 induction h with
 |nil=>exact g
 |cons r t ih=>exact .cons r ih
theorem KT.length{K:Fg1}:∀{ks:List (TK×D)} {ws:List (TK×dB×dz)},KT K H mu ks ws->ks.length=ws.length:=λh=>Paired.length h
theorem KT.mem{K:Fg1}:∀{ks:List (TK×D)} {ws:List (TK×dB×dz)},KT K H mu ks ws -> ∀x∈ws,x.1.dep<=8/\fg K H mu (tkD x.1) (.ref x.2.1):=by
 intro ks ws a x h
 induction a with
 |nil=>cases h
 |cons r t ih=>
  rcases aF.mp h with e|e
  ·subst e;rw[<- r.1];exact⟨r.2.1,r.2.2.1⟩
  ·exact ih e
theorem KT.look{K:Fg1}{k:TK}:∀ {ks:List (TK×D)} {ws:List (TK×dB×dz)},KT K H mu ks ws ->
  (∀d,d6 ks k=Z d -> ∃p v,RB ws k=Z p/\eg v p.2/\fg K H mu d v)/\(RB ws k).isSome=(d6 ks k).isSome:=by
 intro ks ws h
 induction h with
 |nil=>exact⟨λd h=>by simp[d6]at h,O⟩
 | @cons p j ks ws r t ih=>
  obtain⟨a,e⟩:=p;obtain⟨l,a2,c⟩:=j;obtain⟨z,d,q,v,f,r⟩:=r;dsimp only at z q f r;subst z;obtain⟨h1,h2⟩:=ih;by_cases b:a=k
  ·subst b;refine⟨λd h=>?_,by simp[RB,d6]⟩;have:e=d:=by simpa[d6]using h
   subst this;exact⟨(a2,c),v,by simp[RB],f,r⟩
  ·have g:d6 ((a,e)::ks) k=d6 ks k:=by simp[d6,bc,b]
   have i:RB ((a,a2,c)::ws) k=RB ws k:=by simp[RB,bc,b]
   rw[g,i];exact⟨h1,h2⟩
theorem KT.put{K:Fg1}{k:TK}{d:D}{v:V}{a:dB}{u:dz}(hk:k.dep<=8)(m:fg K H mu (tkD k) (.ref a))(g:eg v u)(q:fg K H mu d v){ks:List (TK×D)}{ws:List (TK×dB×dz)}(h:KT K H mu ks ws):KT K H mu (hO ks k d) (storedH ws k a u):=by
 unfold hO storedH;have e:(ks.any λp=>decide (p.1=k))=(RB ws k).isSome:=by
  rw[h.look.2];unfold d6;rw[bg,bS,List.find?_isSome,bT]
 rw[e];split
 ·clear e;refine wE h λp w ⟨z,i,f,l,c,j⟩=>?_;unfold putAt;by_cases b:p.1=k
  ·rw[ak b,ak (by rw[<- z];exact b)];exact⟨z,i,f,v,g,q⟩
  ·rw[aj b,aj (by rw[<- z];exact b)];exact⟨z,i,f,l,c,j⟩
 ·exact wF h (.cons ⟨O,hk,m,v,g,q⟩ .nil)
theorem vI(I:Inv X ag σ H s){a:dB}{xs:List (TK×dB×dz)}{kvs:List (TK×D)}(e:H a=Z (.ext (kq a xs)))(h:KT X.K H mu kvs xs):(a == Qe)=J/\s.heap.DictOfH (ju X.prog X.w) a xs:=by
 obtain⟨⟨h1,h2,o,es,ep,f,c,g,d⟩,_⟩:=(show e9 X.prog X.w H s.heap a (.ext (kq a xs))from I.hok a _ e);exact⟨h1,o,es,ep,f,c,g,d,λx b=>⟨xM I _ (h.mem x b).2 O,(h.mem x b).1⟩,h2⟩
theorem yQ{h:dM}{a:dB}{xs:List (TK×dB×dz)}(hd:(a == Qe)=J)(hm:h.DictOfH (ju X.prog X.w) a xs):e9 X.prog X.w H h a (.ext (kq a xs)):=by
 obtain⟨o,es,ep,d,e,k,g,p,j⟩:=hm;refine⟨⟨hd,j,o,es,ep,d,e,k,g⟩,⟨o,d⟩,λn m ⟨a1,a2,o',b,c,b3,f,i,l⟩ st=>⟨a1,a2,o',b,c,st _ b3,f,i,l⟩⟩
end
def j7:G2:=λd e S=>match e with
 | .ref n=>match S[n]? with
  |some (.dcT kvs)=>(keyT d).map λk=>(.bl (d6 kvs k).isSome,S)
  |_=>wX d e S
 |_=>wX d e S
def gh:G2:=λd e S=>match e with
 | .ref n=>match S[n]? with
  |some (.dcT kvs)=>(keyT d).map λk=>(.bl (!(d6 kvs k).isSome),S)
  |_=>jz d e S
 |_=>jz d e S
def dW:G2:=λd e S=>match d with
 | .ref n=>match S[n]? with
  |some (.dcT kvs)=>(keyT e).bind λk=>(d6 kvs k).map λx=>(x,S)
  |some (.dcF kvs)=>(keyT e).bind λk=>(d6 kvs k).map λx=>(x,S)
  |_=>nj d e S
 |_=>nj d e S
def jG:G3:=λo i v S=>match o with
 | .ref n=>match S[n]? with
  |some (.dcT kvs)=>(keyT i).bind λk=>if kvs.length<dI then Z (.non,S.set n (.dcT (hO kvs k v)))else Y
  |some (.dct [])=>match keyT i with
   |some k=>Z (.non,S.set n (.dcT [(k,v)]))
   |none=>nL o i v S
  |_=>nL o i v S
 |_=>nL o i v S
theorem vf{κ:Type}[DecidableEq κ](kvs:List (κ×D))(k:κ)(d:D):(hO kvs k d).length<=kvs.length+1:=by
 unfold hO;split
 ·rw[lM1];lia
 ·simp
theorem vE{h:dM}{a:dB}(dd:h.DictOf (ft X.prog X.w) a []):h.DictOfH (ju X.prog X.w) a []:=by
 obtain⟨o,es,ep,h1,h2,c,_,b,_⟩:=dd;have e:es.toList=[]:=by
  generalize es.toList=l at b;cases b;rfl
 exact⟨o,es,ep,h1,h2,c,e,(λx d=>by simp at d),bp⟩
theorem kC{A:dE}(a:A.units+64<QX):(ju X.prog X.w).room A.in1:=by
 show A.units+1+8<QX;lia
theorem m7{ag:List (dB×Obj)}{σ:L2.St}{H:Hp}{s:dA}{mu:List dB}(I:Inv X ag σ H s){d:D}{v:V}{u:dz}{k:TK}(r:fg X.K H mu d v)(q:eg v u)(h:keyT d=some k):
  ∃a,u = .ref a/\v = .ref a/\fg X.K H mu (tkD k) (.ref a)/\k.dep<=8/\(ju X.prog X.w).is s.heap k a:=by
 obtain⟨e,b,xs,ex⟩:=mn h;subst e;have is:=xM I k r q;subst ex;cases id is with
 | @tup a _ _ _ _ _ _ _ _=>
  rw[tkD]at r;cases r with
  |tup h1 h2=>
   cases q;exact⟨a,O,O,by rw[tkD];exact .tup h1 h2,b,is,b⟩
theorem rz(o:X.A.units+64<QX):gU X (QQ .In) (r2 X.K (b2 j7)):=by
 intro ag s σ H x y u w Q I l m h;obtain⟨mu,S,d,e,r,g,i,c,f,b,hc⟩:=qo h;have back:wX d e S=Z (r,g)->dJ (Qm X.prog X.w) X.A (QQ .In u w) (EP X ag σ Q) X.xe s:=λb=>Mg o ag s σ H x y u w Q I l m ⟨mu,S,[d,e],r,g,.cons i (.cons c .nil),f,b,hc⟩;unfold j7 at b;split at b
 ·rename_i n;split at b
  ·rename_i kvs z;obtain⟨k,q,b⟩:=Ti b;cases b;cases c with
   |ref p=>
    cases m;obtain⟨xs,A,j,_⟩:=f.dcT z p;obtain⟨v,t⟩:=vI I A j;obtain⟨a,rfl,rfl,_,_,hi⟩:=m7 I i l q;refine wpAny_in_heap (kC o) hi v t ?_;exact⟨.bl (RB xs k).isSome,H,I.tok _,O,by rw[j.look.2];exact hc.now (.bl _) f⟩
  ·exact back b
 ·exact back b
theorem pj(o:X.A.units+64<QX):gU X (QQ .NotIn) (r2 X.K (b2 gh)):=by
 intro ag s σ H x y u w Q I l m h;obtain⟨mu,S,d,e,r,g,i,c,f,b,hc⟩:=qo h;have back:jz d e S=Z (r,g)->dJ (Qm X.prog X.w) X.A (QQ .NotIn u w) (EP X ag σ Q) X.xe s:=λb=>Ct o ag s σ H x y u w Q I l m ⟨mu,S,[d,e],r,g,.cons i (.cons c .nil),f,b,hc⟩;unfold gh at b;split at b
 ·rename_i n;split at b
  ·rename_i kvs z;obtain⟨k,q,b⟩:=Ti b;cases b;cases c with
   |ref p=>
    cases m;obtain⟨xs,A,j,_⟩:=f.dcT z p;obtain⟨v,t⟩:=vI I A j;obtain⟨a,rfl,rfl,_,_,hi⟩:=m7 I i l q;refine wpAny_notIn_heap (kC o) hi v t ?_;exact⟨.bl (!(RB xs k).isSome),H,I.tok _,O,by rw[j.look.2];exact hc.now (.bl _) f⟩
  ·exact back b
 ·exact back b
theorem KP{ag:List (dB×Obj)}{σ:L2.St}{H:Hp}{s:dA}{mu:List dB}(I:Inv X ag σ H s){a:dB}{xs:List (TK×dB×dz)}{kvs:List (TK×D)}(e:∃o u,H a=Z (.frz o u)/\Ia a xs o)(h:KT X.K H mu kvs xs):(a == Qe)=J/\s.heap.DictOfH (ju X.prog X.w) a xs:=by
 obtain⟨o,u,e,h1,h2,c,es,ep,g,d⟩:=e;obtain⟨f,_⟩:=(show e9 X.prog X.w H s.heap a (.frz o u)from I.hok a _ e);exact⟨h1,o,es,ep,f,c,g,d,λx b=>⟨xM I _ (h.mem x b).2 O,(h.mem x b).1⟩,h2⟩
theorem qP(F:X.A.units+64<QX):H7 X (r2 X.K (b2 dW)):=by
 intro value c ag s σ H x y v u Q I D ao h q;obtain⟨mu,S,d,e,r,B,C,m,t,f,hc⟩:=qo h;have back:nj d e S=Z (r,B)->dJ (Qm X.prog X.w) X.A (Ro value c v u) (EP X ag σ Q) X.xe s:=λf=>Lx F value c ag s σ H x y v u Q I D ao ⟨mu,S,[d,e],r,B,.cons C (.cons m .nil),t,f,hc⟩ q;have i:∀kvs a xs,v = .ref a->KT X.K H mu kvs xs->s.heap.DictOfH (ju X.prog X.w) a xs->((keyT e).bind λk=>(d6 kvs k).map λx=>(x,S))=Z (r,B)->dJ (Qm X.prog X.w) X.A (Ro value c v u) (EP X ag σ Q) X.xe s:=λkvs a xs av j K f=>by
  obtain⟨k,N,f⟩:=Th f;obtain⟨z,R,f⟩:=Ti f;cases f;subst av;obtain⟨b,rfl,rfl,_,_,hi⟩:=m7 I m ao N;obtain⟨p,aq,ep,P,L⟩:=j.look.1 _ R;have G:=K.typeIs;unfold Ro;refine wB1 ?_;rw[getitemInPython_of_ne G.not_modules];refine wB1 (Sf G PySem.F.slot_dict_getitem.lookup ?_);have l:dJ (Qm X.prog X.w) X.A (subscripted c J (.ref a) (.ref b)) (λr g=>dJ (Qm X.prog X.w) X.A (letTemporaryGo value (.ref a) r >>= λ_=>pure r) (EP X ag σ Q) X.xe g) X.xe s:=by
   rw[q];exact wpAny_operating (Qo (wpAny_getItem_heap (kC F) hi K ep (show EP X ag σ Q p.2 _ from⟨aq,H,I.tok _,P,hc.now L t⟩)) (λr g o=>wB1 (wpAny_letTemporaryGo (wP1 o))) λ_ _ x=>x)
  first
   |exact wP1 (wB1 l)
   |exact wB1 l
   |exact l
 unfold dW at f;split at f
 ·rename_i n;split at f
  ·rename_i kvs E;cases C with
   | @ref _ a w=>
    cases D;obtain⟨xs,A,j,_⟩:=t.dcT E w;exact i kvs a xs O j (vI I A j).2 f
  ·rename_i kvs E;cases C with
   | @ref _ a w=>
    cases D;obtain⟨xs,A,j,_⟩:=(show ql X.K H mu a (.dcF kvs)from t.ob n _ a E w);exact i kvs a xs O j (KP I A j).2 f
  ·exact back f
 ·exact back f
theorem oR(A:X.A.units+64<QX):xr X (rU X.K (b3 jG)):=by
 intro ag s σ H o i v T N u Q I F y x h;obtain⟨mu,S,ds,d,av,V,m,a,hc⟩:=id h;cases V with
 |cons K wq=>cases wq with
  |cons aq au=>cases au with
   |cons p U=>
    cases U;rename_i P R D;dsimp only[b3]at a;have back:nL P R D S=Z (d,av)->dJ (Qm X.prog X.w) X.A (setItem T N u) (λ_ s'=>∃H',Inv X ag σ H' s'/\Q H') X.xe s:=λa=>IJ A ag s σ H o i v T N u Q I F y x ⟨mu,S,[P,R,D],d,av,.cons K (.cons aq (.cons p .nil)),m,a,hc⟩;unfold jG at a;split at a
    ·rename_i n;split at a
     ·rename_i kvs L;obtain⟨k,E,a⟩:=Th a;split at a
      ·rename_i hl;cases a;cases K with
       | @ref _ j f=>
        cases F;obtain⟨xs,r,l,W⟩:=m.dcT L f;obtain⟨C,B⟩:=vI I r l;obtain⟨b,rfl,rfl,rk,w,hi⟩:=m7 I aq y E;refine wpAny_setItem_heap (hsz:=W) (kC A) hi B λh' e c=>?_;have g:∃q,h'.get? _=Z q:=let ⟨q,_,_,g,_⟩:=e;⟨q,g⟩
        have put:Ext mu mu H (upd H j (.ext (kq j (storedH xs k b u)))):=Ext.put r trivial (gM1 f);refine⟨_,kO I (by rw[r];exact QW) c g (yQ C e),hc _ mu put (m.put f r trivial ⟨_,eA,((l.put w rk x p).ext put),?_⟩)⟩;rw[<- (l.put w rk x p).length];have:=vf kvs k D;lia
      ·cases a
     ·rename_i L;split at a
      ·rename_i k E;cases a;cases K with
       | @ref _ j f=>
        cases F;obtain⟨ws,t,l⟩:=m.dct L f;cases l;obtain⟨z,C,vs,ao,B⟩:=vF I.hok t;cases ao;obtain⟨b,rfl,rfl,rk,w,hi⟩:=m7 I aq y E;have G:s.heap.DictOfH (ju X.prog X.w) _ []:=vE B;refine wpAny_setItem_heap (hsz:=bi _) (kC A) hi G λh' e c=>?_;have g:∃q,h'.get? _=Z q:=let ⟨q,_,_,g,_⟩:=e;⟨q,g⟩
        have put:Ext mu mu H (upd H j (.ext (kq j (storedH [] k b u)))):=Ext.put t trivial (gM1 f);exact⟨_,kO I (by rw[t];exact QW) c g (yQ C e),hc _ mu put (m.put f t trivial ⟨_,eA,KT.ext put (.cons ⟨O,w,rk,v,x,p⟩ .nil),(show 1<=dI by decide)⟩)⟩
      ·exact back a
     ·exact back a
    ·exact back a
def wt(S:Sto)(d:D):Option Bool:=match d with
 | .non=>Z J
 | .bl b=>Z b
 | .int i=>Z (i != 0)
 | .str y=>if y.length<=dI then Z ((y.length:Int) != 0)else Y
 | .ref n=>match S[n]? with
  |some (.dct kvs)=>Z (!kvs.isEmpty)
  |_=>(ee S d).map λp=> !p.2.isEmpty
 |_=>(ee S d).map λp=> !p.2.isEmpty
noncomputable def wb (m:FE):FT:=λr S=>(m r S).bind λp=>(wt p.2 p.1).map λb=>(b,p.2)
section
variable{K:Fg1}{H:Hp}{mu:List dB}{S:Sto}
theorem sN{d:D}{v:V}{b:Bool}(r:fg K H mu d v)(s:Sim K H mu S)(h:((ee S d).map λp=> !p.2.isEmpty)=Z b):Hs K v H b:=by
 obtain⟨⟨k,xs⟩,e,h⟩:=Ti h;obtain⟨a,vs,rfl,q,t⟩:=d5 r s e;have z:(!xs.isEmpty) = !vs.isEmpty:=by cases t<;>rfl
 dsimp only at h;rw[z]at h;cases k
 ·exact .inr (.inl ⟨vs,q,h.symm⟩)
 ·exact .inl ⟨vs,q,h.symm⟩
theorem Iq{d:D}{v:V}{b:Bool}(r:fg K H mu d v)(s:Sim K H mu S)(h:wt S d=Z b):Hs K v H b:=by
 cases d with
 |non=>cases r;cases h;rfl
 |bl k=>cases r;cases h;rfl
 |int i=>cases r;cases h;rfl
 |str y=>
  rw[wt]at h;split at h
  ·rename_i a;cases r;cases h;exact⟨a,O⟩
  ·cases h
 |tup xs=>exact sN r s h
 |rol xs=>exact sN r s h
 |fn x=>cases h
 |ref n=>
  rw[wt]at h;split at h
  ·rename_i kvs g;cases h;cases r with
   |ref c=>
    obtain⟨ws,e,f⟩:=s.dct g c;refine .inr (.inr ⟨ws,e,?_⟩);cases f<;>rfl
  ·exact sN r s h
end
theorem gH{X:Cx}{x:Expr}{f:FE}(h:XE X x f)(he:autoParam (∀a,isTrue x X.env a=(do let v<-a;Qz x.pos;Qy [v] (truthy v))) du0):XT X x (wb f):=
 ⟨wA (BZ h.h he) <| by
  rintro σ H Q ⟨r,mu,S,b,l,he,k,c,hc⟩;obtain⟨⟨m,n⟩,e,c⟩:=Th c;obtain⟨b1,i,c⟩:=Ti c;cases c;exact⟨r,mu,S,_,_,he,k,e,λv H1 mu1 j g d=>⟨_,Iq g d i,hc H1 mu1 j d⟩⟩⟩
section
variable{ag:List (dB×Obj)}{σ:L2.St}{H:Hp}{s:dA}{mu:List dB}
end
noncomputable def jy:List D->Option (List Int)
 |[]=>Z []
 | .int i::ds=>(jy ds).map λis=>i::is
 |_=>Y
noncomputable def ddI(ns:List Int):List Int:=ns.foldl Sl []
theorem my:∀(ns acc:List Int),acc.Nodup->(ns.foldl Sl acc).Nodup
 |[],acc,h=>h
 |n::ns,acc,h=>by
  rw[b8];refine my ns _ ?_;unfold Sl;split
  ·exact h
  ·rename_i f;rw[bx];refine⟨h,by simp,λa d b c e=>?_⟩;simp at c;apply f;rw[bT];exact⟨a,d,by simp[e,c]⟩
theorem vJ(ns:List Int):firstMet (λi=>ns.getD i 0) ns.length=ddI ns:=by
 unfold firstMet ddI
 congr 1
 apply List.ext_getElem
 ·simp
 ·intro i h1 h2;simp at h1 ⊢;rw[gG1 (by omega)];rfl
theorem na{K:Fg1}{H:Hp}{mu:List dB}:∀{ds:List D} {vs:List V} {a:List dz} {ns:List Int},d8 K H mu ds vs->ez vs a->jy ds=Z ns->Ry a ns/\ns.length=ds.length:=by
 intro ds vs a ns j b h
 induction j using d8.ind generalizing a ns with
 |hn=>cases h;cases b;exact⟨.nil,O⟩
 | @hc d v ds vs r t ih=>
  cases d with
  |int i=>
   obtain⟨c,e,h⟩:=Ti h;cases h;cases r;cases b with
   |cons r b=>
    obtain⟨f,g⟩:=ih b e;obtain⟨tk,rfl⟩:=r;exact⟨.cons _ _ f,by rw[lC1,lC1,g]⟩
  |_=>cases h
theorem mK(l:List Int):(λk'=>l.any (· == k'))=λk'=>l.contains k':=by
 funext k
 induction l with
 |nil=>rfl
 |cons x xs ih=>rw[bd,b9,ih,show(x == k)=(k == x)from Bool.beq_comm]
def tW:G1:=λd S=>match ee S d with
 |some (M,xs)=>(jy xs).bind λns=>if ns.length+1<Sn then Z (.ref S.length,S++[.iset (ddI ns)])else Y
 |_=>Y
theorem M5{k:Nat}(hr:ga k X.A):fc X (.type "set") (rN X.K (b1 tW)):=by
 intro ag s σ H xs ao Q I r h;obtain⟨x,mu,S,d,K,G,rfl,v,j,c,hc⟩:=BW h;unfold tW at c;split at c
 ·rename_i ys D;obtain⟨ns,e,c⟩:=Th c;split at c
  ·rename_i C;cases c;obtain⟨a,vs,rfl,q,t⟩:=d5 v j D;cases r with
   |cons E rt=>
    cases rt;cases E;obtain⟨f,B,⟨o,n,F,i,p,A⟩,_⟩:=I.list q;obtain⟨hi,m⟩:=na t B e;have g:f.toArray.size=ns.length:=by rw[sT1,hi.length]
    refine PySem.call_set_list (items:=f.toArray) (ns:=ns) hr.hd ⟨o,F,i,⟨n,A⟩⟩ (by simpa using hi) (by rw[g];exact C) λh' tk l w=>?_;rw[g,vJ]at l;have nd:(ddI ns).Nodup:=my ns [] bp;have y:=mK (ddI ns);rw[y]at l;refine⟨.ref s.heap.objs.size,upd H s.heap.objs.size (.set (λk=>(ddI ns).contains k) (ddI ns).length),I.laid (λb u z=>w b u (hL1 z) z) (nR1 _) l,O,?_⟩;exact hc _ _ (mu++[s.heap.objs.size]) (Ext.new_ I.fresh) (.ref (gM j.len _)) (j.new I.fresh ⟨eA,nd⟩)
  ·cases c
 ·cases c
def rQ:G1:=λd S=>match d with
 | .ref n=>match S[n]? with
  |some (.iset xs)=>Z (.int xs.length,S)
  |_=>eM d S
 |_=>eM d S
theorem DV:fc X (.builtin "len") (rN X.K (b1 rQ)):=by
 intro ag s σ H xs l Q I r h;obtain⟨x,mu,S,d,m,k,j,g,b,a,hc⟩:=BW h;have v:=a;unfold rQ at a;split at a
 ·rename_i n;split at a
  ·rename_i ys e;cases a;subst j;cases g with
   |ref f=>
    obtain⟨q,nd⟩:=b.iset e f;cases r with
    |cons u rt=>
     cases rt;cases u;have w:=I.hok _ _ q;obtain⟨o,es,ep,t,z,c,y,_,_,i,p,f⟩:=w;refine PySem.call_len_set z c y p (by unfold Sn at i;lia) ?_;refine⟨.int es.size,H,I.tok _,⟨_,O⟩,?_⟩;rw[f];exact hc.now (.int _) b
  ·exact eR ag s σ H xs l Q I r (by subst j;exact⟨mu,S,[_],m,k,.cons g .nil,b,(show b1 eM [_] S=_ from a),hc⟩)
 ·exact eR ag s σ H xs l Q I r (by subst j;exact⟨mu,S,[_],m,k,.cons g .nil,b,(show b1 eM [_] S=_ from a),hc⟩)
@[elab_as_elim] theorem PB {P:List dz->Prop}{us:List dz}(l:us.length=0)(f:P []):P us:=by
 cases us with
 |nil=>exact f
 |cons _ _=>cases l
@[elab_as_elim] theorem OX {P:List dz->Prop}{us:List dz}(l:us.length=1)(f:∀a,P [a]):P us:=by
 cases us with
 |nil=>cases l
 |cons a us=>exact PB (P:=λus=>P (a::us)) (Nat.succ.inj l) (f a)
@[elab_as_elim] theorem OW {P:List dz->Prop}{us:List dz}(l:us.length=2)(f:∀a b,P [a,b]):P us:=by
 cases us with
 |nil=>cases l
 |cons a us=>exact OX (P:=λus=>P (a::us)) (Nat.succ.inj l) (f a)
@[elab_as_elim] theorem OV {P:List dz->Prop}{us:List dz}(l:us.length=3)(f:∀a b c,P [a,b,c]):P us:=by
 cases us with
 |nil=>cases l
 |cons a us=>exact OW (P:=λus=>P (a::us)) (Nat.succ.inj l) (f a)
@[elab_as_elim] theorem Pz {P:List dz->Prop}{us:List dz}(l:us.length=4)(f:∀a b c d,P [a,b,c,d]):P us:=by
 cases us with
 |nil=>cases l
 |cons a us=>exact OV (P:=λus=>P (a::us)) (Nat.succ.inj l) (f a)
end Mi
namespace HT
open PySem PySem.Spec PyProof.Rows
variable{prog:dD}{w:dF}{A:dE}{E:dz->dA->Prop}{s:dA}
end HT
namespace Mi
open PySem PySem.Spec PyProof.Rows L2
section
variable{X:Cx}
end
end Mi
namespace HT
open PySem PySem.Spec PyProof.Rows
section
variable{prog:dD}{w:dF}{A:dE}{R:QY->dA->Prop}{I ax L:dB}{xs:Array dz}
abbrev Kp(I L:dB)(h h':dM):Prop:=∀p u,p≠I->p≠L->h.get? p=Z u->h'.get? p=Z u
end
section
variable{prog:dD}{w:dF}{A:dE}{E:dz->dA->Prop}{s:dA}
end
end HT
namespace Mi
open PySem PySem.Spec PyProof.Rows L2
variable{X:Cx}
section
variable{elt tg iter tg2 iter2 tg3 iter3:Expr}{ifs ifs2 ifs3:List Expr}{scope:dQ}{pos:Pos}
end
noncomputable def Aj(a:Int):List Int->List Int
 |[]=>[a]
 |b::l=>if a<=b then a::b::l else b::Aj a l
def hM:List Int->List Int
 |[]=>[]
 |a::l=>Aj a (hM l)
theorem nb(a:Int):∀l:List Int,(Aj a l).Perm (a::l)
 |[]=>.refl _
 |b::l=>by
  rw[Aj];split
  ·exact .refl _
  ·exact((nb a l).cons b).trans (.swap _ _ _)
theorem fy:∀l:List Int,(hM l).Perm l
 |[]=>.refl _
 |a::l=>(nb a _).trans ((fy l).cons a)
theorem yF{a:Int}:∀{l:List Int},l.Pairwise (· <= ·)->(Aj a l).Pairwise (· <= ·)
 |[],_=>List.pairwise_singleton _ _
 |b::l,h=>by
  rw[ca]at h;rw[Aj];split
  ·rename_i c;rw [ca,ca];exact ⟨fun x d=>by
    rcases aF.mp d with z|z
    ·lia
    ·have:=h.1 x z;lia,h.1,h.2⟩
  ·rename_i c;rw[ca];refine⟨λx d=>?_,yF h.2⟩;rcases aF.mp ((nb a l).mem_iff.mp d)with z|z
   ·lia
   ·exact h.1 x z
theorem i6:∀l:List Int,(hM l).Pairwise (· <= ·)
 |[]=>.nil
 |a::l=>yF (i6 l)
theorem l5:∀{a b:List Int},a.Perm b->a.Pairwise (· <= ·)->b.Pairwise (· <= ·)->a=b
 |[],b,p,_,_=>(List.nil_perm.mp p).symm
 |x::a,[],p,_,_=>absurd p.length_eq (by simp)
 |x::a,y::b,p,h1,h2=>by
  rw[ca]at h1 h2;have e:x=y:=by
   have f:=p.mem_iff.mp (mS1 (a:=x) (l:=a));have d:=p.mem_iff.mpr (mS1 (a:=y) (l:=b));rcases aF.mp f with z|z
   ·exact z
   ·rcases aF.mp d with c|c
    ·exact c.symm
    ·have:=h2.1 x z;have:=h1.1 y c;lia
  subst e;rw[l5 (List.perm_cons x |>.mp p) h1.2 h2.2]
noncomputable def pE:List D->Option (List Int)
 |[]=>Z []
 | .int i::l=>(pE l).map λt=>i::t
 |_=>Y
theorem rM{K:Fg1}{H:Hp}{mu:List dB}:∀{ds:List D} {vs:List V} {a:List dz} {ns:List Int},d8 K H mu ds vs->ez vs a->pE ds=Z ns->Ry a ns:=by
 intro ds
 induction ds with
 |nil=>intro vs a ns r v h;cases r;cases v;cases h;exact .nil
 |cons d ds ih=>
  intro vs a ns r v h;cases r with
  |cons b t=>
   cases v with
   |cons f c=>
    cases b
    case int i=>
     obtain⟨m,e,h⟩:=Ti h;subst h;obtain⟨tk,rfl⟩:=f;exact .cons i tk (ih t c e)
    all_goals cases h
theorem m9:∀{us:List dz} {ns:List Int},Ry us ns->ez (ns.map V.int) us:=by
 intro us ns h
 induction h with
 |nil=>exact .nil
 |cons i t _ ih=>exact .cons ⟨t,O⟩ ih
theorem rO:∀{ds:List D} {ns:List Int},pE ds=Z ns->ns.length=ds.length:=by
 intro ds
 induction ds with
 |nil=>intro ns h;cases h;rfl
 |cons d ds ih=>
  intro ns h;cases d with
  |int i=>
   obtain⟨m,e,h⟩:=Ti h;subst h;rw[lC1,lC1,ih e]
  |_=>cases h
theorem mS(n:Nat):∀ns:List Int,D.unds n (ns.map D.int)=M
 |[]=>rfl
 |_::ns=>by rw[mP1,D.unds,mS n ns];rfl
theorem GO{n:Nat}{d:D}{S:Sto}(h:S.length=n):gc n (d,S)=(d,S):=by
 unfold gc;split
 ·rw[show(d,S).2=S from rfl,<- h,bY]
 ·rfl
theorem AC{n:Nat}{f:FN}{ds:List D}{S S1:Sto}{d:D}(h:f ds []=Z (d,S1))(hn:ds.length=n)(a:D.unds 0 ds=M)(hd:d.und 0=M):dU n f ds S=Z (d,S):=by
 unfold dU se;rw[ak hn,ak a,h,oP1,ak hd]
theorem pX{n:Nat}{f:FN}{ds:List D}{S S1:Sto}{d:D}(h:f ds []=Z (d,S1))(hn:ds.length=n)(a:D.unds 0 ds=M)(hd:d.und 0=J):dU n f ds S=Z (d.sh S.length,S++S1.map (Ob.sh S.length)):=by
 unfold dU se;rw[ak hn,ak a,h,oP1,aj (by dsimp only;rw[hd];decide)]
theorem r6{n:Nat}{f:FN}{ds:List D}{S S1:Sto}{d:D}(h:f ds S=Z (d,S1))(hn:ds.length=n)(a:D.unds 0 ds=J):dU n f ds S=Z (gc S.length (d,S1)):=by
 unfold dU se;rw[ak hn,aj (by rw[a];decide),h,oP1]
theorem AH{n:Nat}{f:FN}{ds:List D}{S S1:Sto}{d:D}(h:f ds S=Z (d,S1))(hn:ds.length=n)(b:D.unds 0 ds=J)(a:S1.length=S.length):dU n f ds S=Z (d,S1):=by
 rw[r6 h hn b,GO a]
theorem u4{i j:Int}(h1: -(2^64)<i)(h2:i<2^64):fr i j=M:=by
 unfold fr;simp only[bP,bA1,am];exact .inl (.inl ⟨h1,h2⟩)
theorem yk{i j:Int}(h1: -(2^64)<j)(h2:j<2^64):fr i j=M:=by
 unfold fr;simp only[bP,bA1,am];exact .inl (.inr ⟨h1,h2⟩)
theorem fQ{S:Sto}{n:Nat}{xs:List D}(h:S[n]?=Z (.lst xs)):qj S [(n,xs)]=M:=by
 rw[qj,h];simp[D.sames_refl,qj]
noncomputable def jV(n:Nat):Nat->List D
 |0=>[]
 |k+1=>.ref n::jV (n+1) k
theorem u7:∀{n:Nat} {lo:Int} {d:D},d∈gi lo n -> ∃k:Int,d = .int k/\lo<=k/\k<lo+n
 |0,lo,d,h=>by simp[gi]at h
 |n+1,lo,d,h=>by
  rw[gi]at h;rcases aF.mp h with h|h
  ·exact⟨lo,h,Int.le_refl _,by lia⟩
  ·obtain⟨k,e,h1,h2⟩:=u7 h;exact⟨k,e,by lia,by lia⟩
open Classical in
noncomputable def rkV(ws:List dz)(x:dz):Nat:=ws.findIdx λy=>decide (y=x)
theorem IN{ws:List dz}{x:dz}(h:x∈ws):ws[rkV ws x]?=Z x:=by
 have a:rkV ws x<ws.length:=List.findIdx_lt_length_of_exists ⟨x,h,by simp⟩;rw[gG1 a];have:=List.findIdx_getElem (w:=a);have e:ws[rkV ws x]=x:=RJ this;rw[e]
def kR(ws:List dz)(xs:Array So)(i:Nat):Nat:=(xs[i]?.map λp=>rkV ws p.1).getD 0
theorem mq{ws:List dz}{xs ys:Array So}{i j:Nat}(h:xs[i]?=ys[j]?):kR ws xs i=kR ws ys j:=by unfold kR;rw[h]
def Up(ws:List dz)(xs:Array So)(k:Nat):Prop:=∀i j,i<j->j<k->kR ws xs i<kR ws xs j
def Dn(ws:List dz)(xs:Array So)(k:Nat):Prop:=∀i j,i<j->j<k->kR ws xs j<kR ws xs i
structure SoB (κ:Sq)(a₀:Array So)(st:Sr):Prop where
 perm:(Ss st).Perm a₀
 kind:kindOf st=κ
 failed:Su st=none
 pend:Sv st = #[]
theorem SoB.arr{κ:Sq}{a₀:Array So}{st:Sr}(b:SoB κ a₀ st){xs:Array So}(p:xs.Perm (Ss st)):SoB κ a₀ (setArr st xs):=⟨p.trans b.perm,b.kind,b.failed,b.pend⟩
structure zj (prog:dD)(w:dF)(A:dE)(s:dA)(κ:Sq)(ws:List dz)(a₀:Array So):Prop where
 nd:ws.Nodup
 keys:(a₀.toList.map (·.1)).Perm ws
 lt:∀(x y:dz) (i j:Nat),ws[i]?=some x->ws[j]?=some y->i≠j -> ∀(E:dz->dA->Prop) (Q:Bool->dA->Prop),Q (decide (i<j)) s->dJ (Qm prog w) A (keyLt' κ x y) Q E s
section
variable{prog:dD}{w:dF}{A:dE}{E:dz->dA->Prop}{s:dA}{κ:Sq}{ws:List dz}{a₀:Array So}
theorem zj.at_(C:zj prog w A s κ ws a₀){xs:Array So}(p:xs.Perm a₀){i:Nat}(hi:i<a₀.size):∃x q,xs[i]?=Z (x,q)/\ws[kR ws xs i]?=Z x:=by
 have a:i<xs.size:=by rw[p.size_eq];exact hi
 refine⟨xs[i].1,xs[i].2,aG1 a,?_⟩;have b:xs[i]∈a₀.toList:=(cb.mp p).mem_iff.mp (by simp);have:=IN (C.keys.mem_iff.mp (cc.mpr ⟨_,b,O⟩));unfold kR;rw[aG1 a];exact this
theorem zj.inj(C:zj prog w A s κ ws a₀){xs:Array So}(p:xs.Perm a₀){i j:Nat}(hi:i<a₀.size)(g:j<a₀.size)(h:kR ws xs i=kR ws xs j):i=j:=by
 obtain⟨x,q,c,b⟩:=C.at_ p hi;obtain⟨y,r,e,f⟩:=C.at_ p g;rw[h,f]at b;cases b;have nd:(xs.toList.map (·.1)).Nodup:=(((cb.mp p).map (·.1)).trans C.keys).nodup_iff.mpr C.nd;have a:(xs.toList.map (·.1))[i]?=Z x:=by rw[gP1,aT1,c];rfl
 have d:(xs.toList.map (·.1))[j]?=Z x:=by rw[gP1,aT1,e];rfl
 exact(List.getElem?_inj (Tg a).1 nd).mp (a.trans d.symm)
theorem zj.cmp(C:zj prog w A s κ ws a₀){st:Sr}{i j:Nat}{Q:Option Bool->Sr->Prop}(b:SoB κ a₀ st)(hi:i<a₀.size)(d:j<a₀.size)(a:i≠j)(h:Q (Z (decide (kR ws (Ss st) i<kR ws (Ss st) j))) st):wpS (Qm prog w) A E s (ltAt' i j) Q st:=by
 obtain⟨x,q,e,k⟩:=C.at_ b.perm hi;obtain⟨y,r,f,g⟩:=C.at_ b.perm d;have c:kR ws (Ss st) i≠kR ws (Ss st) j:=λz=>a (C.inj b.perm hi d z);rw[ltAt'_eq];refine Sw (wpS_get ?_);show wpS _ _ _ _ (do let x<-elem' (Ss st) i;let y<-elem' (Ss st) j;lt' x y) Q st;rw[elem'_eq,elem'_eq,e,f];refine Sw (Sx (Sw (Sx ?_)));rw[lt'_eq];refine Sw (wpS_get ?_);rw[b.kind];exact Sw (wpS_lift (RX (C.lt x y _ _ k g c _ _ ⟨O,Sx h⟩)))
theorem Up.one{xs:Array So}:Up ws xs 1:=λi j h1 h2=>by lia
theorem Up.snoc{xs:Array So}{n:Nat}(u:Up ws xs n)(h:n=0\/kR ws xs (n-1)<kR ws xs n):Up ws xs (n+1):=λi j h1 h2=>by
 by_cases z:j<n
 ·exact u i j h1 z
 ·have b:j=n:=by lia
  subst b;rcases h with h|h
  ·lia
  ·by_cases a:i=j-1
   ·rw[a];exact h
   ·exact bh (u i (j-1) (by lia) (by lia)) h
theorem Dn.snoc{xs:Array So}{n:Nat}(u:Dn ws xs n)(h:kR ws xs n<kR ws xs (n-1)):Dn ws xs (n+1):=λi j h1 h2=>by
 by_cases z:j<n
 ·exact u i j h1 z
 ·have b:j=n:=by lia
  subst b;by_cases a:i=j-1
  ·rw[a];exact h
  ·exact bh h (u i (j-1) (by lia) (by lia))
theorem BA(C:zj prog w A s κ ws a₀){st:Sr}{a d:Nat}{Q:AscSt->Sr->Prop}(hn:d<=a₀.size)(ha:1<=a)(f:a<=d)(b:SoB κ a₀ st)(u:Up ws (Ss st) a)(h:∀n,a<=n->n<=d->Up ws (Ss st) n->(n=d\/kR ws (Ss st) n<kR ws (Ss st) (n-1))->Q (Y,n) st):wpS (Qm prog w) A E s (ascLoop a d) Q st:=by
 unfold ascLoop;refine Sy (λx c st'=>st'=st/\c=(Y,x)/\Up ws (Ss st) x) ?_ ?_ ⟨O,O,u⟩
 ·rintro x c st' h1 h2 ⟨rfl,rfl,g⟩;refine Sw (C.cmp b (by lia) (by lia) (by lia) ?_);by_cases z:kR ws (Ss st') x<kR ws (Ss st') (x-1)
  ·simp only[z,Sz,Rf];exact Sx (h x h1 (by lia) g (.inr z))
  ·simp only[z,SA,bF1,Rc];have:kR ws (Ss st') x≠kR ws (Ss st') (x-1):=λe=>by have:=C.inj b.perm (by lia) (by lia) e;lia
   exact Sx ⟨O,O,g.snoc (.inr (by lia))⟩
 ·rintro c st' ⟨rfl,rfl,g⟩;rw[Nat.max_eq_right f]at g ⊢;exact h d f (nR1 _) g (.inl O)
theorem E5(C:zj prog w A s κ ws a₀){st:Sr}{n a:Nat}{Q:Option Nat->Sr->Prop}(hn:a<=a₀.size)(h1:1<=n)(c:n<=a)(b:SoB κ a₀ st)(d:Dn ws (Ss st) n)(h:∀m st',SoB κ a₀ st'->m<=a->Up ws (Ss st') m->Q (Z m) st'):wpS (Qm prog w) A E s (tail3 n a) Q st:=by
 unfold tail3;have f:n<=(Ss st).size:=by rw[b.perm.size_eq];lia
 have l:SoB κ a₀ (setArr st (mirror (Ss st) 0 n ((n-0)/2))):=b.arr (mirror_perm _ _ _ _);refine Sw (wpS_reverse (Sw (BA C hn h1 c l (λi j o e=>?_) λm o e u _=>Sx (h m _ l e u))));have g:∀k,k<n->kR ws (mirror (Ss st) 0 n ((n-0)/2)) k=kR ws (Ss st) (n-1-k):=λk p=>mq (by
  rw[getElem?_mirror_all f,ak (by lia)]
  congr 1;lia)
 show kR ws (mirror (Ss st) 0 n ((n-0)/2)) i<kR ws (mirror (Ss st) 0 n ((n-0)/2)) j;rw[g i (by lia),g j e];exact d _ _ (by lia) (by lia)
theorem E7(C:zj prog w A s κ ws a₀){st:Sr}{n a:Nat}{Q:DescSt->Sr->Prop}(hn:a<=a₀.size)(h1:1<=n)(f:n<=a)(b:SoB κ a₀ st)(d:Dn ws (Ss st) n)(h:∀m,n<=m->m<=a->Dn ws (Ss st) m->Q (Y,m,0) st):wpS (Qm prog w) A E s (descLoop n a) Q st:=by
 unfold descLoop;refine Sy (λx c st'=>st'=st/\c=(Y,x,0)/\Dn ws (Ss st) x) ?_ ?_ ⟨O,O,d⟩
 ·rintro x c st' h2 j ⟨rfl,rfl,g⟩;dsimp only;refine Sw (C.cmp b (by lia) (by lia) (by lia) ?_);by_cases z:kR ws (Ss st') x<kR ws (Ss st') (x-1)
  ·simp only[z,Sz,Rf];exact Sx ⟨O,O,g.snoc z⟩
  ·simp only [z,SA,bF1,Rc];have i:kR ws (Ss st') (x-1)<kR ws (Ss st') x:=by
    have:kR ws (Ss st') x≠kR ws (Ss st') (x-1):=λe=>by have:=C.inj b.perm (by lia) (by lia) e;lia
    lia
   refine Sw (C.cmp b (by lia) (by lia) (by lia) ?_);simp only[i,Sz,Rf];exact Sx (h x h2 (by lia) g)
 ·rintro c st' ⟨rfl,rfl,g⟩;rw[Nat.max_eq_right f]at g ⊢;exact h a f (nR1 _) g
theorem IC(C:zj prog w A s κ ws a₀){st:Sr}{a:Nat}{Q:Option Nat->Sr->Prop}(hn:a<=a₀.size)(h1:1<=a)(b:SoB κ a₀ st)(h:∀m st',SoB κ a₀ st'->m<=a->Up ws (Ss st') m->Q (Z m) st'):wpS (Qm prog w) A E s (countRun' 0 a) Q st:=by
 rw[countRun0_eq];refine Sw (BA C hn (nR1 1) h1 b .one λn h2 f u or=>?_);dsimp only;by_cases z:n=a
 ·rw[ak (by simpa using z)];exact Sx (h n st b f u)
 ·rw[aj (by simpa using z)];have k:=or.resolve_left z;by_cases c:n>1
  ·rw[ak c];have:=u 0 (n-1) (by lia) (by lia);refine Sw (C.cmp b (by lia) (by lia) (by lia) ?_);simp only[this,Sz,Rf];exact Sx (h n st b f u)
  ·rw[aj c];have e:n=1:=by lia
   subst e;unfold descPart;refine Sw (wpS_lift (QE ⟨O,?_⟩));refine Sw (E7 C hn (by lia) (by lia) b (λi j l g=>?_) λm l g d=>?_)
   ·have o:i=0:=by lia
    have p:j=1:=by lia
    subst o;subst p;exact k
   ·dsimp only;rw[aj (by lia)];exact E5 C hn (by lia) g b d h
theorem IE(C:zj prog w A s κ ws a₀){st:Sr}{n ok:Nat}{Q:Bool->Sr->Prop}(hn:n<=a₀.size)(I:ok<=n)(b:SoB κ a₀ st)(u:Up ws (Ss st) ok)(h:∀st',SoB κ a₀ st'->Up ws (Ss st') n->Q M st'):wpS (Qm prog w) A E s (binarySort' 0 n ok) Q st:=by
 rw[binarySort'_eq];simp only[bO];refine Sw (wpS_mono (Sy (λk c st'=>c=(Y,())/\SoB κ a₀ st'/\Up ws (Ss st') (min k n)) (Q:=λc st'=>c=(Y,())/\SoB κ a₀ st'/\Up ws (Ss st') n) ?_ ?_ ⟨O,b,λi j h1 h2=>?_⟩) ?_)
 ·rintro k c st' D F ⟨rfl,d,f⟩;rw[bA (by lia)]at f;have q:k<(Ss st').size:=by rw[d.perm.size_eq];lia
  refine Sw (wpS_mono (Sy (λx c a=>a=st' /\ ∃l r,c=(Y,l,r)/\l<=r/\r<=k/\r-l<=k-x/\(∀i,i<l->kR ws (Ss st') i<kR ws (Ss st') k) /\ ∀i,r<=i->i<k->kR ws (Ss st') k<kR ws (Ss st') i)
   (Q:=λc a=>a=st' /\ ∃l r,c=(Y,l,r)/\l<=k/\(∀i,i<l->kR ws (Ss st') i<kR ws (Ss st') k) /\ ∀i,l<=i->i<k->kR ws (Ss st') k<kR ws (Ss st') i) ?_ ?_ ⟨O,0,k,O,by lia,by lia,by lia,λi h1=>by lia,λi h1 h2=>by lia⟩) ?_)
  ·rintro x c a _ ao ⟨rfl,l,r,rfl,h1,h2,v,o,p⟩;dsimp only;by_cases z:l>=r
   ·rw[ak z];have e:l=r:=by lia
    subst e;exact Sx ⟨O,l,l,O,h2,o,p⟩
   ·rw[aj z];refine Sw (C.cmp d (by lia) (by lia) (by lia) ?_);by_cases m:kR ws (Ss a) k<kR ws (Ss a) ((l+r)/2)
    ·simp only[m,Sz,Rf];refine Sx ⟨O,l,(l+r)/2,O,by lia,by lia,by lia,o,λi G H=>?_⟩;by_cases t:(l+r)/2=i
     ·rw[<- t];exact m
     ·exact bh m (f _ i (by lia) H)
    ·simp only [m,SA,bF1,Rc];refine Sx ⟨rfl,(l+r)/2+1,r,rfl,by lia,by lia,by lia,fun i G=>?_,p⟩;have y:kR ws (Ss a) ((l+r)/2)<kR ws (Ss a) k:=by
      have:kR ws (Ss a) k≠kR ws (Ss a) ((l+r)/2):=λe=>by have:=C.inj d.perm (by lia) (by lia) e;lia
      lia
     by_cases t:i=(l+r)/2
     ·rw[t];exact y
     ·exact bh (f i _ (by lia) (by lia)) y
  ·rintro c a ⟨rfl,l,r,rfl,h1,h2,v,o,p⟩;have e:l=r:=by lia
   subst e;exact⟨O,l,l,O,h2,o,p⟩
  ·rintro c a ⟨rfl,l,r,rfl,h1,h2,v⟩;show wpS _ _ _ _ (do moveDown' k l;pure (ForInStep.yield (none,()))) _ _;rw [moveDown'_eq];refine Sw (wpS_modify (Sx ⟨rfl,d.arr (bubble_perm _ _ _),?_⟩));rw [bA (by lia)];have g:∀ i,kR ws (bubble (Ss a) k (k-l)) i=if i=l then kR ws (Ss a) k else if l<i/\i<=k then kR ws (Ss a) (i-1) else kR ws (Ss a) i:=fun i=>by
    have e:=getElem?_bubble q (k-l) (by lia) i;rw[show k-(k-l)=l by lia]at e;by_cases B:i=l
    ·rw[ak B]at e ⊢;exact mq e
    ·rw[aj B]at e ⊢;by_cases m:l<i/\i<=k
     ·rw[ak m]at e ⊢;exact mq e
     ·rw[aj m]at e ⊢;exact mq e
   intro i j o p;show kR ws (bubble (Ss a) k (k-l)) i<kR ws (bubble (Ss a) k (k-l)) j;rw[g,g]
   repeat' split
   all_goals first
    |(exfalso;lia)
    |exact h2 _ (by lia)
    |exact v _ (by lia) (by lia)
    |exact f _ _ (by lia) (by lia)
 ·rintro c st' ⟨hc,d,f⟩;refine⟨hc,d,?_⟩
  rwa [show min (max (max ok 1) n) n=n by lia]at f
 ·by_cases z:ok=0
  ·lia
  ·exact u i j h1 (by lia)
 ·rintro c st' ⟨rfl,d,f⟩;exact Sx (h st' d f)
theorem IF(C:zj prog w A s κ ws a₀){st:Sr}{Q:Unit->Sr->Prop}(b:SoB κ a₀ st)(h2:2<=a₀.size)(i:a₀.size<64)(h:∀st',(Ss st').Perm a₀->Su st'=Y->Up ws (Ss st') a₀.size->Q () st'):wpS (Qm prog w) A E s sortRuns' Q st:=by
 rw[sortRuns'_eq];refine Sw (wpS_get ?_);dsimp only;have k:minRun' a₀.size a₀.size 0=a₀.size:=by
  generalize u:a₀.size=z at *
  cases z with
  |zero=>lia
  |succ f=>rw[minRun'_succ,ak i]
 simp only[b.perm.size_eq,k];have d:∀st',SoB κ a₀ st'->Up ws (Ss st') a₀.size->(Ss (setPending st' ((Sv st').push (0,a₀.size,0)))).Perm a₀/\Su (setPending st' ((Sv st').push (0,a₀.size,0)))=Y/\Sv (setPending st' ((Sv st').push (0,a₀.size,0))) = #[(0,a₀.size,0)]/\Up ws (Ss (setPending st' ((Sv st').push (0,a₀.size,0)))) a₀.size:=λst' g o=>
  ⟨g.perm,g.failed,by show(Sv st').push _=_;rw[g.pend];rfl,o⟩
 refine Sw (wpS_mono (Sy
  (λx c st'=>(x=0/\c=(Y,0)/\SoB κ a₀ st')\/(1<=x/\c=(Y,a₀.size)/\(Ss st').Perm a₀/\Su st'=Y/\Sv st' = #[(0,a₀.size,0)]/\Up ws (Ss st') a₀.size))
  (Q:=λc st'=>c=(Y,a₀.size)/\(Ss st').Perm a₀/\Su st'=Y/\Sv st' = #[(0,a₀.size,0)]/\Up ws (Ss st') a₀.size) ?_ ?_ (.inl ⟨O,O,b⟩)) ?_)
 ·rintro x c st' _ t (⟨rfl,rfl,g⟩|⟨n,rfl,D⟩)
  ·dsimp only;rw[aj (by lia)];simp only[Nat.sub_zero,bR,bO];refine Sw (IC C (nR1 _) (by lia) g λm a b2 q l=>?_);dsimp only;by_cases z:m<a₀.size
   ·rw[ak z];refine Sw (wpS_lift (QE ⟨O,?_⟩));refine Sw (IE C (nR1 _) q b2 l λj b3 r=>?_);simp only[b5,bF1,Rc];refine Sw (wpS_get ?_);rw[b3.pend];exact Sw (wpS_modify (Sx (.inr ⟨by lia,O,d j b3 r⟩)))
   ·rw[aj z];have e:m=a₀.size:=by lia
    subst e;refine Sw (wpS_get ?_);rw[b2.pend];exact Sw (wpS_modify (Sx (.inr ⟨by lia,O,d a b2 l⟩)))
  ·dsimp only;rw[ak (nR1 _)];exact Sx ⟨O,D⟩
 ·rintro c st' (⟨t,_⟩|⟨_,hc,D⟩)
  ·lia
  ·exact⟨hc,D⟩
 ·rintro c st' ⟨rfl,D⟩;dsimp only;refine Sw (wpS_mono (Sy (λ_ c a=>a=st'/\c=(Y,())) (Q:=λc a=>a=st'/\c=(Y,())) ?_ (λ_ _ p=>p) ⟨O,O⟩) ?_)
  ·rintro x c a _ _ ⟨rfl,rfl⟩;refine Sw (wpS_get ?_);rw[ak (by rw[D.2.2.1];exact nR1 1)];exact Sx ⟨O,O⟩
  ·rintro c a ⟨rfl,rfl⟩;exact Sx (h _ D.1 D.2.1 D.2.2.2)
theorem ID(C:zj prog w A s κ ws (SB vs)){xs:Array So}(p:xs.Perm (SB vs))(u:Up ws xs (SB vs).size):xs.map (·.2)=ws.toArray:=by
 have k:ws.length=(SB vs).size:=by rw[<- C.keys.length_eq,lM1];simp
 have a:∀i,i<(SB vs).size->i<=kR ws xs i:=by
  intro i
  induction i with
  |zero=>intro _;lia
  |succ i ih=>intro h;have:=ih (by lia);have:=u i (i+1) (by lia) h;lia
 have b:∀d i,i+d+1=(SB vs).size->kR ws xs i<=i:=by
  intro d
  induction d with
  |zero=>
   intro i h;obtain⟨x,q,_,f⟩:=C.at_ p (i:=i) (by lia);have:=(Tg f).1;lia
  |succ d ih=>
   intro i h;have:=ih (i+1) (by lia);have:=u i (i+1) (by lia) (by lia);lia
 apply Array.ext
 ·rw[cf,p.size_eq,<- k];simp
 ·intro i h1 h2;rw[cf,p.size_eq]at h1;have m:kR ws xs i=i:=Nat.le_antisymm (b ((SB vs).size-1-i) i (by lia)) (a i h1);obtain⟨x,q,e,f⟩:=C.at_ p h1;rw[m]at f;have g:(x,q)∈(SB vs).toList:=(cb.mp p).mem_iff.mp (Array.mem_toList_iff.mpr (Array.mem_of_getElem? e));rw[pairsOf_toList]at g;have l:x=q:=(mem_zip_self g).1;have j:(xs.map (·.2))[i]?=Z q:=by rw[Array.getElem?_map,e];rfl
  have c:ws.toArray[i]?=Z x:=by rw[cg];exact f
  rw[aG1 (by rw[cf,p.size_eq];exact h1)]at j;rw[aG1 h2]at c;rw[Option.some.inj j,Option.some.inj c,l]
end
section
variable{prog:dD}{w:dF}{A:dE}{E:dz->dA->Prop}{s:dA}
theorem tN(f:Bool)(x y:dz):keyLt' (tuples' f) x y=(do
  let xs<-SC x
  let ys<-SC y
  for ((p,q),i) in (xs.toList.zip ys.toList).zipIdx do
   if !(<- eqBool p q)then return<-oneLt' (f&&i == 0) p q
  return decide (xs.size<ys.size)):=rfl
theorem tH{aq:Model}{α β:Type}{f:α->Sem β}{P:α->β->Prop}:∀ {l:List α} {Q:List β->dA->Prop},(∀ v∈l,∃ r,P v r /\ ∀ Q:β->dA->Prop,Q r s->dJ aq A (f v) Q E s) ->
  (∀rs,rs.length=l.length->(∀r∈rs,∃v∈l,P v r)->Q rs s)->dJ aq A (l.mapM f) Q E s
 |[],Q,_,q=>by rw[List.mapM_nil];exact wP1 (q [] rfl λr a=>by cases a)
 |v::l,Q,h,q=>by
  rw[List.mapM_cons];obtain⟨r,p,a⟩:=h v mS1;refine wB1 (a _ ?_);refine wB1 (tH (λv e=>h v (mC1 _ e)) λrs b c=>?_);refine wP1 (q (r::rs) (by rw[lC1,lC1,b]) λx g=>?_);rcases aF.mp g with z|z
  ·exact⟨v,mS1,by rw[z];exact p⟩
  ·obtain⟨d,h1,h2⟩:=c x z;exact⟨d,mC1 _ h1,h2⟩
theorem Ds(v:dz):firstOfTuple' v=(do
  if(<- typeOf v) != .type "tuple" then return Y
  return (<- SC v)[0]?):=rfl
theorem E6 {a:dB}{vs ws:List dz}{n:Nat}{κ:Sq}{P:Fin->dA->Prop}(ho:s.heap.get? a=some (SD "list" vs.toArray n))(j:vs.length<64)(hp:vs.Perm ws)
  (p:∀h',(∀b o,b≠a->s.heap.get? b=Z o->h'.get? b=Z o)->2<=vs.length->zj prog w A {s with heap:=h'} κ ws (SB vs) /\ ∀Q:Sq->dA->Prop,Q κ {s with heap:=h'}->dJ (Qm prog w) A (keyKind' vs.toArray) Q E {s with heap:=h'})
  (h:P (.done (.ret .none)) {s with heap:=SE s.heap a vs ws.toArray}):dJ (Qm prog w) A (Builtin.«list.sort» ⟨[.ref a],[]⟩) P E s:=by
 rw[list_sort_plain];have t:a<s.heap.objs.size:=hL1 ho;refine wB1 (SF ho O ?_);refine wB1 (listUpdate_at ho O ?_);obtain⟨i,d⟩:∃i,(s.heap.update a (Rp λ_=> #[])).get? a=some (SD "list" #[] i):=⟨_,get?_update_seq ho (λ_=> #[])⟩;refine wB1 (seqEpoch_at d O (wB1 (wpAny_newTuple (wB1 (wpAny_newList (QA ?_))))));have keep:∀b o,b≠a->s.heap.get? b=Z o->(((s.heap.update a (Rp λ_=> #[])).push (SD "tuple" vs.toArray 0)).push (SD "list" #[] 0)).get? b=Z o:=λb o l e=>
  hP1 _ (hP1 _ (by rw[hU1 _ _ _ _ l];exact e))
 have c:(((s.heap.update a (Rp λ_=> #[])).push (SD "tuple" vs.toArray 0)).push (SD "list" #[] 0)).get? a=Z (SD "list" #[] i):=hP1 _ (hP1 _ d);show dJ (Qm prog w) A _ P E {s with heap:=((s.heap.update a (Rp λ_=> #[])).push (SD "tuple" vs.toArray 0)).push (SD "list" #[] 0)};dsimp only;have q:vs.toArray.size=vs.length:=by simp
 have f:=hp.length_eq;have g:∀xs:Array So,xs.map (·.2)=ws.toArray->P (.done (.ret .none)) {s with heap:=SE s.heap a vs (xs.map (·.2))}:=λxs e=>by rw[e];exact h
 by_cases h2:vs.toArray.size<2
 ·rw [if_pos h2,if_pos h2];refine wB1 (wP1 ?_);rw [StateT.run_pure];refine wB1 (wP1 (wB1 (seqEpoch_at c rfl ?_)));have e:((vs.toArray.zip vs.toArray).map (·.2):Array dz)=ws.toArray:=by
   have:vs=ws:=by
    match vs,ws,hp,h2 with
    |[],ws,hp,_=>exact(List.nil_perm.mp hp).symm
    |[x],ws,hp,_=>exact(List.singleton_perm.mp hp).symm ▸ rfl
    |_::_::_,_,_,h2=>simp at h2;lia
   subst this;apply Array.ext';simp;exact List.map_snd_zip (nR1 _)
  refine wB1 (listUpdate_at c O ?_ (hsz2:=by
   show(Array.map (·.2) (vs.toArray.zip vs.toArray)).size<=_;rw[e,sT1,<- f,QT];lia))
  simp only[bne_self_eq_false,bF1,Rc];exact wP1 (g _ e)
 ·rw [if_neg h2,if_neg h2];obtain ⟨C,K⟩:=p _ keep (by lia);refine wB1 (K _ ?_);refine wB1 (Qo (IF C (st:=SortSt.mk' κ (vs.toArray.zip vs.toArray) #[] 7 none)
   (Q:=λ_ st'=>(Ss st').Perm (SB vs)/\Su st'=Y/\Up ws (Ss st') (SB vs).size) ⟨Array.Perm.refl _,O,O,O⟩ (by rw[pairsOf_size];lia) (by rw[pairsOf_size];exact j) λst' a1 a2 a3=>⟨a1,a2,a3⟩) ?_ λ_ _ e=>e)
  rintro⟨⟨⟩,st'⟩ s' ⟨rfl,m,k,r⟩;have e:=ID C m r;refine wB1 (seqEpoch_at c O ?_);refine wB1 (listUpdate_at c O ?_ (hsz2:=by
   show(Array.map (·.2) (Ss st')).size<=_;rw[e,sT1,<- f,QT];lia))
  rw[k];simp only[bne_self_eq_false,bF1,Rc];exact wP1 (g _ e)
end
section
variable{prog:dD}{w:dF}{A:dE}{E:dz->dA->Prop}{R:QY->dA->Prop}
end
section
variable{prog:dD}{w:dF}{A:dE}{E:dz->dA->Prop}{s:dA}
end
mutual
theorem Bc{n:Nat}:∀k:TK,(tkD k).und n=M
 | .non=>rfl
 | .int _=>rfl
 | .tup xs=>by rw[tkD,D.und];exact xI xs
theorem xI{n:Nat}:∀ks:List TK,D.unds n (jM ks)=M
 |[]=>rfl
 |k::ks=>by rw[jM,D.unds,Bc k,xI ks];rfl
end
section
variable{prog:dD}{w:dF}{A:dE}{E:dz->dA->Prop}{s:dA}
end
section
variable{prog:dD}{w:dF}{A:dE}{E:dz->dA->Prop}{R:QY->dA->Prop}
end
section
variable{ag:List (dB×Obj)}{σ:L2.St}{H:Hp}{s:dA}{a:dB}{u v:HO}
end
section
variable{K:Fg1}{H H':Hp}{mu mu':List dB}{S:Sto}{n:Nat}{a:dB}{o:Obj}{u:HO}
end
theorem sA.lt{xs:Array Nat}(h:sA xs){a b u v:Nat}(d:a<b)(c:xs[a]?=Z u)(eb:xs[b]?=Z v):u<v:=by
 rw[<- aT1]at c eb;obtain⟨e,c⟩:=Tg c;obtain⟨f,eb⟩:=Tg eb;have:=ci.mp h a b e f d;rw[c,eb]at this;exact this
structure Bs (xs:Array Nat)(j i:Nat):Prop where
 le:i<=xs.size
 lo:∀k v,xs[k]?=some v->k<i->v<j
 hi:∀k v,xs[k]?=some v->i<=k->j<=v
theorem Bs.uniq{xs:Array Nat}{j i i':Nat}(h:Bs xs j i)(h':Bs xs j i'):i=i':=by
 rcases cj i i' with z|z|z
 ·have a:i<xs.size:=nL1 z h'.le;have e:=aG1 a;have:=h.hi _ _ e (nR1 _);have:=h'.lo _ _ e z;lia
 ·exact z
 ·have a:i'<xs.size:=nL1 z h.le;have e:=aG1 a;have:=h'.hi _ _ e (nR1 _);have:=h.lo _ _ e z;lia
theorem DZ{xs:Array Nat}{j:Nat}(hr:sA xs):∀n lo hi:Nat,lo<=hi->hi<=xs.size->hi-lo<=n->(∀k v,xs[k]?=Z v->k<lo->v<j)->(∀k v,xs[k]?=Z v->hi<=k->j<=v)->Bs xs j (SetTable.below.go xs j n lo hi)
 |0,lo,hi,h1,h2,i,a,c=>by
  have:lo=hi:=by lia
  subst this;exact⟨h2,a,c⟩
 |n + 1,lo,hi,h1,h2,i,a,c=>by
  rw[SetTable.below.go];by_cases d:lo<hi
  ·rw[ak d];have f:(lo+hi)/2<xs.size:=by lia
   have b:=aG1 f;have g:xs.getD ((lo+hi)/2) j=xs[(lo+hi)/2]:=by simp[Array.getD,f]
   dsimp only;rw[g];by_cases hc:xs[(lo+hi)/2]<j
   ·rw[ak hc];refine DZ hr n _ _ (by lia) h2 (by lia) (λk v e h=>?_) c;rcases bW k ((lo+hi)/2)with z|z
    ·have:=hr.lt z e b;lia
    ·have:k=(lo+hi)/2:=by lia
     subst this;rw[b]at e;cases e;exact hc
   ·rw[aj hc];refine DZ hr n _ _ (by lia) (by lia) (by lia) a λk v e h=>?_;rcases bW ((lo+hi)/2) k with z|z
    ·have:=hr.lt z b e;lia
    ·have:k=(lo+hi)/2:=by lia
     subst this;rw[b]at e;cases e;lia
  ·rw[aj d];have:lo=hi:=by lia
   subst this;exact⟨h2,a,c⟩
theorem mG{xs:Array Nat}(hr:sA xs)(j:Nat):Bs xs j (SH xs j):=
 DZ hr _ 0 _ (bi _) (nR1 _) (by lia) (λ_ _ _ h=>absurd h (bw _)) λk v e h=>by
  have:=(Array.getElem?_eq_some_iff.mp e).1;lia
theorem j3{α:Type}(xs:Array α)(p:Nat)(x:α):(SI xs p x).toList=xs.toList.take p++x::xs.toList.drop p:=by
 unfold SI;rw[Array.toList_append,ck,Array.toList_extract,Array.toList_extract];simp[List.extract_eq_drop_take];rw[cm (by simp)]
theorem xZ{xs:Array Nat}(hr:sA xs){j:Nat}(hn:xs[SH xs j]? ≠ Z j):sA (SI xs (SH xs j) j):=by
 have b:=mG hr j;unfold sA;rw[j3,List.pairwise_append,ca];have lo:∀v∈xs.toList.take (SH xs j),v<j:=λv f=>by
  obtain⟨k,d⟩:=bq f;rw[List.getElem?_take]at d;split at d
  ·rename_i h;exact b.lo k v (by rw[<- aT1];exact d) h
  ·cases d
 have hi:∀v∈xs.toList.drop (SH xs j),j<v:=λv f=>by
  obtain⟨k,d⟩:=bq f;rw[List.getElem?_drop,aT1]at d;have h1:=b.hi _ v d (br _ _);rcases bW j v with z|z
  ·exact z
  ·exfalso;have g:v=j:=by lia
   subst g;cases k with
   |zero=>exact hn d
   |succ k=>
    have l:SH xs v<xs.size:=by have:=(Array.getElem?_eq_some_iff.mp d).1;lia
    have e:=aG1 l;have:=b.hi _ _ e (nR1 _);have:=hr.lt (by lia) e d;lia
 refine⟨hr.sublist (aU _ _),⟨hi,hr.sublist (List.drop_sublist _ _)⟩,λa i c hc=>?_⟩;rcases aF.mp hc with z|z
 ·rw[z];exact lo a i
 ·exact bh (lo a i) (hi c z)
structure TS (l:Bool)(t:RI):Prop where
 up:sA t.place
 du:t.dummies = #[]
 ld:t.led=l
theorem md{t:RI}(hd:t.dummies = #[])(j:Nat):SetTable.has t.dummies j=J:=by rw[hd];rfl
theorem re{t:RI}(hd:t.dummies = #[]){f:Nat->Int}{h:Int}:∀(n:Nat) (p:SJ) (j:Nat) (d:Option Nat),p.dummy=Y->SK t f h n p=Z (.empty j d)->d=Y/\t.place[SH t.place j]? ≠ Z j
 |0,p,j,d,_,e=>by rw[SK]at e;cases e
 |n+1,p,j,d,hp,e=>by
  have a:(t.advance p).dummy=Y:=by
   unfold SetTable.advance;split
   ·exact hp
   ·dsimp only;exact hp
  rw[SK]at e;unfold SetTable.slot at e;dsimp only at e;rw[md hd]at e;by_cases hc:(t.place[SH t.place p.j]? == Z p.j)=M
  ·rw[ak hc]at e;dsimp only at e;split at e
   ·cases e
   ·exact re hd n _ j d a e
  ·rw[aj hc,aj (by decide)]at e;dsimp only at e;cases e;refine⟨hp,λz=>hc ?_⟩;rw[z];simp
theorem GX{t:RI}(hd:t.dummies = #[]){h:Int}{j:Nat}{b:Bool}(e:t.freeSlot h=Z (j,b)):t.place[SH t.place j]? ≠ Z j:=by
 unfold SetTable.freeSlot at e;split at e
 ·rename_i c d ep;obtain⟨rfl,a⟩:=re hd _ _ _ _ O ep;cases e;exact a
 ·cases e
theorem lQ{l:Bool}{t:RI}(h:TS l t)(n:Nat):TS l (t.standIn n):=by
 refine⟨?_,O,h.ld⟩;show(Array.range n).toList.Pairwise (· < ·);rw[Array.toList_range];exact cq
theorem Lz{l:Bool}{t:RI}(h:TS l t)(n:Nat):TS l (t.orStandIn n):=by
 unfold SetTable.orStandIn;split
 ·exact h
 ·exact lQ h n
theorem Im{l:Bool}{t:RI}(ht:TS l t)(es:Array (Int×dz))(h:Int)(x:dz):TS l (layNew t es h x).2.1:=by
 unfold layNew;split
 ·rename_i j b e;show TS l ((t.put j).1.orStandIn _);refine Lz (t:=(t.put j).1) ⟨?_,?_,ht.ld⟩ _
  ·exact xZ ht.up (GX ht.du e)
  ·show(if SetTable.has t.dummies j=M then _ else t.dummies) = #[];rw[md ht.du,aj (by decide)];exact ht.du
 ·exact lQ ht _
theorem ox{α:Type}(f:Nat->Option α):∀l:List Nat,((l.filterMap λj=>(f j).map (j,·)).map (·.1)).Sublist l
 |[]=>.slnil
 |a::l=>by
  rw[aE];cases f a with
  |none=>exact(ox f l).cons a
  |some x=>exact(ox f l).cons₂ a
theorem EX{l p:Bool}{m fi mo:Nat}{hs:Array Int}{t:RI}{a:Array Nat}(e:SetTable.laid m fi mo l p hs=Z (t,a)):TS l t:=by
 unfold SetTable.laid at e;obtain⟨b,_,e⟩:=Th e;cases e;refine⟨?_,O,O⟩;unfold sA;dsimp only;exact List.pairwise_lt_range.sublist (by simpa using ox (λj=>b.getD j Y) (af (m+1)))
theorem Bi{l:Bool}{t:RI}(ht:TS l t)(es:Array (Int×dz))(n:Nat):TS l (relayAll t es n).2.1:=by
 unfold relayAll;split
 ·rename_i b a e;dsimp only;split
  ·have:=EX e;rw[ht.ld]at this;exact this
  ·exact lQ ht _
 ·exact lQ ht _
theorem Bj(l:Bool):TS l (SetTable.fresh 0 0 l):=⟨List.Pairwise.nil,O,O⟩
theorem Hd{xs:Array Nat}(hr:sA xs){i:Nat}(hi:i<xs.size):SH xs (xs[i]+1)=i+1:=by
 refine(mG hr _).uniq ⟨hi,λk v e a=>?_,λk v e a=>?_⟩
 ·rcases bW k i with z|z
  ·have:=hr.lt z e (aG1 hi);lia
  ·have:k=i:=by lia
   subst this;rw[aG1 hi]at e;cases e;lia
 ·have:=hr.lt (show i<k by lia) (aG1 hi) e;lia
theorem DY{xs:Array Nat}(hr:sA xs):SH xs 0=0:=
 (mG hr _).uniq ⟨bi _,λk v e a=>absurd a (bw _),λk v e a=>bi _⟩
noncomputable def Oh(e:Int×dz):Int:=match e.2 with
 | .int k _=>k
 |_=>0
structure Els (es:Array (Int×dz))(ns:List Int):Prop where
 el:∀e∈es.toList,∃k t,e=(aa k,ab k t)
 pm:(es.toList.map Oh).Perm ns
theorem Els.of{P:dD}{w:dF}{es:Array (Int×dz)}{ns:List Int}(h:Els es ns):ElemsOf (Qf P w) es.toList:=λe a=>by
 obtain⟨k,t,rfl⟩:=h.el e a;exact⟨⟨k,intKind_is _ _ _ _,O⟩,O⟩
theorem Els.size{es:Array (Int×dz)}{ns:List Int}(h:Els es ns):es.size=ns.length:=by
 have:=h.pm.length_eq;rw[lM1,aK]at this;exact this
theorem Els.perm{es fs:Array (Int×dz)}{ns:List Int}(h:Els es ns)(p:fs.toList.Perm es.toList):Els fs ns:=
 ⟨λe a=>h.el e (p.mem_iff.mp a),(p.map _).trans h.pm⟩
theorem Els.add{es fs:Array (Int×dz)}{ns:List Int}(h:Els es ns){k:Int}{t:Tok}(p:fs.toList.Perm (es.push (aa k,.int k t)).toList):Els fs (ns++[k]):=by
 rw[ck]at p;refine⟨λe a=>?_,?_⟩
 ·rcases aG.mp (p.mem_iff.mp a)with z|z
  ·exact h.el e z
  ·simp at z;exact⟨k,t,z⟩
 ·refine(p.map _).trans ?_;rw[cr];exact h.pm.append (.refl _)
def km(b:Bool)(p:dB)(ns:List Int)(h:dM):Prop:=∃es ep t l,h.get? p=Z (stO es ep t)/\Els es ns/\es.size<Sn/\t.fits es.size=M/\TS l t/\(b=J->l=M)
section
variable{P:dD}{w:dF}{A:dE}{E:dz->dA->Prop}{s:dA}{b:Bool}{p:dB}{ns:List Int}
theorem sU{es fs:Array (Int×dz)}{ep:Nat}{t u:RI}{h:dM}(e:h.get? p=Z (stO es ep t)):(h.update p (Obj.putSet fs u)).get? p=Z (stO fs (ep+1) u):=by
 have:=hW1 (Obj.putSet fs u) e (by rw[putSet_of fs u O];rfl);rw[putSet_of fs u O]at this;exact this
theorem gw{c:Bool}{Q:Unit->dA->Prop}(q:Q () s):dJ (Qm P w) A (match c with
  |true=>rule "set.scan.the-table-gave-way"
  |false=>pure ()) Q E s:=by cases c<;>first|exact wP1 q|exact QE q
theorem Oz{k:Int}{tk:Tok}{Q:Bool->dA->Prop}(X:km b p ns s.heap)(hr:ns.length+1<Sn)(q:∀c h',Ql p s.heap h'->km b p (Sl ns k) h'->Q c {s with heap:=h'}):dJ (Qm P w) A (setAddHashed p (.int k tk) (aa k)) Q E s:=by
 obtain⟨es,ep,t,l,m,a,T,ao,aq,H⟩:=X;have wq:=a.size;have el:ElemsOf (Qf P w) es.toList:=a.of;unfold setAddHashed setAddHashedIn;refine QA (wB1 (SL m O ao ?_));dsimp only;rw[byScan_of (knd:=Qf P w) O T el,ak O];unfold setAddByScan;refine wB1 (wB1 (QE (wB1 (wpAny_setScan_of (knd:=Qf P w) (k:=k) (intKind_is _ _ _ _) m O ao el ?_))));cases hx:List.findIdx? (λe=>(Qf P w).is k e.2) es.toList with
 |some j=>
  obtain⟨S,i,_⟩:=b6.mp hx;have C:k∈ns:=by
   refine a.pm.mem_iff.mp (cc.mpr ⟨_,bU S,?_⟩);obtain⟨k',au,e⟩:=a.el _ (bU S);rw[e]at i ⊢;exact((Qf P w).inj _ _ _ i (intKind_is P w k' au)).symm
  have D:Sl ns k=ns:=by unfold Sl;rw[ak (bT.mpr ⟨k,C,by simp⟩)]
  rw[D]at q;exact wP1 (wP1 (q _ s.heap (Heap.SameBut.refl p s.heap) ⟨es,ep,t,l,m,a,T,ao,aq,H⟩))
 |none=>
  have D:Sl ns k=ns++[k]:=by
   unfold Sl;rw[aj λz=>?_];obtain⟨k',C,e⟩:=bT.mp z;have e:=SV.mp e;subst e;obtain⟨x,h,f⟩:=cc.mp (a.pm.mem_iff.mpr C);obtain⟨o,g,rfl⟩:=a.el x h;have f:o=k':=f;subst f;have:=List.findIdx?_eq_none_iff.mp hx _ h;rw[show(Qf P w).is o (aa o,ab o g).2=M from intKind_is _ _ _ _]at this;cases this
  rw[D]at q;have I:=layNew_perm t es (aa k) (.int k tk);have G:=layNew_fits t es (aa k) (.int k tk);have n:=Im aq es (aa k) (.int k tk);dsimp only;generalize layNew t es (aa k) (.int k tk)=L at I G n ⊢;obtain⟨fs,u,W,gv⟩:=L;dsimp only at I G n ⊢;have y:Els fs (ns++[k]):=a.add I;have F:fs.size<Sn:=by rw[y.size,lA1];exact hr
  refine wB1 (gw ?_);have tail:∀ (c:Bool),dJ (Qm P w) A (do
    storeSet p fs u
    if (!W&&u.tooFull)=true then do
      (match (relayAll u fs (SM fs.size)).2.2 with
       |true=>rule "set.scan.the-table-gave-way"
       |false=>pure ())
      storeSet p (relayAll u fs (SM fs.size)).1 (relayAll u fs (SM fs.size)).2.1
      pure (Z M)
     else pure (Z M)) (λr s'=>dJ (Qm P w) A (match r with
      |some d=>pure d
      |none=>setAddHashedIn p (.int k tk) (aa k) 99999) Q E s') E s:=λ_=>by
   refine wB1 (SN m O ?_ (SO F));have K:=sU (fs:=fs) (u:=u) m;have U:=RU s.heap p (Obj.putSet fs u);split
   ·have p2:=relayAll_perm u fs (SM fs.size);have B:=relayAll_fits u fs (SM fs.size);have g:=Bi n fs (SM fs.size);generalize relayAll u fs (SM fs.size)=L2 at p2 B g ⊢;obtain⟨av,v,V⟩:=L2;dsimp only at p2 B g ⊢;have R:=y.perm p2;have N:av.size<Sn:=by rw[R.size,<- y.size];exact F
    refine wB1 (gw (wB1 (SN K O ?_ (SO N))));exact wP1 (wP1 (q _ _ (U.trans (RU _ p _)) ⟨av,_,v,l,sU K,R,N,B,g,H⟩))
   ·exact wP1 (wP1 (q _ _ U ⟨fs,_,u,l,K,y,F,G,n,H⟩))
  split
  ·refine wB1 (wP1 ?_);exact tail M
  ·refine wB1 (wP1 ?_);exact tail M
end
section
variable{P:dD}{w:dF}{A:dE}{E:dz->dA->Prop}{s:dA}
noncomputable def byT(w:dF):Bool:=w.params.followText "set-order"
theorem yi(x:dz){G:dz->dA->Prop}(q:G (.ref s.heap.objs.size) {s with heap:=s.heap.push (stO #[] 0 (.fresh 0 0 (!byT w)))}):
  dL (Qm P w) A (.call (.builtin "set.__new__") ⟨[.type "set",x],[]⟩) (wants G E) s:=by
 refine RN (?_:dJ _ A.in1 (do checkBuiltinCall "set.__new__" ⟨[.type "set",x],[]⟩;again (.builtin "set.__new__" ⟨[.type "set",x],[]⟩)) _ _ s);refine wB1 (RP (PySem.F.newCall_set_1 x) (wP1 ⟨Sd PySem.F.plain_set_new _,wD1 PySem.F.entry_set_new (?_:_)⟩));rw[Se PySem.F.plain_set_new _];unfold Builtin.«set.__new__» Builtin.Frozenset.newClass;have a:=sub_set_self;obtain⟨b,g,d,tk,c⟩:=s;dsimp only
 wp_walk
 refine RO (wP1 (?_:_));dsimp only;simp only[newObj];exact wB1 (wpAny_alloc (wP1 (wP1 q)))
set_option maxHeartbeats 3200000 in
theorem pW {l:dB}{its:Array dz}{Q:dz->dA->Prop}(D:s.heap.IsList l its)
  (f:∀j:dE,j.handled=A.handled->j.units<=A.units+2 -> ∀R:QY->dA->Prop,(∀s',Q (.ref s.heap.objs.size) s'->R (.ok (.ret .none)) s') ->
   dL (Qm P w) j (.builtin "set.update.loop" ⟨[.ref s.heap.objs.size,.ref (s.heap.objs.size+1)],[]⟩) R {s with heap:=(s.heap.push (stO #[] 0 (.fresh 0 0 (!byT w)))).push {cls:=.type "list_iterator",data:=.fields #[.ref l,.int 0 0]}}):
  dJ (Qm P w) A (call (.type "set") [.ref l]) Q E s:=by
 obtain⟨W,K,k⟩:=PySem.F.called_set.mro;have g:=PySem.F.called_set.made;have m:=PySem.F.called_set.sub
 refine wpAny_call (RN (?_:dJ _ _ (callAny (.type "set") _) _ _ _));refine wP1 ⟨Code.quiet_builtin _ (by decide+kernel),wD1 PySem.F.entry_type_call (?_:_)⟩;rw[Around.under_plain (weight_type_call_type "set" [.ref l] []) O];have L:=PySem.F.called_set.notType;have aq:=PySem.F.called_set.canCreate;have V:=PySem.F.typeCall_set_1 (.ref l)
 repeat(any_goals (first|wp_step|assumption))
 refine QZ (yi (.ref l) (E:=E) (G:=λx o=>x = .ref s.heap.objs.size/\o={s with heap:=s.heap.push (stO #[] 0 (.fresh 0 0 (!byT w)))}) ⟨O,O⟩) λr o d=>?_;cases r with
 |error e=>exact d
 |ok F=>
  cases F with
  |ret x=>
   obtain⟨rfl,rfl⟩:=d;have p:(s.heap.push (stO #[] 0 (.fresh 0 0 (!byT w)))).get? s.heap.objs.size=Z (stO #[] 0 (.fresh 0 0 (!byT w))):=hS1 _ O;have C:Shared.TypeIs {s with heap:=s.heap.push (stO #[] 0 (.fresh 0 0 (!byT w)))} (.ref s.heap.objs.size) "set":=⟨_,p,O⟩;have av:=PySem.F.called_set.init.lookup;have N:=PySem.F.called_set.init.bind (.ref s.heap.objs.size)
   repeat(any_goals (first|wp_step|assumption))
   refine QZ (codeAny_call_builtin (R:=wants (λr n=>r = .none/\Q (.ref s.heap.objs.size) n) E) PySem.F.called_set.init.plain PySem.F.entry_set_init (check_set_init_1 C (?_:_))) λr2 n a=>?_
   ·obtain⟨u,h,b,t,c⟩:=D;obtain⟨T,z,ao,H⟩:=u;simp only at b c;subst b;subst c;have v:(s.heap.push (stO #[] 0 (.fresh 0 0 (!byT w)))).get? l=Z {cls:=.type "list",dict:=z,data:=.seq its t,slots:=H}:=hP1 _ h;have S:=PySem.F.sub_list_set;have U:=PySem.F.sub_list_frozenset;have X:(Qc "list" == Qc "dict")=J:=by decide
    have y:(s.heap.push (stO #[] 0 (.fresh 0 0 (!byT w)))).IsList l its:=⟨_,v,O,t,O⟩;have I:(s.heap.push (stO #[] 0 (.fresh 0 0 (!byT w)))).get? s.heap.objs.size=Z {cls:=.type "set",dict:=Y,data:=.set #[] 0 (.fresh 0 0 (!byT w)),slots:= #[]}:=p;unfold Builtin.«set.__init__» noKeywords Builtin.Frozenset.updateFrom;generalize i:QJ=PI
    wp_walk
    subst i;refine wpAny_pyIter_list y (wB1 (SQ (?_:_)));dsimp only;rw[show(s.heap.push (stO #[] 0 (.fresh 0 0 (!byT w)))).objs.size=s.heap.objs.size+1 from by rw[hZ1]];refine f A.in1.in1 (by simp) (nR1 _) _ λs' q=>?_;exact wP1 (wP1 ⟨O,q⟩)
   ·cases r2 with
    |error e=>exact a
    |ok B=>
     cases B with
     |ret r=>
      obtain⟨rfl,q⟩:=a
      repeat(any_goals (first|wp_step|assumption))
     |_=>exact a.elim
  |_=>exact d.elim
theorem AE {l:dB}{its:Array dz}{Q:dz->dA->Prop}(c:s.heap.IsList l its)
  (b:∀a:dE,a.handled=A.handled -> ∀R:QY->dA->Prop,(∀s',Q (.ref s.heap.objs.size) s'->R (.ok (.ret .none)) s') ->
   dL (Qm P w) a (.builtin "set.update.loop" ⟨[.ref s.heap.objs.size,.ref (s.heap.objs.size+1)],[]⟩) R {s with heap:=(s.heap.push (stO #[] 0 (.fresh 0 0 (!byT w)))).push {cls:=.type "list_iterator",data:=.fields #[.ref l,.int 0 0]}}):
  dJ (Qm P w) A (call (.type "set") [.ref l]) Q E s:=pW c λa h _=>b a h
end
section
variable{P:dD}{w:dF}{A:dE}{E:dz->dA->Prop}{b:Bool}
theorem km.old{p:dB}{ns:List Int}{h h':dM}(x:km b p ns h)(k:∀o,h.get? p=Z o->h'.get? p=Z o):km b p ns h':=by
 obtain⟨es,ep,t,l,e,r⟩:=x;exact⟨es,ep,t,l,k _ e,r⟩
theorem pK:∀(ns acc:List Int),(ns.foldl Sl acc).length<=acc.length+ns.length
 |[],acc=>by simp
 |n::ns,acc=>by
  rw[b8];have h1:=pK ns (Sl acc n);have h2:(Sl acc n).length<=acc.length+1:=by unfold Sl;split<;>simp
  rw[lC1];lia
theorem BM{p l it:dB}{its:Array dz}{ns:List Int}{R:QY->dA->Prop}(G:A.handled=none)(C:Ry its.toList ns)(hb:ns.length+1<Sn)(I:p≠l)(m:p≠it)(K:it≠l):
  ∀(k i:Nat) (s:dA),its.size-i=k->i<=its.size->s.heap.IsListIter it l i->s.heap.IsList l its->km b p ((ns.take i).foldl Sl []) s.heap ->
  (∀h' tk,(∀c o,c≠p->c≠it->s.heap.get? c=Z o->h'.get? c=Z o)->km b p (ddI ns) h'->R (.ok (.ret .none)) {s with heap:=h',toks:=tk})->dL (Qm P w) A (.builtin "set.update.loop" ⟨[.ref p,.ref it],[]⟩) R s:=by
 have g:its.size=ns.length:=by rw[<- aK];exact C.length
 intro k
 induction k with
 |zero=>
  intro i s H hi st h u q;have e:i=its.size:=by lia
  subst e;refine wD1 SS (?_:_);rw[Se SU _];show dJ _ A.in1 (QH (.ref it) >>= _) _ _ s;refine wB1 (QM (by simpa using G) st h (by simp) λh' eb=>wP1 ?_);refine q h' s.toks (λc o _ hc e=>eb c o hc e) ?_;have:=u.old (h':=h') λo e=>eb p o m e;rw[g,bY]at this;exact this
 |succ k ih=>
  intro i s H hi st h u q;have f:i<its.size:=by lia
  have x:=aG1 f;obtain⟨t,E⟩:=PyProof.Rows.IntsAre.int_at C i its[i] (by rw[aT1];exact x);refine wD1 SS (?_:_);rw[Se SU _];show dJ _ A.in1 (QH (.ref it) >>= _) _ _ s;refine wB1 (QL st h x λh' st' B=>?_);rw[E];show dJ _ A.in1 (Qy [ab (ns.getD i 0) t] (setAdd p (.int (ns.getD i 0) t)) >>= _) _ _ _;refine wB1 (QA ?_);unfold setAdd;refine QA (wB1 (wpAny_pyHash_int ?_));have v:km b p ((ns.take i).foldl Sl []) h':=u.old λo e=>by rw[B.2 p m];exact e
  have n:=pK (ns.take i) [];refine Oz (s:={s with heap:=h',toks:=s.toks+1}) (k:=ns.getD i 0) v (by rw[aR,bf]at n;lia) λc h2 a d=>?_;have D:ns[i]?=Z (ns.getD i 0):=by rw[gG1 (by lia)];simp[List.getD,show i<ns.length by lia]
  have L:Sl ((ns.take i).foldl Sl []) (ns.getD i 0)=(ns.take (i+1)).foldl Sl []:=by
   rw[cu,D,cv];rfl
  rw[L]at d;have z:∀c o,c≠p->c≠it->s.heap.get? c=Z o->h2.get? c=Z o:=λc o h1 j e=>by rw[a.2 c h1];show h'.get? c=_;rw[B.2 c j];exact e
  have keepIt:∀o,h'.get? it=Z o->h2.get? it=Z o:=λo e=>by rw[a.2 it (Qk m)];exact e
  refine wP1 ⟨Sd SU _,ih (i+1) {s with heap:=h2,toks:=s.toks+1} (by lia) f (st'.at keepIt) ?_ d λj tk ao F=>?_⟩
  ·obtain⟨o,e,r⟩:=h;exact⟨o,z l o (Qk I) (Qk K) e,r⟩
  ·exact q j tk (λc o h1 y e=>ao c o h1 y (z c o h1 y e)) F
theorem AG{s:dA}{l:dB}{its:Array dz}{ns:List Int}{Q:dz->dA->Prop}(f:A.handled=Y)(d:s.heap.IsList l its)(i:Ry its.toList ns)(hb:ns.length+1<Sn)(q:∀h' tk,(∀c o,s.heap.get? c=Z o->h'.get? c=Z o)->km (byT w) s.heap.objs.size (ddI ns) h'->Q (.ref s.heap.objs.size) {s with heap:=h',toks:=tk}):dJ (Qm P w) A (call (.type "set") [.ref l]) Q E s:=by
 have a:l<s.heap.objs.size:=by obtain⟨o,e,_⟩:=d;exact hL1 e
 refine AE d λt p R j=>?_;have n:(s.heap.push (stO #[] 0 (.fresh 0 0 (!byT w)))).objs.size=s.heap.objs.size+1:=by rw[hZ1]
 have m:(s.heap.push (stO #[] 0 (.fresh 0 0 (!byT w)))).get? s.heap.objs.size=Z (stO #[] 0 (.fresh 0 0 (!byT w))):=hS1 _ O;refine BM (its:=its) (ns:=ns) (b:=byT w) (p.trans f) i hb (nG1 a) (nN1 (bC _)) (nG1 (cy a)) _ 0 _ O (bi _) ?_ ?_ ?_ λh' tk k x=>j _ (q h' tk (λc o e=>k c o (nN1 (hL1 e)) (nN1 (cy (hL1 e))) (hP1 _ (hP1 _ e))) x)
 ·refine⟨{cls:=.type "list_iterator",data:=.fields #[.ref l,.int 0 0]},?_,O,O⟩;have this:((s.heap.push (stO #[] 0 (.fresh 0 0 (!byT w)))).push {cls:=.type "list_iterator",data:=.fields #[.ref l,.int 0 0]}).get? (s.heap.push (stO #[] 0 (.fresh 0 0 (!byT w)))).objs.size=Z {cls:=.type "list_iterator",data:=.fields #[.ref l,.int 0 0]}:=hS1 _ O;rw[n]at this;exact this
 ·obtain⟨o,e,r⟩:=d;exact⟨o,hP1 _ (hP1 _ e),r⟩
 ·refine⟨#[],0,_,!byT w,hP1 _ m,⟨λe g=>by simp at g,.refl _⟩,by decide,O,Bj _,λh=>by rw[h];rfl⟩
end
theorem jP:Slot "set_iterator" "__next__" "set_iterator.__next__":=
 .of (owner:="set_iterator") (n:="__next__") (by rw[typeLookup_type,builtinLookup_eq_fast];kernel_rfl) (by decide+kernel) (by decide+kernel) (by decide+kernel) (by first|exact .inl (by decide+kernel)|exact .inr (by decide+kernel)) (by rw[isSubtype_type];kernel_rfl)
theorem rV:entryFor table "set_iterator.__next__"=Z Builtin.«set_iterator.__next__» :=entryFor_of_tree (by kernel_rfl)
theorem vX(x:dz):argsOk "set_iterator.__next__" ⟨[x],[]⟩:=by unfold argsOk;kernel_rfl
theorem vB:entryFor table "set.__iter__"=Z Builtin.«frozenset.__iter__» :=entryFor_alias (id':="frozenset.__iter__") (by kernel_rfl) O (by decide+kernel) (by kernel_rfl)
abbrev Lg(h:dM)(it a:dB)(f:dz)(i n ep:Nat):Prop:=h.get? it=Z {cls:=.type "set_iterator",dict:=Y,data:=.fields #[f,.int i 0,.ref a,.int n 0,.int ep 0],slots:= #[]}
noncomputable def mW(t:RI)(i:Nat):Nat:=match i with
 |0=>0
 |i+1=>t.place.getD i 0+1
inductive vY (w:dF)(h:dM)(a:dB)(es:Array (Int×dz))(ep:Nat)(t:RI):dz->Nat->List dz->Prop
 |txt (b:byT w=true) (i:Nat) (sl:Nat):vY w h a es ep t (.int sl 0) i ((pickOrder (w.params.setOrder a ep) es).toList.map (·.2))
 |drw (b:byT w=false) (d:(!t.plain&&decide (es.size>1))=true) (i:Nat) (tp:dB) (ps:List Nat) (e:h.get? tp=some {cls:=.type "tuple",data:=.seq (ps.map λj=>ab (j:Nat) 0).toArray}) (pm:ps.Perm (af es.size)):vY w h a es ep t (.ref tp) i (ps.map λj=>(es[j]?.map (·.2)).getD .none)
 |plc (b:byT w=false) (d:(!t.plain&&decide (es.size>1))=false) (ld:t.led=true) (up:sA t.place) (i:Nat):vY w h a es ep t (.int (mW t i) 0) i (es.toList.map (·.2))
theorem ro{α:Type}(f:Nat->Nat):∀(n k:Nat) (l:List α) (out:Array α),l.length=n->(pickOrder.go f n k l out).toList.Perm (out.toList++l)
 |0,k,l,out,h=>by
  rw[pickOrder.go,cA.mp h,aN]
 |n+1,k,l,out,h=>by
  have b:f k%l.length<l.length:=cB _ (by lia);rw[pickOrder.go,gG1 b];refine(ro f n (k+1) _ _ (by rw[List.length_eraseIdx_of_lt b];lia)).trans ?_;rw[ck,bG];refine List.Perm.append_left _ ?_;have c:l=l.take (f k%l.length)++l[f k%l.length]::l.drop (f k%l.length+1):=by rw[List.getElem_cons_drop,cC]
  rw[cD];refine List.Perm.trans ?_ (List.Perm.of_eq c.symm);exact(List.perm_middle (l₁:=l.take (f k%l.length)) (l₂:=l.drop (f k%l.length+1)) (a:=l[f k%l.length])).symm
theorem vY.perm{w:dF}{h:dM}{a:dB}{es:Array (Int×dz)}{ep:Nat}{t:RI}{f:dz}{i:Nat}{pl:List dz}(y:vY w h a es ep t f i pl):pl.Perm (es.toList.map (·.2)):=by
 cases y with
 |txt=>exact(ro _ _ _ _ _ O).map _
 |drw _ _ _ d ps e c=>
  refine(c.map _).trans ?_;have:(af es.size).map (λj=>(es[j]?.map (·.2)).getD .none)=es.toList.map (·.2):=by
   apply b0;intro j;rw[gP1,gP1,aT1 (xs:=es)];by_cases b:j<es.size
   ·rw[cE b,oP1,aG1 b];rfl
   ·rw[b4 (by simpa using b),cF (by lia)];rfl
  rw[this]
 |plc=>exact .refl _
theorem vY.len{w:dF}{h:dM}{a:dB}{es:Array (Int×dz)}{ep:Nat}{t:RI}{f:dz}{i:Nat}{pl:List dz}(y:vY w h a es ep t f i pl):pl.length=es.size:=by
 rw[y.perm.length_eq,lM1,aK]
section
variable{P:dD}{w:dF}{A:dE}{E:dz->dA->Prop}{s:dA}{it a:dB}{f:dz}{i ep:Nat}{es:Array (Int×dz)}{t:RI}{pl:List dz}
theorem sC{Q:Bool->dA->Prop}(q:Q (byT w) s):dJ (Qm P w) A setsByText Q E s:=by unfold setsByText;exact wB1 (RO (wP1 q))
theorem BB{sl:Nat}{Q:Option (dz×Nat)->dA->Prop}(b:byT w=M)(ho:s.heap.get? a=Z (stO es ep t))(hf:t.fits es.size=M)(q:Q (((pickOrder (w.params.setOrder a ep) es)[i]?).map λe=>(e.2,sl)) s):dJ (Qm P w) A (setNext a sl i ep) Q E s:=by
 unfold setNext;refine wB1 (SL ho O hf (wB1 (sC ?_)));rw[b,ak O,aj (by simp)];refine wB1 ?_;unfold setWalk;refine wB1 (SL ho O hf (wB1 (sC ?_)));rw[b,ak O];exact wB1 (RO (wP1 (wP1 q)))
theorem He(up:sA t.place)(hi:i<=t.place.size):SH t.place (mW t i)=i:=by
 cases i with
 |zero=>exact DY up
 |succ j=>
  have a:j<t.place.size:=hi;show SH t.place (t.place.getD j 0+1)=j+1;rw[show t.place.getD j 0=t.place[j]from by simp[Array.getD,a]];exact Hd up a
theorem BC{Q:Option (dz×Nat)->dA->Prop}(b:byT w=J)(d:(!t.plain&&decide (es.size>1))=J)(h:t.led=M)(up:sA t.place)(ho:s.heap.get? a=Z (stO es ep t))(hf:t.fits es.size=M)(hi:i<=es.size)(q:Q ((es[i]?).map λe=>(e.2,mW t (i+1))) s):dJ (Qm P w) A (setNext a (mW t i) i ep) Q E s:=by
 have j:t.place.size=es.size:=by
  unfold SetTable.fits at hf;rw[bA1,SV]at hf;exact hf.1
 unfold setNext;refine wB1 (SL ho O hf (wB1 (sC ?_)));rw[b,aj (by decide)];rw[aj (λz=>by have f:(!t.plain&&decide (es.size>1))=M:=z;rw[d]at f;cases f)];refine wB1 ?_;show dJ _ _ (if(!t.led && !es.isEmpty)=M then _ else _) _ _ _;rw[aj (by rw[h];simp)];refine wP1 ?_;dsimp only;rw[He up (by omega)];by_cases c:i<es.size
 ·rw [aG1 c] at q ⊢;rw [aG1 (show i<t.place.size by omega)];have g:mW t (i+1)=t.place[i]+1:=by
   show t.place.getD i 0+1=_;rw[show t.place.getD i 0=t.place[i]from by simp[Array.getD,show i<t.place.size by omega]]
  rw[g]at q;exact wP1 q
 ·rw[cF (by omega)]at q ⊢;exact wP1 q
theorem EO{Q:Option dz->dA->Prop}(k:Lg s.heap it a f i es.size ep)(ho:s.heap.get? a=Z (stO es ep t))(hf:t.fits es.size=M)(y:vY w s.heap a es ep t f i pl){x:dz}(hx:pl[i]? = Z x)(L:∀ g,f = .ref g->g≠it)(q:∀h' h,Lg h' it a h (i+1) es.size ep->(∀c o,c≠it->s.heap.get? c=Z o->h'.get? c=Z o)->vY w h' a es ep t h (i+1) pl->(∀g,h = .ref g->f = .ref g)->Q (Z x) {s with heap:=h'}):dJ (Qm P w) A (QH (.ref it)) Q E s:=by
 have H:s.TypeIs (.ref it) "set_iterator":=⟨_,k,O⟩;unfold QH;refine wB1 (RX (Ri (name:=Rj "__next__") H jP (wE1 jP H rV ?_ (vX _))));refine wB1 (wP1 (wB1 (wpAny_fieldsOf k O ?_)));dsimp only;refine wB1 (wpAny_setEntries_of ho O hf ?_);rw[aj (by simp)];have aq:i<es.size:=by have:=(Tg hx).1;rw[y.len]at this;exact this
 have m:∀ (h:dz),(∀ g,h = .ref g->f = .ref g)->(∀ h',(∀ c o,c≠it->s.heap.get? c=some o->h'.get? c=some o)->vY w h' a es ep t h (i+1) pl) ->
   dJ (Qm P w) A.in1 (setField (.ref it) 0 h >>= fun _=>setField (.ref it) 1 (QK ((i:Int)+1)) >>= fun _=>ret x) (fun D s'=>∃ v,D=Fin.done (Flow.ret v)/\dJ (Qm P w) A (pure (some v)) Q E s') (fun e s'=>dJ (Qm P w) A (do
     let y<-isInstance e (.type "StopIteration")
     if y=M then pure Y else throw e) Q E s') s:=λh R N=>by
  refine wB1 (wS1 k (by simp) λh1 av u=>wB1 (wS1 (s:={s with heap:=h1}) av (by simp) λh2 r l=>wP1 ⟨_,O,wP1 ?_⟩));have n:∀c o,c≠it->s.heap.get? c=Z o->h2.get? c=Z o:=λc o hc e=>l.extBut c o hc (u.extBut c o hc e);refine q h2 h ?_ n (N h2 n) R;have e:((i+1:Nat):Int)=(i:Int)+1:=by lia
  unfold Lg;rw[e];simpa[QK]using r
 cases y with
 |txt b _ C=>
  refine wB1 (BB (i:=i) (sl:=C) (ep:=ep) b ho hf ?_);rw[gP1,aT1]at hx;obtain⟨e,F,rfl⟩:=Ti hx;rw[F];exact m (.int C 0) (λg z=>by cases z) λh' _=>.txt b _ C
 |plc b d ao up _=>
  refine wB1 (BC (i:=i) b d ao up ho hf (by lia) ?_);rw[gP1,aT1]at hx;obtain⟨e,F,rfl⟩:=Ti hx;rw[F];exact m (.int (mW t (i+1)) 0) (λg z=>by cases z) λh' _=>.plc b d ao up _
 |drw b d _ g ps e K=>
  rw[gP1]at hx;obtain⟨j,I,rfl⟩:=Ti hx;have p:j<es.size:=by have:=K.mem_iff.mp (gM1 I);simpa using this
  refine wB1 (RT e O ?_);have B:((ps.map λj=>ab (j:Nat) 0).toArray)[((i:Int)).toNat]?=Z (.int (j:Nat) 0):=by
   rw[Ra,cg,gP1,I];rfl
  dsimp only;rw[B];dsimp only;refine wB1 ?_;unfold setNextDrawn;refine wB1 (SL ho O hf ?_);dsimp only;rw[aj (by simp),Ra,aG1 p];refine wP1 (wB1 (wS1 k (by simp) λh2 r l=>wP1 ⟨_,O,wP1 ?_⟩));have n:∀c o,c≠it->s.heap.get? c=Z o->h2.get? c=Z o:=λc o hc e=>l.extBut c o hc e;have G:=q h2 (.ref g) ?_ n (.drw b d _ g ps (n g _ (L g O) e) K) λ_ z=>z
  ·rw[aG1 p]at G;exact G
  ·have e:((i+1:Nat):Int)=(i:Int)+1:=by lia
   unfold Lg;rw[e];simpa[QK]using r
theorem wv{Q:Option dz->dA->Prop}{G:Fin->dA->Prop}(d:A.handled=none)(q:∀ h',(∀ c o,s.heap.get? c=some o->h'.get? c=some o)->Q none {s with heap:=h'}):
  dJ (Qm P w) A.in1 (newExc (.type "StopIteration") [] >>= fun e=>raiseNew e) G (fun e s'=>dJ (Qm P w) A (do
     let y<-isInstance e (.type "StopIteration")
     if y=M then pure Y else throw e) Q E s') s:=by
 refine wB1 ?_;simp only[newExc,newTuple];refine wB1 (wO1 ?_ (by size_fits));refine wB1 (m:=RV _ _) (RP (a:=P9) (by first|rfl|(simp only[RV];rfl)) ?_);refine wO1 ?_ (by size_fits);simp only[raiseNew];refine wB1 (wpAny_handled ?_);rw[show A.in1.handled=Y from d];refine wB1 (wP1 (wpAny_throw (?_:_)));refine wB1 (R3 (b:=M) (T:="StopIteration") ⟨_,hS1 _ O,O⟩ R4 (?_:_));exact wP1 (q _ λb o e=>hP1 _ (hP1 _ e))
theorem Ic{Q:Option dz->dA->Prop}(m:A.handled=Y)(h:Lg s.heap it a f es.size es.size ep)(ho:s.heap.get? a=Z (stO es ep t))(hf:t.fits es.size=M)(y:vY w s.heap a es ep t f es.size pl)(q:∀h',(∀c o,c≠it->s.heap.get? c=Z o->h'.get? c=Z o)->Q Y {s with heap:=h'}):dJ (Qm P w) A (QH (.ref it)) Q E s:=by
 have u:s.TypeIs (.ref it) "set_iterator":=⟨_,h,O⟩;unfold QH;refine wB1 (RX (Ri (name:=Rj "__next__") u jP (wE1 jP u rV ?_ (vX _))));refine wB1 (wP1 (wB1 (wpAny_fieldsOf h O ?_)));dsimp only;refine wB1 (wpAny_setEntries_of ho O hf ?_);rw[aj (by simp)];have l:=y.len;cases y with
 |txt b _ v=>
  refine wB1 (BB (i:=es.size) (sl:=v) (ep:=ep) b ho hf ?_);rw[cF (by rw[lM1,aK]at l;lia)];refine wB1 (wS1 h (by simp) λh1 p g=>?_);exact wv (s:={s with heap:=h1}) m λh' k=>q h' λc o hc e=>k c o (g.extBut c o hc e)
 |plc b d x up _=>
  refine wB1 (BC (i:=es.size) (ep:=ep) b d x up ho hf (nR1 _) ?_);rw[cF (nR1 _)];refine wB1 (wS1 h (by simp) λh1 p g=>?_);exact wv (s:={s with heap:=h1}) m λh' k=>q h' λc o hc e=>k c o (g.extBut c o hc e)
 |drw b d _ B ps e C=>
  refine wB1 (RT e O ?_);have n:((ps.map λj=>ab (j:Nat) 0).toArray)[((es.size:Int)).toNat]?=Y:=by
   rw[Ra,cg,b4 (by rw[lM1]at l ⊢;lia)]
  dsimp only;rw[n];dsimp only;refine wB1 (wS1 h (by simp) λh1 p g=>?_);refine wB1 (wS1 (s:={s with heap:=h1}) p (by simp) λh2 z r=>?_);exact wv (s:={s with heap:=h2}) m λh' k=>q h' λc o hc e=>k c o (r.extBut c o hc (g.extBut c o hc e))
theorem DR{b:Source}{n:Nat}{Q:Nat->dA->Prop}(hn:n≠0)(q:∀i c,i<n->Q i {s with Qj:=c}):dJ (Qm P w) A (choose b n) Q E s:=fun Γ p a=>by
 unfold choose;rw[Sem.wp_choose];refine⟨hn,?_⟩;exact wP1 (A:=A) (E:=E) (q _ _ (cB _ (Nat.pos_of_ne_zero hn))) Γ p a
theorem DD{α:Type}:∀(n:Nat) (xs:List α) (s:dA) (Q:List α->dA->Prop),xs.length=n->(∀ys b,ys.Perm xs->Q ys {s with Qj:=b})->dJ (Qm P w) A (drawOrder n xs) Q E s
 |0,xs,s,Q,h,q=>by
  have:=cA.mp h;subst this;exact wP1 (q [] s.drawn (.refl _))
 |n+1,[],s,Q,h,q=>by simp at h
 |n+1,x::xs,s,Q,h,q=>by
  rw[drawOrder];refine wB1 (DR (by simp) λi b hi=>?_);rw[gG1 hi];dsimp only;refine wB1 (DD n _ _ _ (by rw[List.length_eraseIdx_of_lt hi];lia) λys a d=>wP1 (q _ a ?_));refine(d.cons _).trans ?_;have c:x::xs=(x::xs).take i++(x::xs)[i]::(x::xs).drop (i+1):=by rw[List.getElem_cons_drop,cC]
  rw[cD];refine List.Perm.trans ?_ (List.Perm.of_eq c.symm);exact List.perm_middle.symm
  all_goals simp
theorem ER{l:Bool}{Q:dz->dA->Prop}(ho:s.heap.get? a=some (stO es ep t))(hf:t.fits es.size=true)(hz:es.size<Sn)(B:TS l t)(F:byT w=false->l=true)(q:∀it h' h f pl,(∀c o,s.heap.get? c=some o->h'.get? c=some o)->s.heap.objs.size<=it->Lg h' it a f 0 es.size ep->vY w h' a es ep t f 0 pl->(∀b,f = .ref b->b≠it/\s.heap.objs.size<=b)->Q (.ref it) {s with heap:=h',Qj:=h}):
  dJ (Qm P w) A (QJ (.ref a)) Q E s:=by
 have y:s.TypeIs (.ref a) "set":=⟨_,ho,rfl⟩;refine wpAny_pyIter_slot y PySem.F.slot_set_iter (wE1 PySem.F.slot_set_iter y vB ?_ (PySem.F.args_set_iter_1 _));unfold Builtin.«frozenset.__iter__»;refine wB1 (m:=Builtin.Frozenset.slot0 _ _) (wP1 ?_);unfold Builtin.Frozenset.sizeOf;refine wB1 (wB1 (wpAny_setEntries_of ho rfl hf (wP1 ?_)));unfold setDrawn;refine wB1 (wB1 (SL ho rfl hf (wB1 (sC (wP1 ?_)))));show dJ _ _ (if (!byT w&&(!t.plain&&decide (es.size>1)))=true then _ else _) _ _ _;have d:∀ (h1:dM) (h:Drawn) (f:dz) (pl:List dz),(∀ c o,s.heap.get? c=some o->h1.get? c=some o)->s.heap.objs.size<=h1.objs.size->(∀ b,f = .ref b->b<h1.objs.size/\s.heap.objs.size<=b)->(∀ h',(∀ c o,h1.get? c=some o->h'.get? c=some o)->vY w h' a es ep t f 0 pl) ->
   dJ (Qm P w) A.in1 (setEpoch a >>= λe=>newFields "set_iterator" [f,QK 0,.ref a,QK es.size,QK e] >>= λr=>ret r) (λd s'=>∃r,d=Fin.done (Flow.ret r) /\ ∃T g,s'.TypeIs r T/\typeLookup (.type T) "__next__"=pure (Z g)/\Q r s') E {s with heap:=h1,Qj:=h}:=by
  intro h1 h f pl C v u G;refine wB1 (wpAny_setEpoch_of (C a _ ho) O hf (wB1 (wO1 (wP1 ⟨_,O,"set_iterator",_,⟨_,hS1 _ O,O⟩,jP.lookup,?_⟩) (by size_fits))));refine q h1.objs.size _ h f pl (λc o e=>hP1 _ (C c o e)) v ?_ (G _ λc o e=>hP1 _ e) λb e=>⟨nN1 (u b e).1,(u b e).2⟩;have:=hS1 h1 (o:={cls:=.type "set_iterator",data:=.fields #[f,.int 0 0,.ref a,.int es.size 0,.int ep 0]}) O;exact this
 by_cases n:byT w=M
 ·rw[aj (by rw[n];simp)];refine wB1 (wP1 ?_);exact d s.heap s.drawn _ _ (λ_ _ e=>e) (nR1 _) (λb z=>by cases z) λh' _=>.txt n 0 0
 ·have n:byT w=J:=by simpa using n
  by_cases p:(!t.plain&&decide (es.size>1))=M
  ·rw[ak (by rw[n,p];rfl)];refine wB1 (DD es.size (af es.size) s _ (by simp) λys h D=>?_);refine wB1 (m:=newTuple _) (wO1 (s:={s with Qj:=h}) ?_ ?_)
   ·refine d (s.heap.push {cls:=.type "tuple",data:=.seq (ys.map λ(i:Nat)=>QK i).toArray}) h (.ref s.heap.objs.size) (ys.map λj=>(es[j]?.map (·.2)).getD .none) (λc o e=>hP1 _ e) (by rw[hZ1];exact aX _) (λb z=>by cases z;exact⟨by rw[hZ1];exact bC _,nR1 _⟩) λh' k=>?_;exact .drw n p 0 _ ys (k _ _ (hS1 _ O)) D
   ·have:=D.length_eq;have x:=SO hz;simp[sizeOk,this,x]
  ·have p:(!t.plain&&decide (es.size>1))=J:=by simpa using p
   rw[aj (by rw[p];simp)];refine wB1 (wP1 ?_);exact d s.heap s.drawn _ _ (λ_ _ e=>e) (nR1 _) (λb z=>by cases z) λh' _=>.plc n p (by rw[B.ld];exact F n) B.up 0
end
theorem vY.keep{w:dF}{h h':dM}{a:dB}{es:Array (Int×dz)}{ep:Nat}{t:RI}{f:dz}{i:Nat}{pl:List dz}(y:vY w h a es ep t f i pl)(k:∀c o,f = .ref c->h.get? c=Z o->h'.get? c=Z o):vY w h' a es ep t f i pl:=by
 cases y with
 |txt b _ j=>exact .txt b _ j
 |drw b d _ c ps e l=>exact .drw b d _ c ps (k c _ O e) l
 |plc b d g up _=>exact .plc b d g up _
section
variable{P:dD}{w:dF}{A:dE}{E:dz->dA->Prop}
theorem EQ{it a S:dB}{ep:Nat}{es:Array (Int×dz)}{t:RI}{pl:List dz}{v:dz}{R:QY->dA->Prop}(T:A.handled=none)(hf:t.fits es.size=true)(h1:it≠a)(h2:S≠a)(H:S≠it)(hn:es.size<=dI):
  ∀(k i:Nat) (s:dA) (f:dz) (acc:Array dz) (c:Nat),es.size-i=k->i<=es.size->Lg s.heap it a f i es.size ep->s.heap.get? a=Z (stO es ep t)->vY w s.heap a es ep t f i pl->(∀g,f = .ref g->g≠it/\g≠S) ->
  s.heap.get? S=Z {cls:=.type "list",dict:=Y,data:=.seq acc c,slots:= #[]}->acc.toList=pl.take i ->
  (∀h' d ao,(∀b u,b≠it->b≠S->s.heap.get? b=Z u->h'.get? b=Z u)->h'.get? S=Z {cls:=.type "list",dict:=Y,data:=.seq d ao,slots:= #[]}->d.toList=pl->R (.ok (.ret v)) {s with heap:=h'}) ->
  dL (Qm P w) A (.builtin "list.extend.loop" ⟨[.ref S,.ref it,v],[]⟩) R s:=by
 intro k
 induction k with
 |zero=>
  intro i s f acc c U hi l C y E aq D F;have e:i=es.size:=by lia
  subst e;have j:=y.len;refine wD1 PySem.F.entry_extend_loop (?_:_);rw[Se SW _];show dJ _ A.in1 (QH (.ref it) >>= _) _ _ s;refine wB1 (Ic T l C hf y λh' keep=>wP1 ?_);exact F h' acc c (λb u n _ e=>keep b u n e) (keep S _ H aq) (by rw[D,<- j,bY])
 |succ k ih=>
  intro i s f acc c U hi l C y E aq D F;have L:i<es.size:=by lia
  have j:=y.len;obtain⟨x,N⟩:∃x,pl[i]?=some x:=⟨_,gG1 (by lia)⟩;have p:acc.size=i:=by rw[<- aK,D,aR];lia
  refine wD1 PySem.F.entry_extend_loop (?_:_);rw[Se SW _];show dJ _ A.in1 (QH (.ref it) >>= _) _ _ s;refine wB1 (EO l C hf y N (λg e=>(E g e).1) λh' Q B keep V av=>?_);have z:=keep S _ H aq;show dJ _ A.in1 (updateSeq S (·.push x) >>= _) _ _ _;refine wB1 (wpAny_updateSeq (s:={s with heap:=h'}) z O ?_ (by rw[p];lia) (by show(acc.push _).size<=dI+1;rw[Array.size_push,p];lia));have h:∀b u,b≠S->h'.get? b=Z u->(h'.update S (Rp (·.push x))).get? b=Z u:=λb u n e=>by rw[hU1 _ _ _ _ n];exact e
  refine wP1 ⟨Sd SW _,ih (i+1) {s with heap:=h'.update S (Rp (·.push x))} Q (acc.push x) _ (by lia) L (h it _ (Qk H) B) (h a _ (Qk h2) (keep a _ (Qk h1) C)) (V.keep λg o e q=>h g o (E g (av g e)).2 q) (λg e=>E g (av g e)) (hW1 _ z O) ?_ ?_⟩
  ·rw[ck,D,cu,N];rfl
  ·intro I d ao m K G;exact F I d ao (λb u n r e=>m b u n r (h b u r (keep b u n e))) K G
theorem BO:typeLookup (.type "set") "__len__"=pure (Z (.builtin "set.__len__")):=by rw[typeLookup_type,builtinLookup_eq_fast];kernel_rfl
theorem ES {s:dA}{v:dB}{Q:Bool->dA->Prop}(c:s.TypeIs (.ref v) "set")(q:Q J s):dJ (Qm P w) A (Builtin.List.listLengthHint (.ref v)) Q E s:=by
 unfold Builtin.List.listLengthHint;refine wB1 (Sf c BO (?_:_));generalize a:("set.__len__":String)=id0
 wp_delta
 rw[show splitId id0=Z ("set","__len__")from by subst a;decide+kernel];subst a;refine wB1 (R3 (b:=M) c (by rw[isSubtype_type];kernel_rfl) (?_:_));rw[aj (by decide)];dsimp only;rw[ak (by decide+kernel)];exact wB1 (Rm c (wP1 q))
theorem wj{s:dA}{a:dB}{ns:List Int}{Q:List dz->dA->Prop}(W:A.handled=Y)(hx:km (byT w) a ns s.heap)(q:∀h' p vs aq,(∀b u,s.heap.get? b=Z u->h'.get? b=Z u)->s.heap.objs.size<=h'.objs.size->Ry vs aq->aq.Perm ns->Q vs {s with heap:=h',Qj:=p}):dJ (Qm P w) A (collect (.ref a)) Q E s:=by
 obtain⟨es,ep,t,l,D,av,N,R,U,au⟩:=hx;have m:a<s.heap.objs.size:=hL1 D;unfold collect;refine wB1 (SQ (wD1 PySem.F.entry_proto_collect (?_:_)));rw[Se PySem.F.plain_proto_collect _];show dJ _ A.in1 (newList [] >>= λl=>again (.builtin "list.__iadd__" ⟨[l,.ref a],[]⟩)) _ _ s;refine wB1 (wO1 (?_:_));refine wP1 ⟨Sd PySem.F.plain_list_iadd _,wD1 PySem.F.entry_list_iadd (?_:_)⟩;rw[Se PySem.F.plain_list_iadd _];have z:(s.heap.push {cls:=.type "list",data:=.seq ([]:List dz).toArray}).get? s.heap.objs.size=Z {cls:=.type "list",data:=.seq ([]:List dz).toArray}:=hS1 _ O;have h:∀b u,s.heap.get? b=Z u->(s.heap.push {cls:=.type "list",data:=.seq ([]:List dz).toArray}).get? b=Z u:=λb u e=>hP1 _ e;have x:(s.heap.push {cls:=.type "list",data:=.seq ([]:List dz).toArray}).objs.size=s.heap.objs.size+1:=by rw[hZ1]
 have L:s.heap.objs.size≠a:=nG1 m;have h1:Builtin.List.listSameRef (.ref s.heap.objs.size) (.ref a)=J:=by simp[Builtin.List.listSameRef,L]
 show dJ _ A.in1 (SX (.ref s.heap.objs.size) (.ref a) (.ref s.heap.objs.size)) _ _ {s with heap:=s.heap.push {cls:=.type "list",data:=.seq ([]:List dz).toArray}};generalize s.heap.push {cls:=.type "list",data:=.seq ([]:List dz).toArray}=h₁ at *
 unfold SX;refine wB1 (Rm (T:="set") ⟨_,h a _ D,O⟩ ?_);rw[aj (by rw[h1];decide)];refine wB1 (ER (s:={s with heap:=h₁}) (h a _ D) R N U au λit d p f pl g c K y G=>?_);dsimp only at g c G;have j:=g _ _ z;have r:Shared.TypeIs {s with heap:=d,Qj:=p} (.ref a) "set":=⟨_,g _ _ (h a _ D),O⟩;refine wB1 (QA (ES r ?_));rw[ak (by decide+kernel)];refine wB1 (QE (wB1 ?_));show dJ _ A.in1 (updateSeq s.heap.objs.size (·.push .none) >>= λ_=>updateSeq s.heap.objs.size (·.pop)) _ _ _;refine wB1 (wpAny_updateSeq (s:={s with heap:=d,Qj:=p}) j O ?_);have i:=hW1 (Rp (·.push P9)) j O;refine wpAny_updateSeq (s:={s with heap:=d.update s.heap.objs.size (Rp (·.push P9)),Qj:=p}) i O ?_;have B:=hW1 (Rp (·.pop)) i O;have n:∀b u,b≠s.heap.objs.size->d.get? b=Z u->((d.update s.heap.objs.size (Rp (·.push P9))).update s.heap.objs.size (Rp (·.pop))).get? b=Z u:=λb u C e=>by
  rw[hU1 _ _ _ _ C,hU1 _ _ _ _ C];exact e
 rw[x]at c G;have S:=y.perm;refine wP1 ⟨Sd SW _,EQ (it:=it) (pl:=pl) W R (nG1 (bh m c)) (nG1 m) (nN1 c) (SO N) es.size 0
  {s with heap:=(d.update s.heap.objs.size (Rp (·.push P9))).update s.heap.objs.size (Rp (·.pop)),Qj:=p} f _ _ O (bi _) (n _ _ (nG1 c) K) (n a _ (nN1 m) (g _ _ (h a _ D))) (y.keep λF o e q=>n F o (nG1 (G F e).2) q) (λF e=>⟨(G F e).1,nG1 (G F e).2⟩) B O λh' I c' keep H X=>?_⟩
 show dJ _ A (load s.heap.objs.size >>= _) _ _ {s with heap:=h',Qj:=p};refine wB1 (wpAny_load H ?_);have hI:∀v∈pl,∃k t,v=ab k t:=λv ao=>by
  obtain⟨e,wq,rfl⟩:=cc.mp (S.mem_iff.mp ao);obtain⟨k,t,rfl⟩:=av.el e wq;exact⟨k,t,O⟩
 have all:∀vs:List dz,(∀v∈vs,∃k t,v=ab k t)->Ry vs (vs.map λv=>Oh (0,v)):=by
  intro vs
  induction vs with
  |nil=>intro _;exact .nil
  |cons v vs ih=>
   intro ao;obtain⟨k,t,rfl⟩:=ao v mS1;exact .cons k t (ih λu V=>ao u (mC1 _ V))
 refine wP1 (q h' p I.toList (pl.map λv=>Oh (0,v)) (λb u e=>?_) (Nat.le_of_lt (hL1 H)) (by rw[X];exact all pl hI) ?_)
 ·have C:=hL1 e;exact keep b u (nN1 (bh C c)) (nN1 C) (n b u (nN1 C) (g _ _ (h b u e)))
 ·refine(S.map _).trans ?_;rw[bu];exact av.pm
theorem uA {s:dA}{a:dB}{ns:List Int}{Q:dz->dA->Prop}(o:A.handled=none)(hx:km (byT w) a ns s.heap)(h:ns.length<64)
  (q:∀h' d L n out,(∀b u,s.heap.get? b=Z u->h'.get? b=Z u)->s.heap.objs.size<=L->h'.get? L=Z (SD "list" out n)->Ry out.toList (hM ns)->Q (.ref L) {s with heap:=h',Qj:=d}):
  dJ (Qm P w) A (call (.builtin "sorted") [.ref a]) Q E s:=by
 refine SY kind_sorted plain_sorted entry_sorted (args_sorted1 _) (?_:_);unfold Builtin.«sorted»;refine wB1 (m:=checkCount "sorted" 1 1 _) (wP1 (wB1 (wj o hx λh' d vs t keep p k l=>?_)));have f:vs.length<64:=by rw[k.length,l.length_eq];exact h
 refine wB1 (wpAny_newList (hsz:=by rw[QT];lia) ?_);have c:(h'.push (SD "list" vs.toArray 0)).get? h'.objs.size=Z (SD "list" vs.toArray 0):=hS1 _ O;show dJ _ _ _ _ _ {s with heap:=h'.push (SD "list" vs.toArray 0),Qj:=d};refine wB1 (QA (wE1 slot_list_sort ⟨_,c,O⟩ entry_list_sort (list_sort_tree (s:={s with heap:=h'.push (SD "list" vs.toArray 0),Qj:=d}) c k f λout i a1 a2 a3=>⟨_,O,?_⟩) (args_list_sort _)));have r:i=hM ns:=l5 (a2.trans (l.trans (fy ns).symm)) a3 (i6 ns);subst r;obtain⟨n,g⟩:=sortedHeap_at (out:=out) c;refine wP1 ⟨_,O,q _ d h'.objs.size n out (λb u e=>?_) p g a1⟩;have j:=keep b u e;show(SE (h'.push (SD "list" vs.toArray 0)) h'.objs.size vs out).get? b=Z u;rw[sortedHeap_old (nN1 (hL1 j)) (by rw[hZ1];exact cy (hL1 j))];exact hP1 _ j
end
def jk:G1:=λd S=>match ee S d with
 |some (M,xs)=>(jy xs).bind λns=>if ns.length<64 then Z (.ref S.length,S++[.lst ((hM (ddI ns)).map D.int)])else Y
 |_=>Y
def LW(X:Cx)(vs:List V)(H:Hp)(Q:VK):Prop:=∃a xs ns,vs=[.ref a]/\nq X.K H a xs/\(∀us,ez xs us->Ry us ns)/\ns.length+1<Sn /\ ∀p,H p=Y->Q (.ref p) (upd H p (.ext (km (byT X.w) p (ddI ns))))
def IP(X:Cx)(vs:List V)(H:Hp)(Q:VK):Prop:=∃a ns,vs=[.ref a]/\H a=Z (.ext (km (byT X.w) a ns))/\ns.length<64 /\ ∀p,H p=Y->Q (.ref p) (upd H p (.lst ((hM ns).map V.int)))
theorem Ai{ag:List (dB×Obj)}{σ:L2.St}{H:Hp}{s:dA}(I:Inv X ag σ H s)(d:Drawn):Inv X ag σ H {s with Qj:=d}:=⟨I.ok,I.os,I.bare,I.base,I.loc,I.cell,I.free,I.freeC,I.pin,I.hok,I.len⟩
theorem KY(hc:X.calm=M):fc X (.type "set") (LW X):=by
 intro ag s σ H xs m Q I r h;obtain⟨a,vs,ns,rfl,g,hi,f,q⟩:=h;obtain⟨u,rfl,r2⟩:=iP r;cases r2;obtain⟨b,i,p,n⟩:=I.list g;have j:=hi b i;refine AG (I.ok.hd hc) p.isList (by simpa using j) f λh' tk keep d=>?_;have c:=I.hok.fresh (nR1 s.heap.objs.size);refine⟨.ref s.heap.objs.size,_,I.laid (t':=tk) (o:=.ext (km (byT X.w) s.heap.objs.size (ddI ns))) keep (nR1 _) ⟨d,?_,λh1 h2 x k=>x.old k⟩,O,q _ c⟩;obtain⟨es,ep,t,l,e,_⟩:=d;exact⟨_,e⟩
theorem Ha(hc:X.calm=M):fc X (.builtin "sorted") (IP X):=by
 intro ag s σ H xs k Q I r h;obtain⟨a,ns,rfl,f,g,q⟩:=h;obtain⟨u,rfl,r2⟩:=iP r;cases r2;obtain⟨j,_⟩:=(show e9 X.prog X.w H s.heap a (.ext (km (byT X.w) a ns))from I.hok a _ f);refine uA (I.ok.hd hc) j g λh' e L n out keep d b i=>?_;have c:=I.hok.fresh d;refine⟨.ref L,_,Ai (I.laid (t':=s.toks) (o:=.lst ((hM ns).map V.int)) keep d ⟨?_,out.toList,n,m9 i,by rw[cG];exact b⟩) e,O,q _ c⟩;rw[lM1,(fy ns).length_eq,QT];lia
theorem MV(ns:List Int):(ddI ns).length<=ns.length:=by
 have:=pK ns [];unfold ddI;simpa using this
theorem q0 (hc:X.calm=true){o:Expr}{m:FE}{p p2 pos b:Pos}(hg:Gl X "sorted")(hm:X.mg "sorted"=none)(hg2:Gl X "set")(hm2:X.mg "set"=none)(ho:XE X o m)
  (he:autoParam (dH [.Call (.Name "set" p2) [o] [] b] X.env=[(J,eval (.Call (.Name "set" p2) [o] [] b) X.env)]) cu0) (e:autoParam (dH [o] X.env=[(J,eval o X.env)]) cu0):XE X (.Call (.Name "sorted" p) [.Call (.Name "set" p2) [o] [] b] [] pos) (mN (b1 jk) (dR m dS)):=
 ⟨eX (l6 (Ha hc) hg hm (by decide+kernel) (iR (kE (KY hc) hg2 hm2 (by decide+kernel) (iR ho.h lC e) (he:=e)) lC he) (he:=he)) <| by
  rintro σ H Q ⟨r,mu,S,d,C,he,z,hm,f⟩;obtain⟨⟨ds,F⟩,g,hm⟩:=Th hm;obtain⟨⟨n,E⟩,x,g⟩:=Th g;cases g;dsimp only[b1,jk]at hm;split at hm
  ·rename_i xs B;obtain⟨ns,y,hm⟩:=Th hm;split at hm
   ·rename_i i;cases hm;refine⟨r,mu,S,n,_,he,z,x,λv H1 mu1 A s k=>?_⟩;obtain⟨a,vs,rfl,q,t⟩:=d5 s k B;refine⟨a,vs,ns,O,q,λD l=>(na t l y).1,bh (Nat.succ_lt_succ i) (by decide),λp h=>?_⟩;refine⟨p,ddI ns,O,eA,bH (MV ns) i,λp2 c=>?_⟩;have w:Ext mu1 mu1 H1 (upd H1 p (.ext (km (byT X.w) p (ddI ns)))):=Ext.fresh h;have j:=k.fresh (u:=.ext (km (byT X.w) p (ddI ns))) h;exact f _ _ (mu1++[p2]) (A.trans (w.trans (Ext.new_ c))) (.ref (gM j.len _)) (j.newL (jb _) c)
   ·cases hm
  ·cases hm⟩
section
variable{ag:List (dB×Obj)}{σ:L2.St}{H:Hp}{s:dA}{a:dB}{kvs:List (Key×V)}{k:Key}{v:V}{u r:dz}{A:dE}{E:dz->dA->Prop}
theorem KS{Q:dz->dA->Prop}(I:Inv X ag σ H s)(e:H a=Z (.dK kvs))(l:kvs.length<dI)(x:eg (kV k) u)(t:eg v r)(h1:∀z,ib kvs k=Z z -> ∀g s',Inv X ag σ H s'->eg z g->Q g s')(h2:ib kvs k=Y -> ∀s',Inv X ag σ (upd H a (.dK (iq kvs k v))) s'->Q r s'):dJ (Qm X.prog X.w) A (call (.builtin "dict.setdefault") [.ref a,u,r]) Q E s:=by
 obtain⟨z,m,vs,b,j⟩:=vF I.hok e;refine call_meetsIn PySem.F.slot_dict_setdefault j.typeIs PySem.F.entry_dict_setdefault (PySem.F.args_dict_setdefault_3 _ _ _) (kt_meets_setdefault (ft X.prog X.w) a (pA x) m r) ⟨vs,j,by rw[<- b.length];exact z,λy c=>?_,λi h' f w=>?_⟩
 ·cases ev:ib kvs k with
  |none=>
   have:=b.val k;rw[ev,c]at this;cases this
  |some z=>
   obtain⟨g,h,d⟩:=nr.some_of (v:=z) (o:=Rz vs k) (by rw[<- ev];exact b.val k);rw[h]at c;cases c;exact h1 z ev _ _ (I.tok _) d
 ·cases ev:ib kvs k with
  |some z=>
   obtain⟨g,h,d⟩:=nr.some_of (v:=z) (o:=Rz vs k) (by rw[<- ev];exact b.val k);rw[h]at i;cases i
  |none=>
   have n:(iq kvs k v).length<=dI:=by have:=iT kvs k v;lia
   have p:∃q,h'.get? a=Z q:=let ⟨q,_,_,hq,_⟩:=f;⟨q,hq⟩
   exact h2 ev _ (kO I (by rw[e];exact QW) w p (xa n m (b.put k t) f))
end
def NV(td ty tx:TE):TE:=fun σ H Q=>td σ H λx H1=>∃a,x = .ref a/\ON H1 a/\ty σ H1 λy H2=>tx σ H2 λz H3=>∃kvs k,H3 a=Z (.dK kvs)/\kvs.length<dI/\y=kV k /\
 (∀v,ib kvs k=Z v->Q v H3)/\(ib kvs k=Y->Q z (upd H3 a (.dK (iq kvs k z))))
theorem Jk {o e f:Expr}{apos cpos:Pos}{td ty tx:TE}(ho:PE X o td)(he:PE X e ty)(hf:PE X f tx)(m:M2 X o "setdefault" apos e f cpos):PE X (.Call (.Attribute o "setdefault" apos) [e,f] [] cpos) (NV td ty tx):=by
 intro ag s σ H Q I h;refine wpAny_Call_method m.base m.few m.line PySem.F.plainAttrs_dict PySem.F.slot_dict_setdefault PySem.F.type_dict_setdefault (fx (ho ag s σ H _ I h) λu G ⟨x,H1,g,B,a,ex,d,E⟩=>?_);subst ex;obtain rfl:u=Qb a:=B;obtain⟨A,t,_⟩:=KD g d;refine⟨A,t,?_⟩;rw[m.trees];refine Rv O (Rx (Calls.spliced_cons (fx (he ag G σ H1 _ g E) λK D ⟨y,H2,p,r,ao⟩=>
  Calls.spliced_cons (fx (hf ag D σ H2 _ p ao) λaq N ⟨z,n,w,c,kvs,k,i,el,C,j,F⟩=>Calls.spliced_nil ?_))))
 subst C;exact KS w i el r c (λv l L s' b q=>⟨v,n,b,q,j v l⟩) λl s' b=>⟨z,_,b,c,F l⟩
def pv(m a b:FE):FE:=λr S=>(m r S).bind λp=>match p.1 with
 | .ref n=>match p.2[n]? with
  |some (.dct _)=>(a r p.2).bind λq=>(b r q.2).bind λt=>match t.2[n]? with
   |some (.dct kvs)=>(n6 q.1).bind λk=>if kvs.length<dI then Z (match d6 kvs k with|some z=>(z,t.2)|none=>(t.1,t.2.set n (.dct (hO kvs k t.1))))else none
   |_=>Y
  |_=>Y
 |_=>Y
theorem EM {o e f:Expr} {apos cpos:Pos} {m a b:FE} (ho:XE X o m) (he:XE X e a) (hf:XE X f b) (hm:M2 X o "setdefault" apos e f cpos:=by exact⟨O,O,O,O⟩):XE X (.Call (.Attribute o "setdefault" apos) [e,f] [] cpos) (pv m a b):=
 ⟨eX (Jk ho.h he.h hf.h hm) <| by
  rintro σ H Q ⟨r,mu,S,d,S',he,V,hm,hc⟩;obtain⟨⟨ao,E⟩,au,hm⟩:=Th hm;refine⟨r,mu,S,ao,E,he,V,au,λv1 H1 mu1 p L C=>?_⟩;dsimp only at hm;split at hm
  ·rename_i n;split at hm
   ·rename_i G x;cases L with
    | @ref _ aq y=>
     refine⟨aq,O,KC C y x,?_⟩;obtain⟨⟨av,B⟩,R,hm⟩:=Th hm;obtain⟨⟨P,F⟩,K,hm⟩:=Th hm;refine⟨r,mu1,E,av,B,he.ext p,C,R,λv2 H2 u j r2 W=>?_⟩;refine⟨r,u,B,P,F,(he.ext p).ext j,W,K,λI q g i A w=>?_⟩;dsimp only at hm;split at hm
     ·rename_i kvs wq;obtain⟨k,U,hm⟩:=Th hm;split at hm
      ·rename_i T;have hm:=Option.some.inj hm;have h:=i.at (j.at y);obtain⟨ws,s,t⟩:=w.dct wq h;have lk:=t.look (k:=k);refine⟨ws,k,s,by rw[<- t.length];exact T,kK (r2.ext i) U,λv l=>?_,λl=>?_⟩
       ·cases e:d6 kvs k with
        |none=>have:=lk.2;rw[e]at this;simp[l]at this
        |some z=>
         rw[e]at hm;cases hm;obtain⟨N,c,D⟩:=lk.1 _ e;rw[l]at c;cases c;exact hc _ q g ((p.trans j).trans i) D w
       ·cases e:d6 kvs k with
        |some z=>
         obtain⟨N,c,D⟩:=lk.1 _ e;rw[l]at c;cases c
        |none=>
         rw[e]at hm;cases hm;have put:Ext g g q (upd q _ (.dK (iq ws k I))):=Ext.put s trivial (gM1 h);exact hc _ _ g (((p.trans j).trans i).trans put) (A.ext put) (w.put h s trivial ⟨_,eA,(t.put A).ext put⟩)
      ·cases hm
     ·cases hm
   ·cases hm
  ·cases hm⟩
open AutoSeq1 (wpAny_loadPart')
section
variable{prog:dD}{w:dF}{A:dE}{E:dz->dA->Prop}{s:dA}
end
section
variable{P:dD}{w:dF}{A:dE}{E:dz->dA->Prop}{s:dA}
set_option maxHeartbeats 3200000 in
theorem AD {l:dB}{its:Array dz}{Q:dz->dA->Prop}(D:s.heap.IsTuple l its)
  (f:∀t:dE,t.handled=A.handled -> ∀R:QY->dA->Prop,(∀s',Q (.ref s.heap.objs.size) s'->R (.ok (.ret .none)) s') ->
   dL (Qm P w) t (.builtin "set.update.loop" ⟨[.ref s.heap.objs.size,.ref (s.heap.objs.size+1)],[]⟩) R {s with heap:=(s.heap.push (stO #[] 0 (.fresh 0 0 (!byT w)))).push {cls:=.type "tuple_iterator",data:=.fields #[.ref l,.int 0 0]}}):
  dJ (Qm P w) A (call (.type "set") [.ref l]) Q E s:=by
 obtain⟨W,K,j⟩:=PySem.F.called_set.mro;have g:=PySem.F.called_set.made;have k:=PySem.F.called_set.sub
 refine wpAny_call (RN (?_:dJ _ _ (callAny (.type "set") _) _ _ _));refine wP1 ⟨Code.quiet_builtin _ (by decide+kernel),wD1 PySem.F.entry_type_call (?_:_)⟩;rw[Around.under_plain (weight_type_call_type "set" [.ref l] []) O];have L:=PySem.F.called_set.notType;have aq:=PySem.F.called_set.canCreate;have V:=PySem.F.typeCall_set_1 (.ref l)
 repeat(any_goals (first|wp_step|assumption))
 refine QZ (yi (.ref l) (E:=E) (G:=λx n=>x = .ref s.heap.objs.size/\n={s with heap:=s.heap.push (stO #[] 0 (.fresh 0 0 (!byT w)))}) ⟨O,O⟩) λr n d=>?_;cases r with
 |error e=>exact d
 |ok F=>
  cases F with
  |ret x=>
   obtain⟨rfl,rfl⟩:=d;have o:(s.heap.push (stO #[] 0 (.fresh 0 0 (!byT w)))).get? s.heap.objs.size=Z (stO #[] 0 (.fresh 0 0 (!byT w))):=hS1 _ O;have C:Shared.TypeIs {s with heap:=s.heap.push (stO #[] 0 (.fresh 0 0 (!byT w)))} (.ref s.heap.objs.size) "set":=⟨_,o,O⟩;have av:=PySem.F.called_set.init.lookup;have N:=PySem.F.called_set.init.bind (.ref s.heap.objs.size)
   repeat(any_goals (first|wp_step|assumption))
   refine QZ (codeAny_call_builtin (R:=wants (λr m=>r = .none/\Q (.ref s.heap.objs.size) m) E) PySem.F.called_set.init.plain PySem.F.entry_set_init (check_set_init_1 C (?_:_))) λr2 m a=>?_
   ·obtain⟨u,h,b,p,c⟩:=D;obtain⟨T,z,ao,H⟩:=u;simp only at b c;subst b;subst c;have v:(s.heap.push (stO #[] 0 (.fresh 0 0 (!byT w)))).get? l=Z {cls:=.type "tuple",dict:=z,data:=.seq its p,slots:=H}:=hP1 _ h;have S:=PySem.F.sub_tuple_set;have U:=PySem.F.sub_tuple_frozenset;have X:(Qc "tuple" == Qc "dict")=J:=by decide
    have y:(s.heap.push (stO #[] 0 (.fresh 0 0 (!byT w)))).IsTuple l its:=⟨_,v,O,p,O⟩;have I:(s.heap.push (stO #[] 0 (.fresh 0 0 (!byT w)))).get? s.heap.objs.size=Z {cls:=.type "set",dict:=Y,data:=.set #[] 0 (.fresh 0 0 (!byT w)),slots:= #[]}:=o;unfold Builtin.«set.__init__» noKeywords Builtin.Frozenset.updateFrom;generalize i:QJ=PI
    wp_walk
    subst i;refine wpAny_pyIter_tuple y (wB1 (SQ (?_:_)));dsimp only;rw[show(s.heap.push (stO #[] 0 (.fresh 0 0 (!byT w)))).objs.size=s.heap.objs.size+1 from by rw[hZ1]];refine f A.in1.in1 (by simp) _ λs' q=>?_;exact wP1 (wP1 ⟨O,q⟩)
   ·cases r2 with
    |error e=>exact a
    |ok B=>
     cases B with
     |ret r=>
      obtain⟨rfl,q⟩:=a
      repeat(any_goals (first|wp_step|assumption))
     |_=>exact a.elim
  |_=>exact d.elim
theorem xg{l:dB}{its:Array dz}{ns:List Int}{Q:dz->dA->Prop}(z:A.handled=Y)(h:s.heap.IsTuple l its)(H:Ry its.toList ns)(hb:its.size+1<Sn)(q:∀h' tk,(∀c o,s.heap.get? c=Z o->h'.get? c=Z o)->h'.SetOf (Qf P w) s.heap.objs.size (λy=>(firstMet (λi=>ns.getD i 0) its.size).any (· == y)) (firstMet (λi=>ns.getD i 0) its.size).length->Q (.ref s.heap.objs.size) {s with heap:=h',toks:=tk}):dJ (Qm P w) A (call (.type "set") [.ref l]) Q E s:=by
 have a:l<s.heap.objs.size:=by obtain⟨o,e,_⟩:=h;exact hL1 e
 refine AD h λao x R p=>?_;have C:(s.heap.push (stO #[] 0 (.fresh 0 0 (!byT w)))).objs.size=s.heap.objs.size+1:=by rw[hZ1]
 have I:(s.heap.push (stO #[] 0 (.fresh 0 0 (!byT w)))).get? s.heap.objs.size=Z (stO #[] 0 (.fresh 0 0 (!byT w))):=hS1 _ O;have b:∀(i:Nat) (v:dz),its[i]?=Z v -> ∃t,v = .int ((λi=>ns.getD i 0) i) t:=λi v u=>PyProof.Rows.IntsAre.int_at H i v (by rw[aT1];exact u);have g:s.heap.objs.size∉[s.heap.objs.size+1,l]:=by
  simp only[aF,cH,bL,R9,not_or];exact⟨nN1 (bC _),nG1 a⟩
 have j:ao.in1.handled=Y:=by simpa using x.trans z
 refine PyProof.Rows.codeAny_set_update_loopS ((Walks.tuple j _ l (nN1 (cy a)) its).toS) s.heap.objs.size g (λi=>ns.getD i 0) b hb (its.size-0) 0 _ (by lia) (bi _) ⟨?_,?_⟩ ?_ λs' d k=>?_
 ·refine⟨{cls:=.type "tuple_iterator",data:=.fields #[.ref l,.int 0 0]},?_,O,O⟩;have this:((s.heap.push (stO #[] 0 (.fresh 0 0 (!byT w)))).push {cls:=.type "tuple_iterator",data:=.fields #[.ref l,.int 0 0]}).get? (s.heap.push (stO #[] 0 (.fresh 0 0 (!byT w)))).objs.size=Z {cls:=.type "tuple_iterator",data:=.fields #[.ref l,.int 0 0]}:=hS1 _ O;rw[C]at this;exact this
 ·obtain⟨o,e,r⟩:=h;exact⟨o,hP1 _ (hP1 _ e),r⟩
 ·exact PyProof.Rows.SetOf_congr ((PyProof.Rows.setObjOf_fresh (knd:=Qf P w) (!byT w)).setOf (hP1 _ I) (by unfold Sn;lia)) (λ_=>rfl) O
 ·obtain⟨h',D,n,m,f⟩:=s';have B:D=s.gens:=d.gens;have F:n=s.drawn:=d.drawn;have G:f=s.os:=d.os;subst B;subst F;subst G;refine p _ (q h' m (λc o e=>d.heap c o ?_ (hP1 _ (hP1 _ e))) k);have:=hL1 e;simp only[aF,cH,bL,R9,not_or];exact⟨nN1 this,nN1 (cy this)⟩
end
def iU:G1:=λd S=>match ee S d with
 |some (_,xs)=>(jy xs).bind λns=>if ns.length+1<Sn then Z (.ref S.length,S++[.iset (ddI ns)])else Y
 |_=>Y
theorem DU{k:Nat}(hr:ga k X.A):fc X (.type "set") (rN X.K (b1 iU)):=by
 intro ag s σ H xs y Q I r h;have E:=h;obtain⟨x,mu,S,d,w,v,rfl,m,i,c,hc⟩:=BW h;unfold iU at c;split at c
 ·rename_i b ys l;cases b with
  |true=>exact M5 hr ag s σ H _ y Q I r ⟨mu,S,[d],w,v,.cons m .nil,i,(by show tW d S=_;unfold tW;rw[l];exact c),hc⟩
  |false=>
  obtain⟨ns,e,c⟩:=Th c;split at c
  ·rename_i p;cases c;obtain⟨a,vs,rfl,q,t⟩:=d5 m i l;cases r with
   |cons A rt=>
    cases rt;cases A;obtain⟨f,o,D,_⟩:=I.tuple q;obtain⟨hi,n⟩:=na t o e;have g:f.toArray.size=ns.length:=by rw[sT1,hi.length]
    refine xg (its:=f.toArray) (ns:=ns) hr.hd D (by simpa using hi) (by rw[g];exact p) λh' tk B j=>?_;rw[g,vJ]at j;have nd:(ddI ns).Nodup:=my ns [] bp;have C:=mK (ddI ns);rw[C]at j;refine⟨.ref s.heap.objs.size,upd H s.heap.objs.size (.set (λk=>(ddI ns).contains k) (ddI ns).length),I.laid (λb u z=>B b u z) (nR1 _) j,O,?_⟩;exact hc _ _ (mu++[s.heap.objs.size]) (Ext.new_ I.fresh) (.ref (gM i.len _)) (i.new I.fresh ⟨eA,nd⟩)
  ·cases c
 ·cases c
section
variable{a b:Expr}{rest:List Expr}{pos:Pos}{ta tb:TE}{f g:FE}
end
theorem KR.len{K:Fg1}{H:Hp}{mu:List dB}{ks:List (Key×D)}{ws:List (Key×V)}(h:KR K H mu ks ws):ws.length=ks.length:=by
 induction h with
 |nil=>rfl
 |cons _ _ ih=>rw[lC1,lC1,ih]
def pH:G1:=λd S=>match d with
 | .ref n=>match S[n]? with
  |some (.dct kvs)=>Z (.int kvs.length,S)
  |_=>eM d S
 |_=>eM d S
theorem K4:fc X (.builtin "len") (rN X.K (b1 pH)):=by
 intro ag s σ H xs i Q I r h;obtain⟨x,mu,S,d,j,g,f,c,b,a,hc⟩:=BW h;have o:=a;unfold pH at a;split at a
 ·rename_i n;split at a
  ·rename_i ys e;cases a;subst f;cases c with
   |ref l=>
    obtain⟨ws,k,p⟩:=b.dct e l;cases r with
    |cons m rt=>
     cases rt;cases m;refine MX I (Rd.of k) λt s' q=>⟨.int ws.length,H,q,⟨_,O⟩,?_⟩;rw[p.len];exact hc.now (.int _) b
  ·exact eR ag s σ H xs i Q I r (by subst f;exact⟨mu,S,[_],j,g,.cons c .nil,b,(show b1 eM [_] S=_ from a),hc⟩)
 ·exact eR ag s σ H xs i Q I r (by subst f;exact⟨mu,S,[_],j,g,.cons c .nil,b,(show b1 eM [_] S=_ from a),hc⟩)
section
variable{P:dD}{w:dF}{A:dE}{E:dz->dA->Prop}{b:Bool}
end
section
variable{prog:dD}{w:dF}{A:dE}{E:dz->dA->Prop}{s:dA}
theorem vM {l:dB}{vs:List dz}{Q:List dz->dA->Prop}(b:s.heap.IsTuple l vs.toArray)
  (h:Q vs {s with heap:=(s.heap.push (SD "list" #[] 0)).update s.heap.objs.size (Rp (· ++ vs.toArray))}) (hsz:vs.length<=dI:=by size_fits):
  dJ (Qm prog w) A (collect (.ref l)) Q E s:=by
 obtain⟨o,d,hc,n,c⟩:=id b;unfold collect;refine wB1 (SQ (wD1 entry_proto_collect' ?_));show dJ _ _ (do again (.builtin "list.__iadd__" ⟨[<- newList [],.ref l],[]⟩)) _ _ s;refine wB1 (wpAny_newList (wP1 ⟨Code.quiet_builtin _ (by decide+kernel),wD1 entry_list_iadd' ?_⟩));show dJ _ _ (SX (.ref s.heap.objs.size) (.ref l) (.ref s.heap.objs.size)) _ _ {s with heap:=s.heap.push (SD "list" #[] 0)};unfold SX;have a:(s.heap.push (SD "list" #[] 0)).get? l=Z o:=hP1 _ d;refine wB1 (Rm (T:="tuple") ⟨o,a,hc⟩ ?_);have e:(Qc "tuple" == Qc "tuple")=M:=by rfl
 rw [if_pos (by rw [e];simp)];refine wB1 (SF a c ?_);refine wB1 (SF (xs:= #[]) (n:=0) (hS1 _ rfl) rfl ?_);rw [if_neg (by simp)];refine wB1 (listUpdate_at (xs:= #[]) (n:=0) (hS1 _ rfl) rfl ?_ (bi _) (by show (#[]++vs.toArray).size<=dI+1;simp only [Array.size_append,sT1,bf];omega));refine wP1 ?_;show dJ (Qm prog w) A (do
   let o<-load s.heap.objs.size
   match o.data with
   | .seq xs _=>pure xs.toList
   |_=>unsupported "internal:collect") Q E {s with heap:=(s.heap.push (SD "list" #[] 0)).update s.heap.objs.size (Rp (· ++ vs.toArray))}
 refine wB1 (wpAny_load (get?_update_seq (hS1 _ O) _) ?_);show dJ _ _ (pure ((#[]:Array dz)++vs.toArray).toList) Q E _;rw[show((#[]:Array dz)++vs.toArray).toList=vs by simp];exact wP1 h
theorem oO {l:dB}{vs:List dz}{Q:dz->dA->Prop}(a:s.heap.IsList l vs.toArray\/s.heap.IsTuple l vs.toArray)(f:vs.length<64)
  (h:∀P:PySem.Fin->dA->Prop,(∀out:Array dz,Q (.ref (s.heap.objs.size+1)) {s with heap:=sortedAll s.heap vs out}->P (.done (.ret .none)) {s with heap:=sortedAll s.heap vs out}) ->
   ∀e (h':dM),h'=(((s.heap.push (SD "list" #[] 0)).update s.heap.objs.size (Rp (· ++ vs.toArray))).push (SD "list" vs.toArray 0))->h'.get? (s.heap.objs.size+1)=Z (SD "list" vs.toArray 0) ->
   dJ (Qm prog w) A.in1.in1 (Builtin.«list.sort» ⟨[.ref (s.heap.objs.size+1)],[]⟩) P e {s with heap:=h'}):
  dJ (Qm prog w) A (call (.builtin "sorted") [.ref l]) Q E s:=by
 refine SY kind_sorted plain_sorted entry_sorted (args_sorted1 _) ?_;unfold Builtin.«sorted»;refine wB1 (m:=checkCount "sorted" 1 1 _) (wP1 ?_);have g:∀(e:dz->dA->Prop) (Q:List dz->dA->Prop),Q vs {s with heap:=(s.heap.push (SD "list" #[] 0)).update s.heap.objs.size (Rp (· ++ vs.toArray))}->dJ (Qm prog w) A.in1 (collect (.ref l)) Q e s:=λe Q d=>by
  rcases a with a|a
  ·exact collect_list a d (by rw[QT];omega)
  ·exact vM a d (by rw[QT];omega)
 refine wB1 (g _ _ ?_);refine wB1 (wpAny_newList ?_ (by rw[QT];omega));have c:((s.heap.push (SD "list" #[] 0)).update s.heap.objs.size (Rp (· ++ vs.toArray))).objs.size=s.heap.objs.size+1:=by
  rw[Heap.size_update,size_push']
 have b:(((s.heap.push (SD "list" #[] 0)).update s.heap.objs.size (Rp (· ++ vs.toArray))).push (SD "list" vs.toArray 0)).get? (s.heap.objs.size+1)=Z (SD "list" vs.toArray 0):=by
  rw[<- c];exact hS1 _ O
 show dJ _ _ _ _ _ {s with heap:=((s.heap.push (SD "list" #[] 0)).update s.heap.objs.size (Rp (· ++ vs.toArray))).push (SD "list" vs.toArray 0)};rw[c];refine wB1 (QA (wE1 slot_list_sort ⟨_,b,O⟩ entry_list_sort (h _ ?_ _ _ O b) (args_list_sort _)));intro out d;exact⟨_,O,wP1 ⟨_,O,d⟩⟩
theorem vh{vs:List dz}{b:dB}{o:Obj}(q:s.heap.get? b=Z o):b≠s.heap.objs.size+1/\(((s.heap.push (SD "list" #[] 0)).update s.heap.objs.size (Rp (· ++ vs.toArray))).push (SD "list" vs.toArray 0)).get? b=Z o:=by
 have a:b<s.heap.objs.size:=hL1 q;have c:((s.heap.push (SD "list" #[] 0)).update s.heap.objs.size (Rp (· ++ vs.toArray))).objs.size=s.heap.objs.size+1:=by
  rw[Heap.size_update,size_push']
 refine⟨nN1 (cy a),?_⟩;rw[Heap.get?_push_ne _ _ _ (by rw[c];exact nN1 (cy a)),hU1 _ _ _ _ (nN1 a),Heap.get?_push_ne _ _ _ (nN1 a)];exact q
theorem Kn{a b:dB}{k l:Int}{t u:Tok}{g zs:List dz}{Q:Bool->dA->Prop}(ha:Qd s.heap a (ab k t::g).toArray)(hb:Qd s.heap b (ab l u::zs).toArray)(c:k≠l)(h:Q (decide (k<l)) s):
  dJ (Qm prog w) A (keyLt' (tuples' M) (.ref a) (.ref b)) Q E s:=by
 rw[tN];obtain⟨o,d,n,_,f⟩:=ha;obtain⟨m,i,j,_,e⟩:=hb;refine wB1 (SF d f (wB1 (SF i e ?_)));rw[bV,bK,bE];refine wB1 (wB1 ?_);dsimp only;refine wB1 (wpAny_eqBool_int ?_);rw[beq_false_of_ne c];simp only[cI,Rf];exact wB1 (oneLt_int (wP1 (wP1 (wP1 h))))
theorem Ko{vs:List dz}{Q:Sq->dA->Prop}(i:vs≠[])(h:∀ v∈vs,∃ a k t ps,v = .ref a/\Qd s.heap a (ab k t::ps).toArray)(q:Q (tuples' true) s):
  dJ (Qm prog w) A (keyKind' vs.toArray) Q E s:=by
 rw[keyKind'_eq,List.mapM_toArray,<- bind_pure_comp];refine wB1 (wB1 (tH (P:=λ_ r=>∃k t,r=Z (ab k t)) (λv g=>?_) λrs p f=>wP1 ?_))
 ·obtain⟨a,k,t,ps,rfl,⟨o,l,y,_,u⟩⟩:=h v g;refine⟨Z (.int k t),⟨k,t,O⟩,λQ q=>?_⟩;rw[Ds];refine wB1 (Rm (T:="tuple") ⟨o,l,y⟩ ?_);rw[aj (by decide)];refine wB1 (SF l u (wP1 ?_));simpa using q
 ·have D:rs.toArray.all (·.isSome)=true:=by
   rw[List.all_toArray,bB];intro r d;obtain⟨v,_,k,t,e⟩:=f r d;rw[e];rfl
  rw[ak D];refine wB1 (QE ?_);rw[oneTypeOnly'_eq];have m:rs.toArray.filterMap id=(rs.filterMap id).toArray:=by simp
  rw[m,List.mapM_toArray,<- bind_pure_comp];refine wB1 (wB1 (wB1 (tH (P:=λ_ t=>t=Qc "int") (λv g=>?_) λc b F=>wP1 ?_)))
  ·obtain⟨r,d,e⟩:=aM.mp g;obtain⟨G,_,k,t,B⟩:=f r d;rw[B]at e;cases e;exact⟨_,O,λQ q=>Rm (T:="int") (typeIs_int s k t) q⟩
  ·cases c with
   |nil=>
    exfalso;cases rs with
    |nil=>exact i (cA.mp p.symm)
    |cons r rs=>
     obtain⟨_,_,k,t,e⟩:=f r mS1;rw[e]at b;simp at b
   |cons t c=>
    have all:∀x∈t::c,x=Qc "int":=λx j=>by obtain⟨_,_,z⟩:=F x j;exact z
    have C:=all t mS1;subst C;have n:((Qc "int"::c).toArray.all λx=>x == Qc "int")=M:=by
     rw[List.all_toArray,bB];intro x j;rw[all x j];rfl
    show dJ _ _ (pure (if((Qc "int"::c).toArray.all λx=>x == Qc "int")=M then Z (Qc "int")else Y)) _ _ _;rw[ak n];exact wP1 (wP1 q)
end
noncomputable def jB:D->Option Int
 | .tup (.int k::_)=>Z k
 |_=>Y
def nC:List D->Bool
 |[]=>M
 |x::l=>(match jB x with
  |some a=>l.all λy=>match jB y with
   |some b=>decide (a<b)
   |none=>J
  |none=>J)&&nC l
theorem uL:∀{l:List D} {i:Nat} {x:D},nC l=M->l[i]?=Z x -> ∃k,jB x=Z k
 |[],i,x,_,h=>by simp at h
 |y::l,0,x,h,e=>by
  cases e;rw[nC,bA1]at h;cases hy:jB y with
  |some k=>exact⟨k,O⟩
  |none=>rw[hy]at h;cases h.1
 |y::l,i+1,x,h,e=>by
  rw[nC,bA1]at h;exact uL h.2 (by simpa using e)
theorem lZ:∀{l:List D} {i j:Nat} {x y:D} {a b:Int},nC l=M->l[i]?=Z x->l[j]?=Z y->i<j->jB x=Z a->jB y=Z b->a<b
 |[],i,j,x,y,_,_,_,h,_,_,_,_=>by simp at h
 |z::l,0,0,_,_,_,_,_,_,_,h,_,_=>by omega
 |z::l,0,j+1,x,y,a,b,h,e1,e2,_,f1,f2=>by
  cases e1;rw[nC,bA1,f1]at h;have:=bB.mp h.1 y (gM1 (by simpa using e2));rw[f2]at this;exact RJ this
 |z::l,i+1,0,_,_,_,_,_,_,_,h,_,_=>by omega
 |z::l,i+1,j+1,x,y,a,b,h,e1,e2,hij,f1,f2=>by
  rw[nC,bA1]at h;exact lZ h.2 (by simpa using e1) (by simpa using e2) (by omega) f1 f2
def j5:G1:=λd S=>match ee S d with
 |some (M,xs)=>match pE xs with
  |some ns=>if ns.length<64 then Z (.ref S.length,S++[.lst ((hM ns).map D.int)])else Y
  |none=>if(nC xs&&decide (xs.length<64))=M then Z (.ref S.length,S++[.lst xs])else Y
 |some (J,xs)=>(pE xs).bind λns=>if ns.length<64 then Z (.ref S.length,S++[.lst ((hM ns).map D.int)])else Y
 |none=>Y
section
variable{ag:List (dB×Obj)}{σ:L2.St}{H:Hp}{s:dA}{mu:List dB}
theorem IM(I:Inv X ag σ H s):∀{ds:List D} {vs:List V} {its:List dz} {i:Nat} {d:D} {k:Int},d8 X.K H mu ds vs->ez vs its->ds[i]?=Z d->jB d=Z k -> ∃b t ps,its[i]?=Z (.ref b)/\Qd s.heap b (ab k t::ps).toArray:=by
 intro ds
 induction ds with
 |nil=>intro vs its i d k _ _ h;simp at h
 |cons x ds ih=>
  intro vs its i d k t g h a;cases t with
  |cons f t=>
   cases g with
   |cons n m=>
    cases i with
    |zero=>
     have:x=d:=by simpa using h
     subst this;unfold jB at a;split at a
     ·rename_i o rest;cases a;cases f with
      |tup q j=>
       obtain⟨is,c,it,_⟩:=I.tuple q;cases j with
       |cons rk p=>
        cases rk;cases c with
        |cons l _=>
         obtain⟨tk,rfl⟩:=l;cases n;exact⟨_,tk,_,O,it⟩
     ·cases a
    |succ i=>
     obtain⟨b,tk,ps,e,h⟩:=ih t m (by simpa using h) a;exact⟨b,tk,ps,by simpa using e,h⟩
end
theorem Hb:fc X (.builtin "sorted") (rN X.K (b1 j5)):=by
 intro ag s σ H xs us Q I r h;obtain⟨x,mu,S,d,r',S',rfl,r1,w,f,hc⟩:=BW h;unfold j5 at f;split at f
 ·rename_i ds en;obtain⟨a,vs,rfl,q,t⟩:=d5 r1 w en;obtain⟨u,rfl,r2⟩:=iP r;cases r2;obtain⟨its,p,ht,hz⟩:=I.list q;split at f
  ·rename_i ns n;split at f
   ·rename_i hl;cases f;have hI:=rM t p n;have A:its.length=ns.length:=by rw[<- p.length,<- t.length,rO n]
    refine sorted_ints ht.isList hI (by lia) λout ao F hp G=>?_;have B:ao=hM ns:=l5 (hp.trans (fy ns).symm) G (i6 ns);subst B;obtain⟨ep,g⟩:=sortedAll_at s.heap its out;have c:=I.hok.fresh (aX s.heap.objs.size);refine⟨.ref (s.heap.objs.size+1),_,I.laid (t':=s.toks) (o:=.lst ((hM ns).map V.int)) (λb ob q=>sortedAll_old q) (aX _) ?_,O,hc _ _ (mu++[_]) (Ext.new_ c) (.ref (gM w.len _)) (w.newL (jb _) c)⟩;refine⟨?_,out.toList,ep,m9 F,by rw[cG];exact g⟩;rw[lM1,(fy ns).length_eq,QT];lia
   ·cases f
  ·split at f
   ·rename_i m;cases f;rw[bA1,am]at m;obtain⟨W,hl⟩:=m;have A:its.length=ds.length:=by rw[<- p.length,<- t.length]
    have row:∀(i:Nat) (v:dz),its[i]?=Z v -> ∃b d k t ps,v = .ref b/\ds[i]?=Z d/\jB d=Z k/\Qd s.heap b (ab k t::ps).toArray:=λi v au=>by
     have hi:=(Tg au).1;have hd:ds[i]?=Z ds[i]:=gG1 (by omega);obtain⟨k,aq⟩:=uL W hd;obtain⟨b,tk,ps,e,it⟩:=IM I t p hd aq;rw[au]at e;cases e;exact⟨b,_,k,tk,ps,O,hd,aq,it⟩
    have uq:∀{b:dB} {k l:Int} {t u:Tok} {ps qs:List dz},Qd s.heap b (ab k t::ps).toArray->Qd s.heap b (ab l u::qs).toArray->k=l:=λh1 h2=>by
     obtain⟨o,n,_,_,d1⟩:=h1;obtain⟨o2,e2,_,_,K⟩:=h2;rw[n]at e2;cases e2;rw[d1]at K;injection K with K _;have:=congrArg Array.toList K;injection this with h1 _;injection h1
    refine oO (.inl ht.isList) (by omega) λP hP E' h' eh D=>?_;refine E6 (s:={s with heap:=h'}) (κ:=tuples' M) (ws:=its) D (by omega) (List.Perm.refl _) (λN k2 h2=>?_) ?_
    ·have keep:∀ b o,s.heap.get? b=some o->N.get? b=some o:=fun b o e=>by
      have:=vh (vs:=its) e;rw[<- eh]at this;exact k2 b o this.1 this.2
     have kt:∀{b:dB} {xs:Array dz},Qd s.heap b xs->Qd N b xs:=λh=>h.keeps keep;refine⟨⟨?_,?_,?_⟩,λQ q=>?_⟩
     ·refine ci.mpr λi j hi hj T e=>?_;obtain⟨b,d1,L,t1,C,n,av,U,R⟩:=row i _ (gG1 hi);obtain⟨b2,K,k3,t2,ps2,e2,f2,wq,i2⟩:=row j _ (gG1 hj);rw[n,e2]at e;cases e;have:=lZ W av f2 T U wq;have:=uq R i2;omega
     ·rw[pairsOf_toList];have:(its.zip its).map (·.1)=its:=List.map_fst_zip (nR1 _);rw[this]
     ·intro x y i j hx hy T E Q q;obtain ⟨b,d1,L,t1,C,rfl,av,U,R⟩:=row i _ hx;obtain ⟨b2,K,k3,t2,ps2,rfl,f2,wq,i2⟩:=row j _ hy;have aq:L≠k3/\decide (L<k3)=decide (i<j):=by
       by_cases z:i<j
       ·have:=lZ W av f2 z U wq;exact⟨by omega,by rw[ah z,ah this]⟩
       ·have:=lZ W f2 av (by omega) wq U;exact⟨by omega,by rw[ai z,ai (by omega)]⟩
      exact Kn (kt R) (kt i2) aq.1 (by rw[aq.2];exact q)
     ·refine Ko (λz=>by rw[z]at h2;simp at h2) (λv au=>?_) q;obtain⟨i,hi⟩:=bq au;obtain⟨b,d1,L,t1,C,rfl,av,U,R⟩:=row i _ hi;exact⟨b,L,t1,C,O,kt R⟩
    ·have e0:SE h' (s.heap.objs.size+1) its its.toArray=sortedAll s.heap its its.toArray:=by rw[eh];rfl
     show P _ {s with heap:=SE h' (s.heap.objs.size+1) its its.toArray};rw[e0];refine hP its.toArray ?_;obtain⟨ep,g⟩:=sortedAll_at s.heap its its.toArray;have c:=I.hok.fresh (aX s.heap.objs.size);refine⟨.ref (s.heap.objs.size+1),_,I.laid (t':=s.toks) (o:=.lst vs) (λb ob q=>sortedAll_old q) (aX _) ?_,O,hc _ _ (mu++[_]) (Ext.new_ c) (.ref (gM w.len _)) (w.newL t c)⟩;refine⟨?_,its,ep,p,g⟩;rw[p.length,QT];lia
   ·cases f
 ·rename_i ds en;obtain⟨ns,n,f⟩:=Th f;split at f
  ·rename_i hl;cases f;obtain⟨a,vs,rfl,q,t⟩:=d5 r1 w en;obtain⟨u,rfl,r2⟩:=iP r;cases r2;obtain⟨its,p,ht,hz⟩:=I.tuple q;have hI:=rM t p n;have A:its.length=ns.length:=by rw[<- p.length,<- t.length,rO n]
   refine oO (.inr ht) (by omega) λP hP E' h' eh D=>?_;refine list_sort_tree (s:={s with heap:=h'}) D hI (by omega) λout ao F hp G=>?_;have e0:SE h' (s.heap.objs.size+1) its out=sortedAll s.heap its out:=by rw[eh];rfl
   show P _ {s with heap:=SE h' (s.heap.objs.size+1) its out};rw[e0];refine hP out ?_;have B:ao=hM ns:=l5 (hp.trans (fy ns).symm) G (i6 ns);subst B;obtain⟨ep,g⟩:=sortedAll_at s.heap its out;have c:=I.hok.fresh (aX s.heap.objs.size);refine⟨.ref (s.heap.objs.size+1),_,I.laid (t':=s.toks) (o:=.lst ((hM ns).map V.int)) (λb ob q=>sortedAll_old q) (aX _) ?_,O,hc _ _ (mu++[_]) (Ext.new_ c) (.ref (gM w.len _)) (w.newL (jb _) c)⟩;refine⟨?_,out.toList,ep,m9 F,by rw[cG];exact g⟩;rw[lM1,(fy ns).length_eq,QT];lia
  ·cases f
 ·cases f
theorem MY{K:Fg1}{x:Str}{f:dB}(h:wN1 K dG x=Z (Z (.ref f))):CV K (.fn x) (.ref f):=⟨.ref f,O,λ_ _=>.fn h⟩
section
variable{f:dB}{fd:dN}{ps:List Str}{k n:Nat}{sp:Sp}{dvs:List V}{ds:List dz}{CX:AS}{E:XK}{t:TA}{e:Expr}{es:List Expr}{p pos:Pos}{i:Nat}{v x:Str}
theorem Cg (hN:X.N[i]? = some v)(hv:Vis X.env.scope v)(F:kn X.prog X.w X.K X.mg X.base CX k f fd ps sp)(hr:ga k X.A)(hm:X.mg x=some (.ref f))(hk:wK1 X.K (.ref f)=true)(hb:ly X.K fd ps ds)(hd:ez dvs ds)(hx:um CX X E)
  (ha:PA X (e::es) t) (hdb:autoParam ((v == ("__debug__":Str))=J) bu0) (hcd:autoParam ((v == ("__classdict__":Str))=J) bu0) (he:autoParam (dH (e::es) X.env=(J,eval e X.env)::dH es X.env) cu0) (hpl:autoParam ((Qn pos (dH es X.env)).any (·.1)=J) cu0):
  PE X (.Call (.Name v p) (e::es) [] pos) (fun σ H Q=>(∃a,σ[i]?=Z (Z (.ref a))/\wN1 X.K dG x=Z (Z (.ref a)))/\HB sp dvs E t σ H Q):=by
 rintro ag s σ H Q I ⟨⟨a,y,j⟩,h⟩;have g:=wM1 I.ok.mod.kin I.ok.mod.glob j;rw[hm]at g;cases g;obtain⟨m,w,o⟩:=I.loc;obtain⟨u,r,l⟩:=o i v _ hN y hv;cases r;have d:dJ (Qm X.prog X.w) X.A (callWith pos (.ref f) [] (Qn pos (dH (e::es) X.env)) (Rt pos (Ru [] X.env))) (EP X ag σ Q) X.xe s:=by
  refine PySem.W.callWith_K (h₀:=X.base) I.ok.mod.kin hk (fx (ha pos ag s σ H _ I h) λz A ⟨vs,H1,n,r,q⟩=>⟨n.kIn,?_⟩) he hpl;exact BV F hr hb hd hx n r q
 refine Q0 ?_;rcases l with⟨hk,hm⟩|⟨hk,c,hc,b⟩
 ·exact Qp (Qq I.ok.kind hk w hm d) hdb
 ·rcases hk with hk|hk
  ·exact Qp (wpAny_loadName_cell I.ok.kind hk hc b d) hdb
  ·exact Qp (wpAny_loadName_free I.ok.kind hk hc b d hcd) hdb
def va(i:Nat)(x:Str)(g:FN)(a:FA):FE:=λr S=>match r[i]? with
 |some (Z (.fn y))=>if y=x then mN g a r S else Y
 |_=>Y
theorem CQ {m:FN}{a:FA}{k':Nat}(i:Nat)(h:fe X.prog X.w X.K X.mg X.base k x n m)(hr:ga k' X.A)(hk:k<=k')(hN:X.N[i]? = some v)(hv:Vis X.env.scope v)(ha:MA X (e::es) a)(hdb:autoParam ((v == ("__debug__":Str))=false) bu0)(hcd:autoParam ((v == ("__classdict__":Str))=false) bu0)
  (he:autoParam (dH (e::es) X.env=(J,eval e X.env)::dH es X.env) cu0) (hpl:autoParam ((Qn pos (dH es X.env)).any (·.1)=J) cu0):ME X (.Call (.Name v p) (e::es) [] pos) (va i x (dU n m) a):=by
 obtain⟨f,fd,ps,F,b,z,s⟩:=h;refine eX (Cg (E:=E0) hN hv F (hr.mono hk) s z b .nil HF ha hdb hcd he hpl) fun σ H Q h=>?_;obtain⟨r,mu,S,d,l,he,t,c,hc⟩:=h;unfold va at c;split at c
 ·rename_i y L;split at c
  ·rename_i G;subst G;obtain⟨P,av,A⟩:=he.val i _ L;cases A with
   |fn u=>
    refine⟨⟨_,av,u⟩,?_⟩;obtain⟨r,mu,S,ds,l,he,t,c,hc⟩:=yo (K:=X.K) (f:=dU n m) ⟨r,mu,S,d,l,he,t,c,hc⟩;refine⟨r,mu,S,ds,l,he,t,c,λvs H' mu' N B aq=>?_⟩;have q:=hc vs H' mu' N B aq;show By X.K n m (vs++[]) H' Q E0;rw[aN];obtain⟨o,ao,j,C,w,h1,h2,g,I⟩:=q;unfold dU at g;split at g
    ·rename_i D;exact⟨by rw[<- h1.length];exact D,vU ⟨o,ao,j,C,w,h1,h2,g,I⟩⟩
    ·cases g
  ·cases c
 ·cases c
theorem q3 {m:FN}{a:FA}{k':Nat}(i:Nat)(h:fe X.prog X.w X.K X.mg X.base k x n m)(hr:ga k' X.A)(hk:k<=k')(hN:X.N[i]? = some v)(hv:Vis X.env.scope v)(ha:XA X (e::es) a)(hdb:autoParam ((v == ("__debug__":Str))=false) bu0)(hcd:autoParam ((v == ("__classdict__":Str))=false) bu0)
  (he:autoParam (dH (e::es) X.env=(J,eval e X.env)::dH es X.env) cu0) (hpl:autoParam ((Qn pos (dH es X.env)).any (·.1)=J) cu0):XE X (.Call (.Name v p) (e::es) [] pos) (va i x (dU n m) a):=⟨CQ i h hr hk hN hv ha.h hdb hcd he hpl⟩
end
section
variable{prog:dD}{w:dF}{K:Type} [DecidableEq K] {knd:HeapKind prog w K}{A:dE}{E:dz->dA->Prop}{s:dA}
theorem wP{d:dB}(hd:(d == Qe)=false):
  MeetsIn prog w (Builtin.«dict.__len__» ⟨[.ref d],[]⟩) (λ_ R s=>∃xs,s.heap.DictOfH knd d xs/\R (.ok (.ret (.int xs.length s.toks))) {s with toks:=s.toks+1}):=
 .of_wp λA R s ⟨xs,e,h⟩=>by
  obtain⟨o,es,ep,b,hc,a,c,_⟩:=e;show dJ _ _ (dictSize d >>= _) _ _ s;unfold dictSize;refine wB1 (wB1 (wpAny_dictEntries b a (wP1 ?_)));show dJ _ _ (Builtin.Dict.pendingCount d >>= _) _ _ s;refine wB1 (wpAny_pendingCount_other hd ?_);refine wpAny_ret_mkInt ?_;rw[Nat.add_zero,size_of_entries c];exact h
theorem AM{d:dB}{xs:List (K×dB×dz)}{Q:dz->dA->Prop}(hd:(d == Qe)=J)(hm:s.heap.DictOfH knd d xs)(a:(xs.length:Int)<2^63)(h:Q (.int xs.length (s.toks+1)) {s with toks:=s.toks+1+1}):dJ (Qm prog w) A (call (.builtin "len") [.ref d]) Q E s:=by
 refine SY kind_len plain_len entry_len (args_len1 _) ?_;unfold Builtin.«len»;refine wB1 (m:=oneArg "len" _) (wP1 ?_);refine wB1 (m:=callSpecial? (.ref d) (Rj "__len__")) (Ri (name:=Rj "__len__") hm.typeIs F.slot_dict_len
  (call_meetsIn F.slot_dict_len hm.typeIs F.entry_dict_len (F.args_dict_len_1 _) (wP (knd:=knd) hd) ⟨xs,hm,?_⟩))
 show dJ _ _ _ _ _ {s with toks:=s.toks+1};refine wB1 (QA (wP1 ?_));refine wB1 (R1 ?_);show dJ _ _ (if((xs.length:Nat):Int)<0 then _ else _) _ _ _;rw[aj (by omega)];show dJ _ _ (if((xs.length:Nat):Int)>=2^63 then _ else _) _ _ _;rw[aj (by omega)];exact wB1 (wpAny_mkInt (wP1 ⟨_,O,h⟩))
end
def rR:G1:=λd S=>match d with
 | .ref n=>match S[n]? with
  |some (.dcT kvs)=>Z (.int kvs.length,S)
  |_=>pH d S
 |_=>pH d S
theorem K3:fc X (.builtin "len") (rN X.K (b1 rR)):=by
 intro ag s σ H xs f Q I r h;obtain⟨x,mu,S,d,g,c,k,i,b,a,hc⟩:=BW h;have back:pH d S=Z (g,c)->dJ (Qm X.prog X.w) X.A (call (.builtin "len") f) (EP X ag σ Q) X.xe s:=λa=>K4 ag s σ H xs f Q I r (by subst k;exact⟨mu,S,[d],g,c,.cons i .nil,b,(show b1 pH [d] S=_ from a),hc⟩);unfold rR at a;split at a
 ·rename_i n;split at a
  ·rename_i ys e;cases a;subst k;cases i with
   |ref o=>
    obtain⟨ws,l,j,m⟩:=b.dcT e o;obtain⟨t,q⟩:=vI I l j;cases r with
    |cons p rt=>
     cases rt;cases p;refine AM t q (by rw[QT]at m;lia) ?_;refine⟨.int ws.length,H,I.tok _,⟨_,O⟩,?_⟩;rw[<- j.length];exact hc.now (.int _) b
  ·exact back a
 ·exact back a
def kN:G2:=λd e S=>match e with
 | .ref n=>match S[n]? with
  |some (.dct [])=>match keyT d with
   |some _=>Z (.bl M,S)
   |none=>gh d e S
  |_=>gh d e S
 |_=>gh d e S
theorem Cs(p:X.A.units+64<QX):gU X (QQ .NotIn) (r2 X.K (b2 kN)):=by
 intro ag s σ H x y u w Q I m o h;obtain⟨mu,S,d,e,r,j,l,c,i,a,hc⟩:=qo h;have back:gh d e S=Z (r,j)->dJ (Qm X.prog X.w) X.A (QQ .NotIn u w) (EP X ag σ Q) X.xe s:=λa=>pj p ag s σ H x y u w Q I m o ⟨mu,S,[d,e],r,j,.cons l (.cons c .nil),i,a,hc⟩;unfold kN at a;split at a
 ·rename_i n;split at a
  ·rename_i D;split at a
   ·rename_i k t;cases a;cases c with
    |ref q=>
     cases o;obtain⟨ws,v,A⟩:=i.dct D q;cases A;obtain⟨z,C,vs,f,B⟩:=vF I.hok v;cases f;obtain⟨b,rfl,rfl,rk,E,hi⟩:=m7 I l m t;have g:s.heap.DictOfH (ju X.prog X.w) _ []:=vE B;refine wpAny_notIn_heap (kC p) hi C g ?_;exact⟨.bl M,H,I.tok _,O,hc.now (.bl _) i⟩
   ·exact back a
  ·exact back a
 ·exact back a
theorem IL(m i:Nat):RE m i-i<=9:=by unfold RE;split<;>lia
theorem BU(m i:Nat):i<=RE m i:=by unfold RE;split<;>lia
theorem LS{m i:Nat}(h:i<=m):RE m i<=m:=by unfold RE;split<;>lia
theorem yv(m i b:Nat):(RF m i b).1<=m:=by
 unfold RF;have:=cB (i*5+1+b/32) (bN m);dsimp only;lia
theorem uR(m:Nat):∀n i b:Nat,(gD m n i b).length<=10*n
 |0,_,_=>by simp[gD]
 |n+1,i,b=>by
  rw[gD,lA1,List.length_range'];have:=uR m n (RF m i b).1 (RF m i b).2;have:=IL m i;lia
theorem yc(m:Nat):∀n i b:Nat,i<=m -> ∀x∈gD m n i b,x<=m
 |0,_,_,_,x,h=>by simp[gD]at h
 |n+1,i,b,hi,x,h=>by
  rw[gD,aG]at h;rcases h with h|h
  ·rw[List.mem_range'_1]at h;have:=LS hi;have:=BU m i
   lia
  ·exact yc m n _ _ (yv m i b) x h
noncomputable def Fg(m:Nat):Nat->Nat->Nat->Nat×Nat
 |0,i,b=>(i,b)
 |n+1,i,b=>Fg m n (RF m i b).1 (RF m i b).2
theorem C0(m:Nat):∀n i b:Nat,(Fg m n i b).2=b/32^n
 |0,i,b=>by simp[Fg]
 |n+1,i,b=>by
  rw[Fg,C0 m n];show b/32/32^n=_;rw[Nat.div_div_eq_div_mul,Nat.pow_succ,Nat.mul_comm]
theorem C1(m:Nat):∀n i b:Nat,i<=m->(Fg m n i b).1<=m
 |0,i,b,h=>h
 |n+1,i,b,h=>by rw[Fg];exact C1 m n _ _ (yv m i b)
theorem rp(m:Nat):∀n k i b x:Nat,x∈gD m k (Fg m n i b).1 (Fg m n i b).2->x∈gD m (n+k) i b
 |0,k,i,b,x,h=>by rw[bO];exact h
 |n+1,k,i,b,x,h=>by
  rw[Fg]at h;rw[show n+1+k=(n+k)+1 by lia,gD];exact mA1 _ (rp m n k _ _ x h)
noncomputable def xW(m:Nat):Nat->Nat->Nat
 |0,i=>i
 |n+1,i=>xW m n ((i*5+1)%(m+1))
noncomputable def BS(m:Nat):Nat->Nat->List Nat
 |0,_=>[]
 |k+1,i=>i::BS m k ((i*5+1)%(m+1))
theorem yB{m j:Nat}:∀{k i:Nat},j∈BS m k i -> ∃n,n<k/\xW m n i=j
 |0,i,h=>by simp[BS]at h
 |k+1,i,h=>by
  rw[BS,aF]at h;rcases h with h|h
  ·exact⟨0,bN k,h.symm⟩
  ·obtain⟨n,a,e⟩:=yB h;exact⟨n+1,Nat.succ_lt_succ a,e⟩
theorem tR(m:Nat):∀a b i:Nat,xW m (a+b) i=xW m b (xW m a i)
 |0,b,i=>by rw[bO];rfl
 |a+1,b,i=>by rw[show a+1+b=(a+b)+1 by lia,xW,xW,tR m a b]
theorem tQ(m:Nat):∀n k i:Nat,n<k->xW m n i∈gD m k i 0
 |0,k+1,i,_=>by rw[xW,gD];exact aH _ (List.mem_range'_1.mpr ⟨nR1 _,by lia⟩)
 |n+1,k+1,i,h=>by
  rw[xW,gD];refine mA1 _ ?_;have e:RF m i 0=((i*5+1)%(m+1),0):=rfl;rw[e];exact tQ m n k _ (Nat.lt_of_succ_lt_succ h)
def LR(m:Nat):Bool:=((af (m+1)).all λj=>(BS m (m+1) 0).contains j)&&xW m (m+1) 0 == 0
theorem zI.orb{m:Nat}(h:zI m):LR m=M:=by
 rcases h with rfl|rfl|rfl
 ·decide+kernel
 ·decide+kernel
 ·decide+kernel
theorem zI.full{m:Nat}(h:zI m){i j:Nat}(hi:i<=m)(d:j<=m):j∈gD m (m+2) i 0:=by
 have f:=h.orb;unfold LR at f;rw[bA1,bB,SV]at f;have at_:∀x,x<=m -> ∃n,n<m+1/\xW m n 0=x:=λx g=>yB (by simpa using f.1 x (aC.mpr (Nat.lt_succ_of_le g)));obtain⟨a,l,c⟩:=at_ i hi;obtain⟨b,k,eb⟩:=at_ j d;rcases bW b a with z|z
 ·have e:xW m (b+(m+1)-a) i=j:=by
   rw[<- c,<- tR,show a+(b+(m+1)-a)=(m+1)+b by lia,tR,f.2,eb]
  rw[<- e];exact tQ m _ _ i (by lia)
 ·have e:xW m (b-a) i=j:=by rw[<- c,<- tR,show a+(b-a)=b by lia,eb]
  rw[<- e];exact tQ m _ _ i (by lia)
theorem Hf(h:Int):RH h<2^64:=by
 unfold RH;have h1:=SZ h (show(2^64:Int)≠0 by decide);have h2:=S0 h (show(0:Int)<2^64 by decide);have:((h%(2^64:Int)).toNat:Int)<2^64:=by rw[Int.toNat_of_nonneg h1];exact h2
 exact_mod_cast this
theorem xG{m:Nat}(hm:zI m)(h:Int){j:Nat}(a:j<=m):j∈nU m h:=by
 unfold nU RG;rw[show m+15=13+(m+2) by lia];apply rp;rw[C0,Nat.div_eq_of_lt (bh (Hf h) (by decide))];have hi:=C1 m 13 (RH h%(m+1)) (RH h) (by have:=cB (RH h) (bN m);lia);exact hm.full hi a
theorem xF(m:Nat)(h:Int):(nU m h).length<=10*RG m:=uR _ _ _ _
theorem A9{m:Nat}(h:Int):∀x∈nU m h,x<=m:=yc _ _ _ _ (by have:=cB (RH h) (bN m);lia)
noncomputable def N0(m:Nat)(p:SJ):SJ:=SetTable.advance {SetTable.fresh 0 0 M with mask:=m} p
def jU(m:Nat):SJ->List Nat->Prop
 |_,[]=>True
 |p,x::L=>p.j=x/\p.dummy=Y/\jU m (N0 m p) L
theorem oM(m i b:Nat)(L:List Nat)(h:jU m {j:=(RF m i b).1,more:=RE m (RF m i b).1-(RF m i b).1,i:=(RF m i b).1,perturb:=(RF m i b).2,dummy:=none} L):
  ∀more j:Nat,jU m {j,more,i,perturb:=b,dummy:=Y} (bn j (more+1)++L)
 |0,j=>by
  refine⟨O,O,?_⟩;exact h
 |more+1,j=>by
  rw[cJ];refine⟨O,O,?_⟩;exact oM m i b L h more (j+1)
theorem oK(m:Nat):∀n i b:Nat,jU m {j:=i,more:=RE m i-i,i,perturb:=b,dummy:=Y} (gD m n i b)
 |0,_,_=>trivial
 |n+1,i,b=>by
  rw[gD];exact oM m i b _ (oK m n _ _) _ _
theorem zw(t:RI)(h:Int):jU t.mask (t.probeStart h) (nU t.mask h):=oK _ _ _ _
theorem pY{xs:Array Nat}(hr:sA xs){j:Nat}(d:j∈xs.toList):xs[SH xs j]?=Z j:=by
 have b:=mG hr j;obtain⟨k,a⟩:=bq d;rw[aT1]at a;have f:¬ k<SH xs j:=λz=>by have:=b.lo _ _ a z;lia
 have c:SH xs j<xs.size:=by have:=(Array.getElem?_eq_some_iff.mp a).1;lia
 have e:=aG1 c;have h1:=b.hi _ _ e (nR1 _);rcases bW (SH xs j) k with z|z
 ·have:=hr.lt z e a;lia
 ·have:k=SH xs j:=by lia
  rw[<- this];exact a
theorem sJ{t:RI}(hr:sA t.place){j:Nat}(a:j∈t.place.toList):t.slot j = .live (SH t.place j):=by
 unfold SetTable.slot;dsimp only;rw[pY hr a];simp
theorem BD{t:RI}(hd:t.dummies = #[]){j:Nat}(a:j∉t.place.toList):t.slot j = .empty:=by
 unfold SetTable.slot;have:(t.place[SH t.place j]? == Z j)=J:=by
  rw[S6];intro z;rw[<- aT1]at z;exact a (gM1 z)
 dsimp only;rw[this,md hd];simp
theorem yG{t:RI}{f:Nat->Int}{h:Int}(hr:sA t.place)(hd:t.dummies = #[]):∀ (L:List Nat) (p:SJ) (n:Nat),jU t.mask p L->L.length<=n->(∃ x∈L,x∉t.place.toList) ->
  ∃b x a,L=b++x::a/\(∀y∈b,y∈t.place.toList/\f (SH t.place y)≠h) /\
   ((x∉t.place.toList/\SK t f h n p=Z (.empty x Y))\/(∃q,x∈t.place.toList/\f (SH t.place x)=h/\SK t f h n p=Z (.candidate x (SH t.place x) q)/\jU t.mask q a))
 |[],p,n,_,_,g=>by obtain⟨x,g,_⟩:=g;cases g
 |x::L,p,0,_,hl,_=>by simp at hl
 |x :: L,p,n+1,j,hl,g=>by
  obtain⟨rfl,r,j⟩:=j;rw[SK];by_cases c:p.j∈t.place.toList
  ·rw[sJ hr c];dsimp only;by_cases i:f (SH t.place p.j)=h
   ·refine⟨[],p.j,L,O,(λy d=>by cases d),.inr ⟨t.advance p,c,i,?_,j⟩⟩;rw[i];simp
   ·have m:(f (SH t.place p.j) == h)=false:=S6.mpr i;rw [m];obtain ⟨y,d,l⟩:=g;have k:∃ x∈L,x∉t.place.toList:=by
     rcases aF.mp d with e|e
     ·subst e;exact absurd c l
     ·exact⟨y,e,l⟩
    obtain⟨b,x,a,e,h1,h2⟩:=yG hr hd L (t.advance p) n j (by simpa using hl) k;refine⟨p.j::b,x,a,by rw[e];rfl,λz o=>?_,?_⟩
    ·rcases aF.mp o with e|e
     ·subst e;exact⟨c,i⟩
     ·exact h1 z e
    ·simpa using h2
  ·rw[BD hd c];refine⟨[],p.j,L,O,(λy d=>by cases d),.inl ⟨c,?_⟩⟩;rw[r]
theorem yu{α:Type}[DecidableEq α]:∀(l l':List α),l.Nodup->(∀x∈l,x∈l')->l.length<=l'.length
 |[],_,_,_=>bi _
 |x::l,l',hn,hs=>by
  obtain⟨h1,h2⟩:=aO.mp hn;have c:x∈l':=hs x (mS1);have:=yu l (l'.erase x) h2 λy b=>by
   have a:y≠x:=λz=>by subst z;exact h1 b
   exact(List.mem_erase_of_ne a).mpr (hs y (mC1 _ b))
  rw[List.length_erase_of_mem c]at this;have:=List.length_pos_of_mem c;rw[lC1];lia
theorem Fi{m:Nat}(occ:List Nat)(b:occ.length<=m):∃j,j<=m/\j∉occ:=by
 apply Sh;intro z;have:=yu (af (m+1)) occ cK λx a=>Sh λq=>z ⟨x,by have:=aC.mp a;lia,q⟩;rw[cM]at this;lia
theorem zG.more{m:Nat}{occ a:List Nat}{h:Int}{j:Nat}(r:zG m occ h j)(k:∀x∈occ,x∈a):zG m a h j:=by
 obtain⟨c,b,e,f⟩:=r;exact⟨c,b,e,λy d=>k y (f y d)⟩
theorem sTT.fits{es:Array (Int×dz)}{t:RI}(h:sTT es t):t.fits es.size=M:=by
 unfold SetTable.fits SetTable.fill;rw[h.du,h.sz];have:=h.fl;simp;exact this
theorem EH{α β:Type}(a:Array α)(b:Array β)(p:Nat)(x:α)(y:β)(c:a.size=b.size):(SI a p x).toList.zip (SI b p y).toList=(a.toList.zip b.toList).take p++(x,y)::(a.toList.zip b.toList).drop p:=by
 rw[j3,j3,List.zip_append (by rw[aR,aR];simp[c]),bV];rw[show List.take p (a.toList.zip b.toList)=(a.toList.take p).zip (b.toList.take p) by simp only[List.zip_eq_zipWith,List.take_zipWith]];rw[show List.drop p (a.toList.zip b.toList)=(a.toList.drop p).zip (b.toList.drop p) by simp only[List.zip_eq_zipWith,List.drop_zipWith]]
theorem ou{α:Type}(a:Array α)(p:Nat)(x y:α):y∈(SI a p x).toList↔y=x\/y∈a.toList:=by
 rw[j3,aG,aF];have:=cC p a.toList;constructor
 ·rintro(h|h|h)
  ·exact .inr (cN h)
  ·exact .inl h
  ·exact .inr (List.mem_of_mem_drop h)
 ·rintro(h|h)
  ·exact .inr (.inl h)
  ·rw[<- this,aG]at h;rcases h with h|h
   ·exact .inl h
   ·exact .inr (.inr h)
theorem iC{α:Type}(a:Array α)(p:Nat)(x:α):(SI a p x).size=a.size+1:=by
 rw[<- aK,j3,lA1,lC1,<- bm,<- lA1,cC,aK]
theorem sTT.put{es:Array (Int×dz)}{t:RI}(h:sTT es t){j:Nat}{e:Int×dz}(g:j<=t.mask)(hn:j∉t.place.toList)(hr:zG t.mask t.place.toList e.1 j)(hs:es.size+1<=t.mask):sTT (SI es (t.put j).2 e) (t.put j).1:=by
 have f:(t.put j).1.mask=t.mask:=rfl;have d:(t.put j).1.place=SI t.place (SH t.place j) j:=rfl;refine⟨h.mks,?_,?_,?_,?_,?_,?_⟩
 ·rw[d];exact xZ h.up λz=>hn (by rw[<- aT1]at z;exact gM1 z)
 ·show(if SetTable.has t.dummies j=M then _ else t.dummies) = #[];rw[md h.du,aj (by decide)];exact h.du
 ·rw[d,iC,iC,h.sz]
 ·intro x b;rw[d,ou]at b;rcases b with rfl|b
  ·exact g
  ·exact h.le x b
 ·rw[iC,f];exact hs
 ·rw[d,f];show∀z∈(SI t.place (SH t.place j) j).toList.zip (SI es (SH t.place j) e).toList,_;rw[EH _ _ _ _ _ h.sz];have a:∀x∈t.place.toList,x∈(SI t.place (SH t.place j) j).toList:=λx b=>(ou _ _ _ _).mpr (.inr b);intro z c;rw[aG,aF]at c;rcases c with c|rfl|c
  ·exact(h.rc z (cN c)).more a
  ·exact hr.more a
  ·exact(h.rc z (List.mem_of_mem_drop c)).more a
theorem sTT.fresh(l:Bool):sTT #[] (SetTable.fresh 0 0 l):=⟨.inl O,.nil,O,O,(λj h=>by simp[SetTable.fresh]at h),bi _,λz h=>by simp[SetTable.fresh]at h⟩
theorem yM(m:Nat)(a:Array (Option Nat)):∀n i b:Nat,SetTable.layClean.free m a n i b=(gD m n i b).find? λj=>(a.getD j (Z 0)).isNone
 |0,i,b=>by rw[SetTable.layClean.free,gD];rfl
 |n+1,i,b=>by
  rw[SetTable.layClean.free,gD,List.find?_append,List.range'_eq_map_range,List.find?_map];rw[show RE m i+1-i=RE m i-i+1 by have:=BU m i;lia];show(match List.find? (λk=>(a.getD (i+k) (Z 0)).isNone) (af (RE m i-i+1))with
   |some k=>Z (i+k)
   |none=>_)=(Option.map (λk=>i+k) (List.find? (λk=>(a.getD (i+k) (Z 0)).isNone) (af (RE m i-i+1)))).or _
  cases List.find? (λk=>(a.getD (i+k) (Z 0)).isNone) (af (RE m i-i+1))with
  |some k=>rfl
  |none=>exact yM m a n _ _
structure sLO (m:Nat)(hs:List Int)(ow:Array (Option Nat)):Prop where
 sz:ow.size=m+1
 ct:ow.toList.countP (·.isSome)=hs.length
 all:∀q:Nat,q<hs.length -> ∃j:Nat,ow[j]?=some (some q)
 rc:∀j q:Nat,ow[j]?=some (some q) -> ∃h,hs[q]?=some h /\ ∃pre post,nU m h=pre++j::post /\ ∀y∈pre,∃q':Nat,ow[y]?=some (some q')
theorem rZ(k:Nat):∀(l:List (Option Nat)) (j:Nat),l[j]?=Z Y->(l.set j (Z k)).countP (·.isSome)=l.countP (·.isSome)+1
 |[],j,h=>by simp at h
 |x::l,0,h=>by
  have:x=Y:=by simpa using h
  subst this;simp
 |x::l,j+1,h=>by
  rw[cO,List.countP_cons,List.countP_cons,rZ k l j (by simpa using h)];lia
theorem Go{m:Nat}{hs:List Int}{b:Array (Option Nat)}(hm:zI m)(h:sLO m hs b)(I:hs.length<=m)(x:Int):
  ∃j,SetTable.layClean.free m b (RG m) (RH x%(m+1)) (RH x)=Z j/\sLO m (hs++[x]) (b.setIfInBounds j (Z hs.length)):=by
 rw[yM];show∃j,(nU m x).find? _=Z j/\_;have E:∃j:Nat,b[j]?=Z Y:=by
  apply Sh;intro z;have:b.toList.countP (·.isSome)=b.toList.length:=List.countP_eq_length.mpr λa C=>by
   obtain⟨j,A⟩:=bq C;cases a with
   |some q=>rfl
   |none=>exact absurd ⟨j,by rw[<- aT1];exact A⟩ z
  rw[h.ct,show b.toList.length=b.size from rfl,h.sz]at this;lia
 obtain⟨t,B⟩:=E;have p:t<=m:=by have:=(Array.getElem?_eq_some_iff.mp B).1;rw[h.sz]at this;lia
 cases hf:(nU m x).find? λj=>(b.getD j (Z 0)).isNone with
 |none=>
  exfalso;have:=List.find?_eq_none.mp hf t (xG hm x p);rw[cP,B]at this;simp at this
 |some j=>
  obtain⟨o,s,n,e,D⟩:=List.find?_eq_some_iff_append.mp hf;have le:=A9 (m:=m) x;have A:j<=m:=le j (by rw[e];simp);have f:j<b.size:=by rw[h.sz];lia
  have at_:∀y,y<=m->(b.getD y (Z 0)).isNone=J -> ∃q,b[y]?=Z (Z q):=λy g i=>by
   have k:y<b.size:=by rw[h.sz];lia
   rw[cP,aG1 k]at i;rw[aG1 k];cases hc:b[y]with
   |none=>rw[hc]at i;cases i
   |some q=>exact⟨q,O⟩
  have w:b[j]?=Z Y:=by
   rw[cP,aG1 f]at o;rw[aG1 f];cases hc:b[j]with
   |none=>rfl
   |some q=>rw[hc]at o;cases o
  have keep:∀y q,b[y]?=Z (Z q)->(b.setIfInBounds j (Z hs.length))[y]?=Z (Z q):=λy q c=>by
   have:j≠y:=λz=>by subst z;rw[w]at c;cases c
   rw[Array.getElem?_setIfInBounds_ne this];exact c
  have new:(b.setIfInBounds j (Z hs.length))[j]?=Z (Z hs.length):=by
   rw[Array.getElem?_setIfInBounds_self_of_lt f]
  refine⟨j,O,?_,?_,?_,?_⟩
  ·rw[Array.size_setIfInBounds];exact h.sz
  ·rw[Array.toList_setIfInBounds,rZ _ _ _ (by rw[aT1];exact w),h.ct];simp
  ·intro q i;rw[lA1,aY]at i;rcases bW q hs.length with z|z
   ·obtain⟨y,c⟩:=h.all q z;exact⟨y,keep y q c⟩
   ·have:q=hs.length:=by lia
    subst this;exact⟨j,new⟩
  ·intro y q c;by_cases g:j=y
   ·subst g;rw[new]at c;cases c;refine⟨x,by simp,s,n,e,λy g=>?_⟩;obtain⟨q,eq⟩:=at_ y (le y (by rw[e];simp[g])) (by have:=D y g;simpa using this);exact⟨q,keep y q eq⟩
   ·rw[Array.getElem?_setIfInBounds_ne g]at c;obtain⟨h',v,l,d,H,F⟩:=h.rc y q c;refine⟨h',?_,l,d,H,λz G=>?_⟩
    ·rw[gL1 (Tg v).1];exact v
    ·obtain⟨u,r⟩:=F z G;exact⟨u,keep z u r⟩
noncomputable def xX(m:Nat)(acc:Option (Array (Option Nat)×Nat))(h:Int):Option (Array (Option Nat)×Nat):=do
 let (owner,k)<-acc
 let j<-SetTable.layClean.free m owner (RG m) (RH h%(m+1)) (RH h)
 pure (owner.setIfInBounds j (Z k),k+1)
theorem yr{m:Nat}(hm:zI m):∀(rest hs:List Int) (b:Array (Option Nat)),sLO m hs b->hs.length+rest.length<=m+1 -> ∃a,rest.foldl (xX m) (Z (b,hs.length))=Z (a,hs.length+rest.length)/\sLO m (hs++rest) a
 |[],hs,b,h,_=>⟨b,O,by rw[aN];exact h⟩
 |x::rest,hs,b,h,hl=>by
  rw[lC1]at hl;obtain⟨j,e,h'⟩:=Go hm h (by lia) x;obtain⟨a,d,c⟩:=yr hm rest (hs++[x]) _ h' (by rw[lA1,aY];lia);refine⟨a,?_,by rw[bG]at c;exact c⟩;rw[b8];have:xX m (Z (b,hs.length)) x=Z (b.setIfInBounds j (Z hs.length),(hs++[x]).length):=by
   show(SetTable.layClean.free m b (RG m) (RH x%(m+1)) (RH x) >>= λj=>_)=_;rw[e,lA1,aY];rfl
  rw[this,d,lA1,aY,lC1]
  congr 2;lia
theorem Kk{m:Nat}(hm:zI m)(hs:Array Int)(d:hs.size<=m+1):∃ow,SetTable.layClean m hs=Z ow/\sLO m hs.toList ow:=by
 have b:sLO m [] (Array.replicate (m+1) Y):=by
  refine⟨Array.size_replicate,?_,(λq h=>absurd h (bw _)),λj q h=>?_⟩
  ·rw[Array.toList_replicate,bf,List.countP_eq_zero];intro a c;rw[(bD.mp c).2];simp
  ·exfalso;rw[Array.getElem?_replicate]at h;split at h<;>simp at h
 obtain⟨ow,e,h⟩:=yr hm hs.toList [] _ b (by simpa using d);refine⟨ow,?_,by simpa using h⟩;unfold SetTable.layClean;rw[<- Array.foldl_toList];show Option.map _ (List.foldl (xX m) (Z (Array.replicate (m+1) Y,0)) hs.toList)=_;have e:List.foldl (xX m) (Z (Array.replicate (m+1) Y,0)) hs.toList=_:=e;rw[e];rfl
theorem vt{α β:Type}(f:α->Option β)(g:α->β):∀l:List α,(∀a∈l,f a=Z (g a))->l.filterMap f=l.map g
 |[],_=>rfl
 |a::l,h=>by
  rw[aE,h a mS1];dsimp only;rw[mP1,vt f g l λb c=>h b (mC1 _ c)]
theorem xz{α β γ:Type}(f:α->β)(g:α->γ):∀l:List α,(l.map f).zip (l.map g)=l.map λa=>(f a,g a)
 |[]=>rfl
 |a::l=>by rw[mP1,mP1,bV,xz f g l];rfl
theorem lE{α β:Type}{f g:α->Option β}:∀l:List α,(∀a∈l,f a=g a)->l.filterMap f=l.filterMap g
 |[],_=>rfl
 |a::l,h=>by rw[aE,aE,h a mS1,lE l λb c=>h b (mC1 _ c)]
theorem ve:∀(l:List (Option Nat)) (s:Nat),((bn s l.length).filterMap λj=>(l.getD (j-s) Y).map (j,·)).length=l.countP (·.isSome)
 |[],s=>rfl
 |x::l,s=>by
  rw[lC1,cJ,aE,List.countP_cons];have ih:=ve l (s+1);have e:(List.filterMap (λj=>Option.map (λx=>(j,x)) ((x::l).getD (j-s) Y)) (bn (s+1) l.length))=List.filterMap (λj=>(l.getD (j-(s+1)) Y).map (j,·)) (bn (s+1) l.length):=by
   refine lE _ λj a=>?_;rw[List.mem_range'_1]at a;rw[show j-s=(j-(s+1))+1 by lia];rfl
  rw[e,cQ];cases x with
  |none=>simpa using ih
  |some q=>simpa using ih
theorem Gv{m fi mo:Nat}{l p:Bool}(hm:zI m){es:Array (Int×dz)}(F:es.size<=m):∃s b,SetTable.laid m fi mo l p (es.map (·.1))=Z (s,b)/\(b.filterMap (es[·]?)).size=es.size/\sTT (b.filterMap (es[·]?)) s/\(∀e,e∈(b.filterMap (es[·]?)).toList↔e∈es.toList)/\s.led=l/\s.mask=m:=by
 obtain⟨g,e,h⟩:=Kk hm (es.map (·.1)) (by rw[cf];lia);have c:(es.map (·.1)).toList.length=es.size:=by simp
 generalize u:(af (m+1)).filterMap (λj=>(g.getD j Y).map (j,·))=a;refine⟨{mask:=m,place:=(a.map (·.1)).toArray,dummies:= #[],finger:=fi,led:=l,moves:=mo,plain:=p},(a.map (·.2)).toArray,?_,?_⟩
 ·unfold SetTable.laid;rw[e,<- u];rfl
 have mem:∀j q,(j,q)∈a↔g[j]?=Z (Z q):=λj q=>by
  rw[<- u,aM];constructor
  ·rintro⟨ao,k,e⟩;obtain⟨C,eq,e⟩:=Ti e;cases e;rw[aC]at k;have n:j<g.size:=by rw[h.sz];exact k
   rw[cP,aG1 n]at eq;rw[aG1 n];have:g[j]=Z q:=by simpa using eq
   rw[this]
  ·intro e;have n:=(Array.getElem?_eq_some_iff.mp e).1;refine⟨j,aC.mpr (by rw[h.sz]at n;exact n),?_⟩;rw[cP,e];rfl
 have lt:∀z∈a,z.2<es.size:=λz d=>by
  obtain⟨h',r,_⟩:=h.rc z.1 z.2 ((mem _ _).mp d);have:=(Tg r).1;rw[c]at this;exact this
 have A:a.length=es.size:=by
  have:=ve g.toList 0;rw[show g.toList.length=g.size from rfl,h.sz,h.ct,c]at this;rw[<- this,<- u,List.range_eq_range']
  congr 1
  refine lE _ λj _=>?_;simp[cP]
 have i:((a.map (·.2)).toArray.filterMap (es[·]?)).toList=a.map λz=>(es[z.2]?).getD (0,.none):=by
  rw[Array.toList_filterMap];rw[List.filterMap_map];exact vt _ _ _ λz d=>by
   show es[z.2]?=_;rw[aG1 (lt z d)];rfl
 have sz:((a.map (·.2)).toArray.filterMap (es[·]?)).size=es.size:=by rw[<- aK,i,lM1,A]
 refine⟨sz,⟨hm,?_,O,?_,?_,?_,?_⟩,λe=>?_,O,O⟩
 ·unfold sA;rw[<- u];exact List.pairwise_lt_range.sublist (by simpa using ox (λj=>g.getD j Y) (af (m+1)))
 ·rw[sz,sT1,lM1,A]
 ·intro j t;simp only[cc]at t;obtain⟨z,d,rfl⟩:=t;have:=(Array.getElem?_eq_some_iff.mp ((mem z.1 z.2).mp d)).1;rw[h.sz]at this;show _<=m;lia
 ·rw[sz];exact F
 ·rw [i];show ∀ z∈(a.map (·.1)).zip _,zG m (a.map (·.1)) _ _;rw [xz];intro z d;obtain ⟨y,B,rfl⟩:=cc.mp d;obtain ⟨h',r,w,o,H,G⟩:=h.rc y.1 y.2 ((mem _ _).mp B);have:((es[y.2]?).getD (0,.none)).1=h':=by
   have f:=lt y B;rw[Array.toList_map,gP1,aT1,aG1 f]at r;rw[aG1 f];simpa using r
  rw[this];exact⟨w,o,H,λx D=>by obtain⟨C,E⟩:=G x D;exact cc.mpr ⟨(x,C),(mem _ _).mpr E,O⟩⟩
 ·rw[i,cc];constructor
  ·rintro⟨z,d,rfl⟩;rw[aG1 (lt z d)];simp
  ·intro I;obtain⟨q,v⟩:=bq I;rw[aT1]at v;have f:=(Array.getElem?_eq_some_iff.mp v).1;obtain⟨j,t⟩:=h.all q (by rw[c];exact f);exact⟨(j,q),(mem _ _).mpr t,by rw[v];rfl⟩
theorem KH{prog:dD}{w:dF}:∀(n:Nat) {k:TK} {A:dE} {E:dz->dA->Prop} {s:dA} {v:dz} {Q:Bool->dA->Prop},k.dep<=n->fq s.heap k v->Q M s->dJ (Qm prog w) A (hashByValue n v) Q E s:=by
 intro n
 induction n with
 |zero=>
  intro k A E s v Q e r h;cases r with
  |non=>exact wP1 h
  |int i t=>exact wP1 h
  |tup _ _ _ _=>simp[TK.dep]at e
 |succ n ih=>
  intro k A E s v Q e r h;cases r with
  |non=>exact wP1 h
  |int i t=>exact wP1 h
  | @tup a o b m xs f p j x=>
   have l:s.TypeIs (.ref a) "tuple":=⟨o,f,p⟩;rw[TK.dep]at e;unfold hashByValue;refine wB1 (Sf l F.slot_tuple_hash.lookup ?_);show dJ _ _ (seqItems? (.ref a) >>= _) _ _ s;refine wB1 (RT f j ?_);refine wB1 ?_;show dJ _ _ (forIn b _ _) _ _ s;rw[<- bZ];refine Sc _ (λrest r s'=>r.1=Y/\s'=s /\ ∃ks,fA s.heap ks rest/\TK.depAll ks<=n) _ ?_ ?_ _ _ ⟨O,O,xs,x,by lia⟩
   ·rintro v rest r s' ⟨d,rfl,ks,u,g⟩;cases u with
    | @cons q _ c _ z y=>
     rw[TK.depAll]at g;refine wB1 (ih (k:=q) (by lia) z ?_);simp only[b5,bF1,Rc];exact wP1 ⟨O,O,c,y,by lia⟩
   ·rintro⟨B,r2⟩ s' ⟨d,rfl,_⟩;simp only at d;subst d;exact wP1 h
theorem DP{prog:dD}{w:dF}:∀(n:Nat) {k:TK} {A:dE} {E:dz->dA->Prop} {s:dA} {v:dz} {Q:Bool->dA->Prop},k.dep<=n->fq s.heap k v->Q J s->dJ (Qm prog w) A (ofAClassStatement n v) Q E s:=by
 intro n
 induction n with
 |zero=>
  intro k A E s v Q e r h;cases r with
  |non=>exact wP1 h
  |int i t=>exact wP1 h
  |tup _ _ _ _=>simp[TK.dep]at e
 |succ n ih=>
  intro k A E s v Q e r h;cases r with
  |non=>exact wP1 h
  |int i t=>exact wP1 h
  | @tup a o b m xs f p j x=>
   have l:s.TypeIs (.ref a) "tuple":=⟨o,f,p⟩;rw[TK.dep]at e;unfold ofAClassStatement;refine wB1 (Rm l ?_);show dJ _ _ (pure M >>= _) _ _ s;refine wB1 (wP1 ?_);simp only[b5,bF1,Rc];refine wB1 (RT f j ?_);refine wB1 ?_;show dJ _ _ (forIn b _ _) _ _ s;rw[<- bZ];refine Sc _ (λrest r s'=>r.1=Y/\s'=s /\ ∃ks,fA s.heap ks rest/\TK.depAll ks<=n) _ ?_ ?_ _ _ ⟨O,O,xs,x,by lia⟩
   ·rintro v rest r s' ⟨d,rfl,ks,u,g⟩;cases u with
    | @cons q _ c _ z y=>
     rw[TK.depAll]at g;refine wB1 (ih (k:=q) (by lia) z ?_);simp only[bF1,Rc];exact wP1 ⟨O,O,c,y,by lia⟩
   ·rintro⟨B,r2⟩ s' ⟨d,rfl,_⟩;simp only at d;subst d;exact wP1 h
def Fh(h:dM)(k:TK)(e:Int×dz):Prop:=∃a,e=(k.hash,.ref a)/\fq h k (.ref a)/\k.dep<=8
section
variable{prog:dD}{w:dF}{A:dE}{E:dz->dA->Prop}{s:dA}
theorem Fe{k:TK}{x:dB}{Q:Bool->dA->Prop}(hk:fq s.heap k (.ref x))(hd:k.dep<=8)(l:List dz)(he:∀v∈l,∃b a,v = .ref a/\fq s.heap b (.ref a)/\b.dep<=8)(h:Q J s):dJ (Qm prog w) A (searchCouldBeSeen (.ref x) l) Q E s:=by
 unfold searchCouldBeSeen;refine wB1 ?_;refine Sc _ (λrest r s'=>r.1=Y/\s'=s /\ ∀v∈rest,∃b a,v = .ref a/\fq s.heap b (.ref a)/\b.dep<=8) _ ?_ ?_ _ _ ⟨O,O,he⟩
 ·rintro v rest r s' ⟨c,rfl,e⟩;obtain⟨b,a,rfl,h1,h2⟩:=e v mS1;have tl:∀v∈rest,∃b a,v=Qb a/\fq s'.heap b (.ref a)/\b.dep<=8:=λv h=>e v (mC1 _ h);dsimp only;by_cases d:(x == a)=M
  ·rw[d];exact wP1 ⟨O,O,tl⟩
  ·rw[cR]at d;rw[d];show dJ _ _ (eqIsQuiet 8 (.ref x) >>= _) _ _ _;refine wB1 (oZ 8 hd hk ?_);refine wB1 (oZ 8 h2 h1 ?_);refine wB1 (DP 8 hd hk ?_);refine wB1 (DP 8 h2 h1 ?_);exact wP1 ⟨O,O,tl⟩
 ·rintro⟨f,r2⟩ s' ⟨c,rfl,_⟩;simp only at c;subst c;exact wP1 h
theorem rS{α:Type}{occ:List α}{a c:α}(hc:c∉occ)(ha:a∈occ):∀{b d B D:List α},(∀y∈d,y∈occ)->d++a::B=b++c::D->a∈b
 |[],[],B,D,_,e=>by
  simp at e;obtain⟨rfl,_⟩:=e;exact absurd ha hc
 |[],z::d,B,D,h,e=>by
  simp at e;obtain⟨rfl,_⟩:=e;exact absurd (h z mS1) hc
 |z::b,[],B,D,_,e=>by
  simp at e;obtain⟨rfl,_⟩:=e;exact mS1
 |z::b,z'::d,B,D,h,e=>by
  simp at e;exact mC1 _ (rS hc ha (λy f=>h y (mC1 _ f)) e.2)
theorem D1{xs:Array Nat}(hr:sA xs){i j:Nat}(h:xs[i]?=Z j):SH xs j=i:=by
 have e:=pY hr (gM1 (by rw[aT1];exact h));rcases cj (SH xs j) i with z|z|z
 ·have:=hr.lt z e h;lia
 ·exact z
 ·have:=hr.lt z h e;lia
theorem Jx{m:Nat}(h:zI m):(m%2 == 0)=J:=by rcases h with rfl|rfl|rfl<;>rfl
theorem NZ(N:Bool){a:dB}{es:Array (Int×dz)}{ep:Nat}{t:RI}{k:TK}{x:dB}(hu:A.units+8<QX)(ho:s.heap.get? a=some (stO es ep t))(ht:sTT es t)(he:∀ e∈es.toList,∃ k',Fh s.heap k' e)(hk:fq s.heap k (.ref x))(hd:k.dep<=8){Q:SetFound->dA->Prop}(q1:(∃e∈es.toList,Fh s.heap k e) -> ∀i,Q (.there (if N=true then none else some i)) s)(q2:∀j u m,nU t.mask k.hash=u++j::m->(∀y∈u,y∈t.place.toList)->j∉t.place.toList->(∀e∈es.toList,¬ Fh s.heap k e)->Q (.free j false) s):
  ∀(n:Nat) (L c:List Nat) (b:Option SJ),nU t.mask k.hash=c++L->jU t.mask (b.getD (t.probeStart k.hash)) L->L.length<n->(∀y∈c,y∈t.place.toList /\ ∀e,es[SH t.place y]?=Z e -> ¬ Fh s.heap k e)->dJ (Qm prog w) A (setSearchFrom a (.ref x) k.hash N n b) Q E s:=by
 have hf:=ht.fits;have U:t.place.toList.length<=t.mask:=by rw[aK,ht.sz];exact ht.fl
 intro n
 induction n with
 |zero=>intro L _ _ _ _ h;exact absurd h (bw _)
 |succ n ih=>
  intro L c b S hs hl X;have hx:∃y∈L,y∉t.place.toList:=by
   obtain⟨j,hj,P⟩:=Fi t.place.toList U;have:=xG ht.mks k.hash hj;rw[S,aG]at this;rcases this with z|z
   ·exact absurd (X j z).1 P
   ·exact⟨j,z,P⟩
  have hL:L.length<=10*RG t.mask:=by
   have:=xF t.mask k.hash;rw[S,lA1]at this;lia
  obtain⟨u,y,m,e,h1,h2⟩:=yG (f:=λi=>(es[i]?.map (·.1)).getD 0) (h:=k.hash) ht.up ht.du L _ _ hs hL hx;unfold setSearchFrom;refine wB1 (SL ho O hf ?_);dsimp only;rw[show t.gaveWay=J from Jx ht.mks];simp only[bF1,Rc];rcases h2 with⟨P,hg⟩|⟨q,V,hh,hg,hq⟩
  ·generalize I:SetTable.probe t _ k.hash (b.getD (t.probeStart k.hash))=met;have I:=I.symm.trans hg;subst I;refine wP1 (q2 y (c++u) m (by rw[S,e,bG]) (λz R=>?_) P λe' he' g=>?_)
   ·rcases aG.mp R with r|r
    ·exact(X z r).1
    ·exact(h1 z r).1
   ·obtain⟨i,hi⟩:=bq he';have ao:es[i]?=Z e':=by rw[<- aT1];exact hi
    have C:=(Array.getElem?_eq_some_iff.mp ao).1;have hpi:i<t.place.size:=by rw[ht.sz];exact C
    have aq:=aG1 hpi;have R:(t.place[i],e')∈t.place.toList.zip es.toList:=by
     refine gM1 (i:=i) ?_;rw[cS];exact⟨by rw[aT1];exact aq,hi⟩
    obtain⟨av,T,_⟩:=id g;obtain⟨pre1,post1,H,f1⟩:=ht.rc _ R;dsimp only at H;rw[show e'.1=k.hash from by rw[T],S,e,<- bG]at H;have hm:=rS (occ:=t.place.toList) P (gM1 (by rw[aT1];exact aq)) f1 H.symm;have wq:=D1 ht.up aq;rcases aG.mp hm with r|r
    ·exact(X _ r).2 e' (by rw[wq];exact ao) g
    ·refine(h1 _ r).2 ?_;rw[wq,ao,T];rfl
  ·generalize I:SetTable.probe t _ k.hash (b.getD (t.probeStart k.hash))=met;have I:=I.symm.trans hg;subst I;have wq:=pY ht.up V;have C:SH t.place y<es.size:=by rw[<- ht.sz];exact(Array.getElem?_eq_some_iff.mp wq).1
   have d:=aG1 C;generalize es[SH t.place y]=e0 at d;have K:e0∈es.toList:=gM1 (by rw [aT1];exact d);obtain ⟨k',av,rfl,g,G⟩:=he e0 K;dsimp only;have B:dJ (Qm prog w) A (do
     let equal<-Qy [Qb av] (eqBool (Qb av) (.ref x))
     let (es',_,t')<-setState a
     if(N&&equal)=M then return SetFound.there Y
     let Z same:=t'.sameMemory t.moves t.mask|unsupported "set.changed-during-lookup:is-the-new-block-at-the-old-address"
     let still<-match (if same=M then t'.slot y else .empty)with
      | .live au=>match es'[au]? with
       |some (_,y')=>do pure (if(<- isSame y' (.ref av))=M then Z au else Y)
       |none=>pure Y
      |_=>pure Y
     match still with
     |none=>do rule "set.search.anew";setSearchFrom a (.ref x) k.hash N n Y
     |some au=>if equal=M then return .there (Z au)else setSearchFrom a (.ref x) k.hash N n (Z q)) Q E s:=by
    refine wB1 (QA (HS 8 G hu g hk _ _ _ _ ?_));refine wB1 (SL ho O hf ?_);dsimp only;by_cases F:k'=k
    ·subst F;rw[ah O];cases N with
     |true=>exact wP1 (q1 ⟨_,K,av,O,g,G⟩ 0)
     |false=>
      simp only[Bool.false_and,bF1,Rc];rw[show t.sameMemory t.moves t.mask=Z M from by unfold SetTable.sameMemory;simp];dsimp only;rw[ak O,sJ ht.up V];dsimp only;rw[d];dsimp only;refine wB1 ?_;refine RP (a:=M) (by unfold isSame;simp) ?_;rw[ak O];refine wB1 (wP1 ?_);exact wP1 (q1 ⟨_,K,av,O,g,G⟩ _)
    ·rw[ai F];simp only[Bool.and_false,bF1,Rc];rw[show t.sameMemory t.moves t.mask=Z M from by unfold SetTable.sameMemory;simp];dsimp only;rw[ak O,sJ ht.up V];dsimp only;rw[d];dsimp only;refine wB1 ?_;refine RP (a:=M) (by unfold isSame;simp) ?_;rw[ak O];refine wB1 (wP1 ?_);dsimp only;refine ih m (c++u++[y]) (Z q) ?_ hq ?_ λz R=>?_
     ·rw[S,e];simp
     ·rw[e]at hl;simp at hl;lia
     ·rcases aG.mp R with r|r
      ·rcases aG.mp r with W|W
       ·exact X z W
       ·refine⟨(h1 z W).1,λH l D=>(h1 z W).2 ?_⟩;obtain⟨a1,rfl,_⟩:=D;rw[l];rfl
      ·have:z=y:=by simpa using r
       subst this;refine⟨V,λH l D=>F ?_⟩;rw[d]at l;obtain⟨a1,p,hi1,_⟩:=D;cases l;injection p with _ p;injection p with p;subst p;exact g.inj hi1
   by_cases o:t.led=M
   ·rw[o];simp only[b5,bF1,Rc];rw[d];exact B
   ·rw[cR]at o;rw[o];simp only[cI,Rf];refine wB1 (Fe hk hd _ (λv hv=>?_) ?_)
    ·obtain⟨H,l,rfl⟩:=cc.mp hv;rw[Array.toList_filter]at l;obtain⟨k1,a1,rfl,g1,g2⟩:=he H ((aB.mp l).1);exact⟨k1,a1,O,g1,g2⟩
    ·simp only[bF1,Rc];rw[d];exact B
end
theorem fq.keepsS{h h':dM}{p:dB}{es:Array (Int×dz)}{ep:Nat}{t:RI}(ho:h.get? p=some (stO es ep t))(hs:∀ a o,a≠p->h.get? a=some o->h'.get? a=some o):∀ {k:TK} {v:dz},fq h k v->fq h' k v:=fun e=>e.rec (motive_1:=fun k v _=>fq h' k v) (motive_2:=fun k v _=>fA h' k v) .non .int
  (λ{a} _ _ _ _ c f d _ ih=>.tup (hs a _ (λz=>by subst z;rw[c]at ho;cases ho;cases d) c) f d ih) .nil (λ_ _ a b=>.cons a b)
theorem fq.grows{h h':dM}(hs:∀ a o,h.get? a=some o->h'.get? a=some o):∀ {k:TK} {v:dz},fq h k v->fq h' k v:=fun c=>c.rec (motive_1:=fun k v _=>fq h' k v) (motive_2:=fun k v _=>fA h' k v) .non .int
  (λ{a} _ _ _ _ d e f _ ih=>.tup (hs a _ d) e f ih) .nil (λ_ _ a b=>.cons a b)
noncomputable def kW(ks:List TK)(k:TK):List TK:=if k∈ks then ks else ks++[k]
def ddK(ks:List TK):List TK:=ks.foldl kW []
theorem DH(ks:List TK)(k:TK):(kW ks k).length<=ks.length+1:=by unfold kW;split<;>simp
theorem nk:∀(ns acc:List TK),(ns.foldl kW acc).length<=acc.length+ns.length
 |[],acc=>by simp
 |n::ns,acc=>by
  rw[b8];have h1:=nk ns (kW acc n);have h2:=DH acc n;rw[lC1];lia
theorem Fh.keep{h h':dM}{p:dB}{es:Array (Int×dz)}{ep:Nat}{t:RI}(ho:h.get? p=Z (stO es ep t))(hs:∀a o,a≠p->h.get? a=Z o->h'.get? a=Z o){k:TK}{e:Int×dz}(x:Fh h k e):Fh h' k e:=by
 obtain⟨a,b,c,d⟩:=x;exact⟨a,b,c.keepsS ho hs,d⟩
theorem tY{es:Array (Int×dz)}{t:RI}(h:sTT es t):t.tooFull=decide (es.size*5>=t.mask*3):=by
 unfold SetTable.tooFull SetTable.fill;rw[h.du,h.sz];rfl
def xt(h:dM)(xs:List (TK×dB×dz)):Prop:=∀z∈xs,fq h z.1 (.ref z.2.1)/\z.1.dep<=8
theorem xt.el{h:dM}{xs:List (TK×dB×dz)}{es:Array (Int×dz)}(c:xt h xs)(a:∀e∈es.toList,∃z∈xs,e=(z.1.hash,.ref z.2.1)):∀e∈es.toList,∃d,Fh h d e:=λe f=>by
 obtain⟨z,b,rfl⟩:=a e f;exact⟨z.1,z.2.1,O,(c z b).1,(c z b).2⟩
theorem xt.found{h:dM}{xs:List (TK×dB×dz)}{es:Array (Int×dz)}{k:TK}(g:xt h xs)(f:∀e∈es.toList,∃z∈xs,e=(z.1.hash,.ref z.2.1))(d:∀z∈xs,(z.1.hash,Qb z.2.1)∈es.toList):(∃e∈es.toList,Fh h k e)↔k∈xs.map (·.1):=by
 constructor
 ·rintro⟨e,j,a,l,i,_⟩;obtain⟨z,b,c⟩:=f e j;rw[l]at c;injection c with _ c;injection c with c;refine cc.mpr ⟨z,b,?_⟩;have:=(g z b).1;rw[<- c]at this;exact this.inj i
 ·intro i;obtain⟨z,b,rfl⟩:=cc.mp i;exact⟨_,d z b,z.2.1,O,(g z b).1,(g z b).2⟩
section
variable{P:dD}{w:dF}{A:dE}{E:dz->dA->Prop}{s:dA}{p:dB}{xs:List (TK×dB×dz)}
theorem Be{m:Nat}(h:zI m):RG m<=142:=by unfold RG;rcases h with z|z|z<;>rw[z]<;>decide
noncomputable def mL(xs:List (TK×dB×dz))(k:TK)(x:dB):List (TK×dB×dz):=if k∈xs.map (·.1)then xs else xs++[(k,x,.none)]
theorem OA{k:TK}{x:dB}{Q:Bool->dA->Prop}(hu:A.units+8<QX)(hS:v8 p xs s.heap)(au:xt s.heap xs)(hb:xs.length<76)(hk:fq s.heap k (.ref x))(hd:k.dep<=8)(q:∀c h',Ql p s.heap h'->v8 p (mL xs k x) h'->Q c {s with heap:=h'}):dJ (Qm P w) A (setAddHashed p (.ref x) k.hash) Q E s:=by
 obtain⟨nd,es,ep,t,H,B,L,g,v,X⟩:=id hS;have hf:=B.fits;unfold setAddHashed setAddHashedIn;refine QA (wB1 (SL H O hf ?_));dsimp only;rw[show byScan (Qb x) es=J from rfl];simp only[bF1,Rc];unfold setSearch;refine wB1 (NZ M hu H B (au.el g) hk hd ?q1 ?q2 100000 (nU t.mask k.hash) [] Y O (zw t k.hash) ?ln (λy hy=>by cases hy))
 case q1=>
  intro h _;have R:=(au.found g v).mp h;have D:mL xs k x=xs:=by unfold mL;rw[ak R]
  rw[D]at q;exact wP1 (q _ s.heap (Heap.SameBut.refl p s.heap) hS)
 case q2=>
  intro j pre K ew hp hj wq;dsimp only;have hn:k∉xs.map (·.1):=λz=>by obtain⟨e,o,h⟩:=(au.found g v).mpr z;exact wq e o h
  have D:mL xs k x=xs++[(k,x,.none)]:=by unfold mL;rw[aj hn]
  rw[D]at q;refine wB1 (SL H O hf ?_);dsimp only;have W:j<=t.mask:=A9 k.hash j (by rw[ew];simp);rw[tY B]at L;have L:¬ es.size*5>=t.mask*3:=by simpa using L
  have F:es.size+1<=t.mask:=by rcases B.mks with z|z|z<;>rw[z]at L ⊢ <;> lia
  have G:sTT (SI es (t.put j).2 (k.hash,.ref x)) (t.put j).1:=B.put W hj ⟨pre,K,ew,hp⟩ F;have V:(SI es (t.put j).2 (k.hash,Qb x)).size=(xs++[(k,x,P9)]).length:=by rw[iC,X,lA1];rfl
  have r:(SI es (t.put j).2 (k.hash,Qb x)).size<=dI:=by rw[V,lA1,QT];simp;lia
  have sb:=RU s.heap p (Obj.putSet (SI es (t.put j).2 (k.hash,.ref x)) (t.put j).1);have N:=sU (fs:=SI es (t.put j).2 (k.hash,.ref x)) (u:=(t.put j).1) H;have ao:((xs++[(k,x,P9)]).map (·.1)).Nodup:=by
   rw[cr,bx];exact⟨nd,by simp,λa ha b hb e=>by simp at hb;subst hb;subst e;exact hn ha⟩
  have e1:∀e∈(SI es (t.put j).2 (k.hash,Qb x)).toList,∃z∈xs++[(k,x,P9)],e=(z.1.hash,.ref z.2.1):=λe o=>by
   rw[ou]at o;rcases o with rfl|o
   ·exact⟨_,mA1 _ mS1,O⟩
   ·obtain⟨z,h1,h2⟩:=g e o;exact⟨z,aH _ h1,h2⟩
  have a1:∀z∈xs++[(k,x,P9)],(z.1.hash,Qb z.2.1)∈(SI es (t.put j).2 (k.hash,Qb x)).toList:=λz U=>by
   rw[ou];rcases aG.mp U with T|T
   ·exact .inr (v z T)
   ·rw[cH.mp T];exact .inl O
  have tail:dJ (Qm P w) A (do
    storeSet p (SI es (t.put j).2 (k.hash,.ref x)) (t.put j).1
    if (!false&&(t.put j).1.tooFull)=true then do
      setRelay p (SM (es.size+1))
      pure M
     else pure M) Q E s:=by
   refine wB1 (SN H O ?_ r);by_cases f:(t.put j).1.tooFull=M
   ·rw [f];simp only [cI,bM,Rf];refine wB1 ?_;unfold setRelay;refine wB1 (SL (s:={s with heap:=s.heap.update p _}) N rfl G.fits ?_);dsimp only;have aq:=f;rw [tY G,iC] at aq;have aq:(es.size+1)*5>=t.mask*3:=RJ aq;have e4:∃ m,zI m/\SetTable.sizeAbove (SM (es.size+1))=m+1/\es.size+1<=m/\(es.size+1)*5<m*3:=by
     rcases B.mks with z|z|z<;>rw[z]at L aq
     ·have:es.size=4:=by lia
      rw[this];exact⟨31,.inr (.inl O),O,by decide,by decide⟩
     ·have:es.size=18:=by lia
      rw[this];exact⟨127,.inr (.inr O),O,by decide,by decide⟩
     ·lia
    obtain⟨m,hm,em,S,hm2⟩:=e4;rw[aj (by rw[em,QT];rcases hm with z|z|z<;>rw[z]<;>decide)];obtain⟨t2,d,er,i,I,n,_,av⟩:=Gv (m:=m) (fi:=(t.put j).1.finger) (mo:=(t.put j).1.movedTo m) (l:=(t.put j).1.led) (p:=(t.put j).1.plain) hm (es:=SI es (t.put j).2 (k.hash,.ref x)) (by rw[iC];exact S);refine wB1 ?_;rw[show(t.put j).1.relaid ((SI es (t.put j).2 (k.hash,Qb x)).map (·.1)) (SM (es.size+1))=Z (t2,d)from by unfold SetTable.relaid;rw[em,Nat.add_sub_cancel];exact er];have z2:(d.filterMap ((SI es (t.put j).2 (k.hash,Qb x))[·]?)).size=(xs++[(k,x,P9)]).length:=i.trans V;show dJ _ _ (if((d.filterMap ((SI es (t.put j).2 (k.hash,Qb x))[·]?)).size != (SI es (t.put j).2 (k.hash,Qb x)).size)=M then _ else _) _ _ _;rw[i];simp only[bne_self_eq_false,bF1,Rc];refine wP1 ?_;dsimp only;refine SN N O ?_ (by rw[i];exact r);refine wP1 (q _ _ (sb.trans (RU _ p _)) ⟨ao,_,_,_,sU N,I,?_,λe o=>e1 e ((n e).mp o),λz U=>(n _).mpr (a1 z U),z2⟩);rw[tY I,av,i,iC];exact ai (by lia)
   ·rw[cR]at f;rw[f];simp only[Bool.and_false,bF1,Rc];exact wP1 (q _ _ sb ⟨ao,_,_,_,N,G,f,e1,a1,V⟩)
  by_cases C:(t.put j).1.plain=M
  ·rw[C];simp only[Rf];refine wB1 (KH 8 hd hk ?_);exact tail
  ·rw[cR]at C;rw[C];simp only[bF1,Rc];refine wB1 (wP1 ?_);exact tail
 case ln=>
  have:=xF t.mask k.hash;have:=Be B.mks;lia
end
def v7(p:dB)(n:Nat)(h:dM):Prop:=∃es ep t,h.get? p=Z (stO es ep t)/\t.fits es.size=M/\es.size=n/\n<=76
theorem fA.mem{h:dM}:∀{ks:List TK} {vs:List dz},fA h ks vs -> ∀(i:Nat) (v:dz),vs[i]?=Z v -> ∃k,ks[i]?=Z k/\fq h k v
 |_,_,.nil,i,v,e=>by simp at e
 |_,_,.cons r t,0,v,e=>by simp at e;subst e;exact⟨_,O,r⟩
 |_,_,.cons r t,i+1,v,e=>fA.mem t i v (by simpa using e)
def wp(k:TK):Bool:=match k with
 | .tup _=>decide (k.dep<=8)
 |_=>J
theorem Bh{h:dM}{k:TK}{v:dz}(hk:wp k=M)(h1:fq h k v):k.dep<=8 /\ ∃a,v = .ref a:=by
 cases h1 with
 |non=>cases hk
 |int=>cases hk
 | @tup a=>exact⟨by simpa[wp]using hk,a,O⟩
section
variable{P:dD}{w:dF}{A:dE}{E:dz->dA->Prop}
theorem zE{p l it:dB}{its:Array dz}{ns:List TK}{R:QY->dA->Prop}(hh:A.handled=none)(hu:A.units+20<QX)(hT:∀ k∈ns,wp k=true)(hb:ns.length<=76)(n1:p≠l)(aq:p≠it)(n3:it≠l):
  ∀(k i:Nat) (s:dA) (xs:List (TK×dB×dz)),its.size-i=k->i<=its.size->s.heap.IsListIter it l i->s.heap.IsList l its->fA s.heap ns its.toList->v8 p xs s.heap->xt s.heap xs->xs.map (·.1)=(ns.take i).foldl kW [] ->
  (∀h' tk,(∀c o,c≠p->c≠it->s.heap.get? c=Z o->h'.get? c=Z o)->v7 p (ddK ns).length h'->R (.ok (.ret .none)) {s with heap:=h',toks:=tk})->dL (Qm P w) A (.builtin "set.update.loop" ⟨[.ref p,.ref it],[]⟩) R s:=by
 intro k
 induction k with
 |zero=>
  intro i s xs hk hi st N ao S hX u q;have e:i=its.size:=by lia
  subst e;refine wD1 SS (?_:_);rw[Se SU _];show dJ _ A.in1 (QH (.ref it) >>= _) _ _ s;refine wB1 (QM (by simpa using hh) st N (by simp) λh' eb=>wP1 ?_);refine q h' s.toks (λc o _ hc e=>eb c o hc e) ?_;have D:its.size=ns.length:=by rw[<- aK];exact ao.split.symm
  obtain⟨_,es,ep,t,G,tt,_,_,_,y⟩:=S;rw[D,bY]at u;have U:xs.length=(ddK ns).length:=by have:=congrArg List.length u;rw[lM1]at this;exact this
  refine⟨es,ep,t,eb p _ aq G,tt.fits,y.trans U,?_⟩;have:=nk ns [];unfold ddK;simp at this;lia
 |succ k ih=>
  intro i s xs hk hi st N ao S hX u q;have I:i<its.size:=by lia
  have hx:=aG1 I;obtain⟨C,ek,n⟩:=ao.mem i _ (by rw[aT1];exact hx);have X:C∈ns:=gM1 ek;obtain⟨hd,T,ex⟩:=Bh (hT C X) n;refine wD1 SS (?_:_);rw[Se SU _];show dJ _ A.in1 (QH (.ref it) >>= _) _ _ s;refine wB1 (QL st N hx λh' st' Q=>?_);rw[ex]at n ⊢;have d:∀{k:TK} {v:dz},fq s.heap k v->fq h' k v:=λav=>by
   refine av.rec (motive_1:=λk v _=>fq h' k v) (motive_2:=λk v _=>fA h' k v) .non .int (λ{a} _ _ _ _ e1 c1 d1 _ ih=>.tup ((Q.2 a λz=>?_).trans e1) c1 d1 ih) .nil (λ_ _ a b=>.cons a b);subst z;obtain⟨o,e2,c2,_⟩:=st;rw[e1]at e2;cases e2;rw[c1]at c2;exact absurd c2 (by decide)
  show dJ _ A.in1 (Qy [Qb T] (setAdd p (.ref T)) >>= _) _ _ _;refine wB1 (QA ?_);unfold setAdd;have F:A.in1.units=A.units+1:=rfl;refine QA (wB1 (tV C (by rw[F];lia) (d n) ?_));obtain⟨es,ep,t,B⟩:∃es ep t,h'.get? p=some (stO es ep t):=by
   obtain⟨_,es,ep,t,G,_⟩:=S;exact⟨es,ep,t,by rw[Q.2 p aq];exact G⟩
  have wq:v8 p xs h':=by
   obtain⟨nd,es,ep,t,G,rr⟩:=S;exact⟨nd,es,ep,t,by rw[Q.2 p aq];exact G,rr⟩
  have m:xt h' xs:=λz y=>⟨d (hX z y).1,(hX z y).2⟩;have au:=nk (ns.take i) [];have hxl:xs.length=((ns.take i).foldl kW []).length:=by have:=congrArg List.length u;rw[lM1]at this;exact this
  refine OA (s:={s with heap:=h',toks:=s.toks+C.draws}) (by rw[F];lia) wq m (by
   have D:its.size=ns.length:=by rw[<- aK];exact ao.split.symm
   rw[hxl];rw[aR,bf]at au;lia) (d n) hd λc h2 j W=>?_
  have ef:kW ((ns.take i).foldl kW []) C=(ns.take (i+1)).foldl kW []:=by
   rw[cu,ek,cv];rfl
  have H:(mL xs C T).map (·.1)=(ns.take (i+1)).foldl kW []:=by
   rw[<- ef,<- u];unfold mL kW;by_cases K:C∈xs.map (·.1)
   ·rw[ak K,ak K]
   ·rw[aj K,aj K,cr];rfl
  have kk:∀c o,c≠p->c≠it->s.heap.get? c=Z o->h2.get? c=Z o:=λc o h1 V e=>by rw[j.2 c h1];show h'.get? c=_;rw[Q.2 c V];exact e
  have keepIt:∀o,h'.get? it=Z o->h2.get? it=Z o:=λo e=>by rw[j.2 it (Qk aq)];exact e
  have tks:∀{h E:dM} {a:List TK} {b:List dz},(∀{k v},fq h k v->fq E k v)->fA h a b->fA E a b:=λ{h E a b} f av=>by
   induction a generalizing b with
   |nil=>cases av;exact .nil
   |cons k a ih=>cases av with|cons r t=>exact .cons (f r) (ih t)
  refine wP1 ⟨Sd SU _,ih (i+1) {s with heap:=h2,toks:=s.toks+C.draws} (mL xs C T) (by lia) I (st'.at keepIt) ?_ ?_ W ?_ H λV tk k3 x3=>?_⟩
  ·obtain⟨o,e,r⟩:=N;exact⟨o,kk l o (Qk n1) (Qk n3) e,r⟩
  ·exact tks (λx=>(d x).keepsS B λa o g e=>by rw[j.2 a g];exact e) ao
  ·intro z y;unfold mL at y;split at y
   ·exact⟨(m z y).1.keepsS B λa o g e=>by rw[j.2 a g];exact e,(m z y).2⟩
   ·rcases aG.mp y with L|L
    ·exact⟨(m z L).1.keepsS B λa o g e=>by rw[j.2 a g];exact e,(m z L).2⟩
    ·rw[cH.mp L];exact⟨(d n).keepsS B λa o g e=>by rw[j.2 a g];exact e,hd⟩
  ·exact q V tk (λc o h1 h4 e=>k3 c o h1 h4 (kk c o h1 h4 e)) x3
theorem AF{s:dA}{l:dB}{its:Array dz}{ns:List TK}{Q:dz->dA->Prop}(n:A.handled=Y)(K:A.units+24<QX)(j:s.heap.IsList l its)(C:fA s.heap ns its.toList)(y:∀ k∈ns,wp k=M)(hb:ns.length<=76)(q:∀h' tk,(∀c o,s.heap.get? c=Z o->h'.get? c=Z o)->v7 s.heap.objs.size (ddK ns).length h'->Q (.ref s.heap.objs.size) {s with heap:=h',toks:=tk}):dJ (Qm P w) A (call (.type "set") [.ref l]) Q E s:=by
 have g:l<s.heap.objs.size:=by obtain⟨o,e,_⟩:=j;exact hL1 e
 refine pW j λao I u R D=>?_;have H:(s.heap.push (stO #[] 0 (.fresh 0 0 (!byT w)))).objs.size=s.heap.objs.size+1:=by rw[hZ1]
 have G:(s.heap.push (stO #[] 0 (.fresh 0 0 (!byT w)))).get? s.heap.objs.size=Z (stO #[] 0 (.fresh 0 0 (!byT w))):=hS1 _ O;have i:∀{h d:dM} {a:List TK} {b:List dz},(∀{k v},fq h k v->fq d k v)->fA h a b->fA d a b:=λ{h d a b} f m=>by
  induction a generalizing b with
  |nil=>cases m;exact .nil
  |cons k a ih=>cases m with|cons r t=>exact .cons (f r) (ih t)
 refine zE (its:=its) (ns:=ns) (I.trans n) (by lia) y hb (nG1 g) (nN1 (bC _)) (nG1 (cy g)) _ 0 _ [] rfl (bi _) ?_ ?_ ?_ ?_ (λz B=>by cases B) O λh' tk k x=>D _ (q h' tk (λc o e=>k c o (nN1 (hL1 e)) (nN1 (cy (hL1 e))) (hP1 _ (hP1 _ e))) x)
 ·refine⟨{cls:=.type "list_iterator",data:=.fields #[.ref l,.int 0 0]},?_,O,O⟩;have this:((s.heap.push (stO #[] 0 (.fresh 0 0 (!byT w)))).push {cls:=.type "list_iterator",data:=.fields #[.ref l,.int 0 0]}).get? (s.heap.push (stO #[] 0 (.fresh 0 0 (!byT w)))).objs.size=Z {cls:=.type "list_iterator",data:=.fields #[.ref l,.int 0 0]}:=hS1 _ O;rw[H]at this;exact this
 ·obtain⟨o,e,r⟩:=j;exact⟨o,hP1 _ (hP1 _ e),r⟩
 ·exact i (λx=>x.grows λa o e=>hP1 _ (hP1 _ e)) C
 ·exact⟨bp,#[],0,_,hP1 _ G,sTT.fresh _,O,(λe p=>by simp at p),(λk F=>by cases F),O⟩
end
def rG:List D->Option (List TK)
 |[]=>Z []
 |d::ds=>(keyT d).bind λk=>(rG ds).map (k :: ·)
theorem vg:∀{ds:List D} {ks:List TK},rG ds=Z ks->jM ks=ds/\(∀k∈ks,wp k=M)/\ks.length=ds.length
 |[],ks,h=>by cases h;exact⟨O,(λk j=>by cases j),O⟩
 |d::ds,ks,h=>by
  rw[rG]at h;obtain⟨k,c,h⟩:=Th h;obtain⟨g,f,h⟩:=Ti h;subst h;obtain⟨h1,h2,xs,m⟩:=mn c;obtain⟨l,e,i⟩:=vg f;refine⟨by rw[jM,h1,l],λb a=>?_,by simp[i]⟩;rcases aF.mp a with z|z
  ·subst z;subst m;simpa[wp]using h2
  ·exact e b z
def j6:G1:=λd S=>match ee S d with
 |some (M,xs)=>(rG xs).bind λks=>if ks.length<=76 then Z (.int (ddK ks).length,S)else Y
 |_=>Y
def LY(X:Cx)(vs:List V)(H:Hp)(Q:VK):Prop:=∃a xs ks mu,vs=[.ref a]/\nq X.K H a xs/\d8 X.K H mu (jM ks) xs/\(∀k∈ks,wp k=M)/\ks.length<=76 /\ ∀p,H p=Y->Q (.ref p) (upd H p (.ext (v7 p (ddK ks).length)))
def LZ(X:Cx)(vs:List V)(H:Hp)(Q:VK):Prop:=∃a n,vs=[.ref a]/\H a=Z (.ext (v7 a n))/\Q (.int n) H
theorem KZ(hc:X.calm=M)(w:X.A.units+64<QX):fc X (.type "set") (LY X):=by
 intro ag s σ H xs n Q I r h;obtain⟨a,vs,ks,mu,rfl,f,m,j,d,q⟩:=h;obtain⟨u,rfl,r2⟩:=iP r;cases r2;obtain⟨g,i,p,v⟩:=I.list f;have l:=wu I ks m i;refine AF (I.ok.hd hc) (by lia) p.isList (by simpa using l) j d λh' tk keep c=>?_;have b:=I.hok.fresh (nR1 s.heap.objs.size);refine⟨.ref s.heap.objs.size,_,I.laid (t':=tk) (o:=.ext (v7 s.heap.objs.size (ddK ks).length)) keep (nR1 _) ⟨c,?_,λh1 h2 ⟨es,ep,t,e,r⟩ k=>⟨es,ep,t,k _ e,r⟩⟩,O,q _ b⟩;obtain⟨es,ep,t,e,_⟩:=c;exact⟨_,e⟩
theorem K2:fc X (.builtin "len") (LZ X):=by
 intro ag s σ H xs g Q I r h;obtain⟨a,n,rfl,c,q⟩:=h;obtain⟨u,rfl,r2⟩:=iP r;cases r2;obtain⟨⟨es,ep,t,e,b,d,f⟩,_⟩:=(show e9 X.prog X.w H s.heap a (.ext (v7 a n))from I.hok a _ c);refine PySem.call_len_set e (by first|exact rfl|exact⟨rfl,rfl,rfl⟩|exact⟨rfl,rfl⟩) rfl b (by lia) ?_;refine⟨.int es.size,H,I.tok _,⟨_,O⟩,?_⟩;rw[d];exact q
theorem A3 (hc:X.calm=true)(j:X.A.units+64<QX){o:Expr}{m:FE}{p p2 pos b:Pos}(hg:Gl X "len")(hm:X.mg "len"=none)(hg2:Gl X "set")(hm2:X.mg "set"=none)(ho:XE X o m)
  (he:autoParam (dH [.Call (.Name "set" p2) [o] [] b] X.env=[(J,eval (.Call (.Name "set" p2) [o] [] b) X.env)]) cu0) (c:autoParam (dH [o] X.env=[(J,eval o X.env)]) cu0):XE X (.Call (.Name "len" p) [.Call (.Name "set" p2) [o] [] b] [] pos) (mN (b1 j6) (dR m dS)):=
 ⟨eX (l6 K2 hg hm (by decide+kernel) (iR (kE (KZ hc j) hg2 hm2 (by decide+kernel) (iR ho.h lC c) (he:=c)) lC he) (he:=he)) <| by
  rintro σ H Q ⟨r,mu,S,d,D,he,z,hm,e⟩;obtain⟨⟨ds,F⟩,f,hm⟩:=Th hm;obtain⟨⟨k,E⟩,w,f⟩:=Th f;cases f;dsimp only[b1,j6]at hm;split at hm
  ·rename_i xs C;obtain⟨ns,x,hm⟩:=Th hm;split at hm
   ·rename_i s;cases hm;refine⟨r,mu,S,k,_,he,z,w,λv H1 mu1 B l h=>?_⟩;obtain⟨a,vs,rfl,q,t⟩:=d5 l h C;obtain⟨i,y,_⟩:=vg x;refine⟨a,vs,ns,mu1,O,q,by rw[i];exact t,y,s,λp g=>?_⟩;refine⟨p,(ddK ns).length,O,eA,?_⟩;have n:Ext mu1 mu1 H1 (upd H1 p (.ext (v7 p (ddK ns).length))):=Ext.fresh g;have A:=h.fresh (u:=.ext (v7 p (ddK ns).length)) g;exact e _ _ mu1 (B.trans n) (.int _) A
   ·cases hm
  ·cases hm⟩
section
variable{pos:Pos}
theorem gn(i:Nat){x:Str}(hN:X.N.Nodup)(hi:autoParam (X.N[i]?=Z x) cu0)(hx:autoParam (v9 X.env.scope x) au0)(hf:autoParam (X.fn x=M\/X.env.scope.names.lookup x=Z .local) au0):XG X (.Name x pos) (gN i):=qO i hN hi hx hf
theorem ce{op:QR}{x y:Expr}{f:FN}{a b:FE}(ho:gU X (QQ op) (r2 X.K f))(hx:XE X x a)(hy:XE X y b)(hm:QS op y=J:=by exact Cv _):XE X (.Compare x [op] [y] pos) (m2 f a b):=EN ho hx hy hm
theorem ct{op:QR}{x y:Expr}{f:FN}{a b:FE}(ho:gU X (QQ op) (r2 X.K f))(hx:XE X x a)(hy:XE X y b)(hm:autoParam (QS op y=J) ce._auto_1):XT X (.Compare x [op] [y] pos) (mB (m2 f a b)):=qX ho hx hy hm
theorem kc{a:dQ}{i:Nat}{l:List Nat}(x:Str)(r:∀i∈l,∃x,X.N[i]?=Z x/\a.names.lookup x=Z .free/\(X.env.kindOf x=Z .cell\/X.env.kindOf x=Z .free)/\(x,RK)∉a.names)(h1:autoParam (X.N[i]?=Z x) cu0)(h2:autoParam (a.names.lookup x=Z .free) cu0)(b:autoParam (X.env.kindOf x=Z .cell\/X.env.kindOf x=Z .free) au0)(c:autoParam ((x,RK)∉a.names) eu0):∀j∈i::l,∃x,X.N[j]?=Z x/\a.names.lookup x=Z .free/\(X.env.kindOf x=Z .cell\/X.env.kindOf x=Z .free)/\(x,RK)∉a.names:=List.forall_mem_cons.mpr ⟨⟨x,h1,h2,b,c⟩,r⟩
end
structure et (K:Fg1)(x:Str)(st:dP)(f:dB):Prop where
 ns:wN1 K dG x=some (some (.ref f))
 fn:∃fd,AV K x x st f fd
theorem MM{K:Fg1}{x:Str}{st:dP}{f:dB}{h:dz}{i g:Option dB}{d:Array (Option dz)}{kV e j b ct:dz}(a:wN1 K dG x=Z (Z (.ref f)))(l:K.lookup f=Z ⟨h,i,.func (wF1 x x (iW st) (fJ st) (ej st) .none kV e j g b ct),d⟩)(c:wC1 K b x=M)(k:wK1 K (.ref f)=M):et K x st f:=⟨a,_,Dp l c k⟩
theorem xo{P:dD}{w:dF}{K:Fg1}{mg:Str->Option dz}{base h:dM}{x:Str}{st:dP}{f:dB}{N ps:List Str}{k n:Nat}{b:FS}(X:K.In h)(G:h.Ns dG mg)(F:et K x st f)(S:hH N ps (ej st))(hb:∀(kV g l:dz) (j:Option dB) (a ct:dz) (e:List dz),e.length=ps.length->bindArgs (wF1 x x (iW st) (fJ st) (ej st) .none kV g l j a ct) ⟨e,[]⟩=pure (ps.zip e))(c:∀(f:dB) (a:dz) (A:dE) (d:List Env) (s:dA) (H:Hp) (E:XK),ga k (A.deeper (Q3 x (ej st) s.heap.objs.size f a)) ->
   xl (og wa P w K mg base N x (ej st) f a A d s H E).nox (fJ st) b)(hn:autoParam (ps.length=n) cu0):fe P w K mg base (k+1) x n (hB N.length b):=by
 obtain⟨fd,i⟩:=F.fn;exact EJ i (i.binds hb) (wM1 X G F.ns) S hn (c f)
section
variable{ag:List (dB×Obj)}{σ:L2.St}{H:Hp}{s:dA}{mu:List dB}
end
section
variable{P:dD}{w:dF}{A:dE}{E:dz->dA->Prop}{s:dA}{a x:dB}{xs:List (TK×dB×dz)}{k:TK}
end
section
variable{o e:Expr}{es:List Expr}{to:TE}{t:TA}{name:Str}{apos cpos:Pos}{id:String}{r:V->List V->Hp->VK->Prop}
end
section
variable{x y z u:Expr}{pos:Pos}{f g k:FN}{a b c d:FE}{op op' op'':QR}{ta tb tc td:TE}
end
structure Blt (L:List Str)(mg:Str->Option dz):Prop where
 h:∀x∈L,mg x=none
theorem bz{L:List Str}{mg:Str->Option dz}{x:Str}(B:Blt L mg)(h:autoParam (x∈L) bu0):mg x=Y:=B.h x h
theorem sk{N P:List Str}{sc:dQ}(h1:autoParam (sc.kind = .function) cu0)(h2:autoParam (sc.isCoroutine=J) cu0)(d:autoParam (sc.isGenerator=J) cu0)(a:autoParam (N.Nodup) eu0)(e:autoParam (N.take P.length=P) cu0)(b:autoParam (∀x∈P,sc.names.lookup x=Z .local\/sc.names.lookup x=Z .cell) eu0)(c:autoParam (∀y∈sc.names,y.2 ≠ .free) eu0):hH N P sc:=⟨h1,h2,d,a,e,b,c⟩
def Nk(K:Fg1):List Str->Prop
 |[]=>True
 |x::l=>wN1 K dG x=Z Y/\Nk K l
theorem Nk.blt{K:Fg1}{mg:Str->Option dz}{h:dM}(X:K.In h)(G:h.Ns dG mg):∀{L:List Str},Nk K L->Blt L mg
 |[],_=>⟨λ_ m=>nomatch m⟩
 |_::_,z=>⟨λ_ m=>match m with
  | .head _=>PySem.W.mg_none_of X G z.1
  | .tail _ m=>(Nk.blt X G z.2).h _ m⟩
noncomputable def Ny:List Str->Bool
 |[]=>M
 |x::l=> !l.contains x&&Ny l
theorem gW:∀{l:List Str},Ny l=M->l.Nodup
 |[],_=>bp
 |x::l,h=>by
  obtain⟨a,b⟩:=(bA1 _ _).mp h;exact aO.mpr ⟨λm=>(by rw[cT.mpr m]at a;cases a),gW b⟩
section
variable{pos:Pos}{k:Nat}{x:Str}{i:Nat}{e y:Expr}{es:List Expr}{m b:FE}{a:FA}{p:Pos}
theorem xv (hN:autoParam (X.N[i]?=Z x) cu0)(hv:autoParam (Vis X.env.scope x) au0)(hd:autoParam ((x == ("__debug__":Str))=J) bu0)(hcd:autoParam ((x == ("__classdict__":Str))=J) bu0):XE X (.Name x pos) (mV i):=O9 i hN hv hd hcd
theorem gq(hN:autoParam (Ny X.N=M) cu0)(hi:autoParam (X.N[i]?=Z x) cu0)(hx:autoParam (v9 X.env.scope x) au0)(hf:autoParam (X.fn x=M\/X.env.scope.names.lookup x=Z .local) au0):XG X (.Name x pos) (gN i):=qO i (gW hN) hi hx hf
theorem sq(he:XE X e m)(hN:autoParam (Ny X.N=M) cu0)(hi:autoParam (X.N[i]?=Z x) cu0)(hx:autoParam (v9 X.env.scope x) au0)(hs:autoParam (Qu e (Z (.Name x p)) pos.line X.env=pure J) cu0)(hf:autoParam (X.fn x=M\/X.env.scope.names.lookup x=Z .local) au0):XS X (.Assign [.Name x p] e pos) (d4 m (gN i)):=qY i (gW hN) hi hx he hs hf
theorem jq(hx:XE X e m)(hy:XE X y b)(hr:autoParam (ga k X.A) fu0)(hs:autoParam (oD y) zm._auto_1):XE X (.Subscript e y pos) (m2 (b2 dW) m b):=qJ (qP hr.units) hx hy hs
theorem oq{av:Prop}(o:X.A.units+64<QX->av)(hr:autoParam (ga k X.A) fu0):av:=o hr.units
theorem wn {k' n:Nat}{f:FN}(h:fe X.prog X.w X.K X.mg X.base k x n f)(ha:XA X (e::es) a)(hr:autoParam (ga k' X.A) fu0)(hk:k<=k':=by first|decide|omega)(hg:autoParam (Gl X x) cu0)(hdb:autoParam ((x == ("__debug__":Str))=J) bu0)(he:autoParam (dH (e::es) X.env=(J,eval e X.env)::dH es X.env) cu0)(hpl:autoParam ((Qn pos (dH es X.env)).any (·.1)=J) cu0):XE X (.Call (.Name x p) (e::es) [] pos) (mN (dU n f) a):=qH h hr hk hg ha hdb he hpl
theorem cn {id:String}{f:FN}(hc:fc X (.builtin id) (rN X.K f))(ha:XA X (e::es) a)(hm:X.mg x=Y:=by exact bz (by assumption))(hg:autoParam (Gl X x) cu0)(hv:autoParam (Qg x=Z (.builtin id)) eu0)(hn:autoParam (x≠"__name__") bu0)(hdb:autoParam ((x == ("__debug__":Str))=J) bu0)(he:autoParam (dH (e::es) X.env=(J,eval e X.env)::dH es X.env) cu0)(hpl:autoParam ((Qn pos (dH es X.env)).any (·.1)=J) cu0):XE X (.Call (.Name x p) (e::es) [] pos) (mN f a):=qD hc hg hm hv ha hn hdb he hpl
theorem cz {T:String}{f:FN}(hc:fc X (.type T) (rN X.K f))(ha:XA X (e::es) a)(hm:autoParam (X.mg x=Y) cn._auto_1)(hg:autoParam (Gl X x) cu0)(hv:autoParam (Qg x=Z (.type T)) eu0)(hn:autoParam (x≠"__name__") bu0)(hdb:autoParam ((x == ("__debug__":Str))=J) bu0)(he:autoParam (dH (e::es) X.env=(J,eval e X.env)::dH es X.env) cu0)(hpl:autoParam ((Qn pos (dH es X.env)).any (·.1)=J) cu0):XE X (.Call (.Name x p) (e::es) [] pos) (mN f a):=qE hc hg hm hv ha hn hdb he hpl
theorem a1(h:XE X e m)(hs:autoParam (dH [e] X.env=(J,eval e X.env)::dH [] X.env) cu0):XA X [e] (dR m dS):=qA h qN hs
theorem a2(h:XE X e m)(g:XE X y b)(hs:autoParam (dH [e,y] X.env=(J,eval e X.env)::dH [y] X.env) cu0)(hs2:autoParam (dH [y] X.env=(J,eval y X.env)::dH [] X.env) cu0):XA X [e,y] (dR m (dR b dS)):=qA h (a1 g hs2) hs
theorem a3{z:Expr}{c:FE}(h:XE X e m)(g:XE X y b)(l:XE X z c)(hs:autoParam (dH [e,y,z] X.env=(J,eval e X.env)::dH [y,z] X.env) cu0)(hs2:autoParam (dH [y,z] X.env=(J,eval y X.env)::dH [z] X.env) cu0)(a:autoParam (dH [z] X.env=(J,eval z X.env)::dH [] X.env) cu0):XA X [e,y,z] (dR m (dR b (dR c dS))):=qA h (a2 g l hs2 a) hs
theorem ir (ha:XA X [e] a)(hm:autoParam (X.mg "range"=Y) cn._auto_1)(hg:autoParam (Gl X "range") cu0)(hs:autoParam (dH [e] X.env=[(J,eval e X.env)]) cu0):XI X y (.Call (.Name "range" p) [e] [] pos) (oa a):=wg hg hm ha hs
theorem ie {elts:List Expr}{b:Nat}{tpos:Pos}(ha:XA X [e] a)(hm:autoParam (X.mg "enumerate"=Y) cn._auto_1)(hg:autoParam (Gl X "enumerate") cu0)(hs:autoParam (dH [e] X.env=[(J,eval e X.env)]) cu0):XI X (.Tuple elts b tpos) (.Call (.Name "enumerate" p) [e] [] pos) (qx a):=A2 hg hm ha hs
theorem ii {T:Ty}{p2:Pos}(h:XE X e m)(hm:autoParam (X.mg "isinstance"=Y) cn._auto_1)(hm2:autoParam (X.mg x=Y) cn._auto_1)(hg:autoParam (Gl X "isinstance") cu0)(hg2:autoParam (Gl X x) cu0)(hv2:autoParam (Qg x=Z (.type T.nm)) eu0)(hn:autoParam (x≠"__name__") bu0)(hd:autoParam ((x == ("__debug__":Str))=J) bu0)(hs1:autoParam (dH [e,.Name x p2] X.env=(J,eval e X.env)::dH [.Name x p2] X.env) cu0)(hs2:autoParam (dH [.Name x p2] X.env=(J,eval (.Name x p2) X.env)::dH [] X.env) cu0)(hpl:autoParam ((Qn pos (dH [.Name x p2] X.env)).any (·.1)=J) cu0):XE X (.Call (.Name "isinstance" p) [e,.Name x p2] [] pos) (tI T m):=wh T hg hm hg2 hm2 hv2 h hn hd hs1 hs2 hpl
structure Lm (X:Cx)(name:Str)(id:String)(f:FN):Prop where
 s:Slot "list" name id
 t:typeOf (.builtin id)=pure (.type "method_descriptor")
 m:Et X id (λx xs H Q=>rN X.K f (x::xs) H Q)
theorem ap:Lm X "append" "list.append" (b2 iX):=⟨PySem.F.slot_list_append,PySem.F.type_list_append,LB⟩
theorem lq{f:FN}{name:Str}{apos:Pos}{id:String}(s:Lm X name id f)(ho:XE X y m)(ha:XA X (e::es) a)(hbase:autoParam (Rs y name X.env (eval y X.env)=eval y X.env) cu0)(hfew:autoParam (((Qn pos (dH (e::es) X.env)).all (λx=> !x.1)&&(Rt pos (Ru [] X.env)).all (λx=>x.1.isSome)&&decide ((e::es).length+([]:List Q1).length+(if([]:List Q1).isEmpty then 0 else 1)<30))=M) cu0)(hline:autoParam ((apos.endLine == pos.line)=M) cu0)(hs:autoParam (dH (e::es) X.env=(J,eval e X.env)::dH es X.env) cu0)(hplain:autoParam ((Qn pos (dH es X.env)).any (·.1)=J) cu0):XS X (.Expr (.Call (.Attribute y name apos) (e::es) [] pos) p) (fR (pr f m a)):=A1 (qe s.s s.t s.m ho ha hbase hfew hline hs hplain)
theorem fo{tg iter:Expr}{a:List dP}{m:FI}{g:FG}{b:FS}(hi:XI X tg iter m)(hg:XG X tg g)(hb:xl X a b)(hp:QF (Qm X.prog X.w) X.A X.env X.xe:=by exact S9)(hc:autoParam (X.calm=M) cu0)(hs:autoParam (∀x,QO iter X.env x=pure x) du0):XS X (.For tg iter a [] pos) (fO m g b):=qW hp hc hi hg hb hs
theorem tg2{d:Expr}{g h:FG}{a:Nat}(h1:XG X e g)(h2:XG X d h)(hc:autoParam (X.calm=M) cu0)(hs:autoParam ((Qw [e,d] X.env).map (·.2)=Qv e X.env::(Qw [d] X.env).map (·.2)) cu0)(hs2:autoParam ((Qw [d] X.env).map (·.2)=Qv d X.env::(Qw [] X.env).map (·.2)) cu0)(hn:autoParam ((Qw [e,d] X.env).length=2) cu0)(hst:autoParam ((Qw [e,d] X.env).findIdx? (·.1)=Y) cu0):XG X (.Tuple [e,d] a pos) (gT 2 (gCs g (gCs h gNl))):=kw hc (eJ h1 (eJ h2 i4 hs2) hs) hn hst
noncomputable def Nz(x:Str):List (Str×Q2)->Bool
 |[]=>M
 |(y,.cell)::l=> !(y == x)&&Nz x l
 |_::l=>Nz x l
omit k i in
theorem CB:∀{l:List (Str×Q2)},Nz x l=M->(x,RK)∉l
 |[],_,m=>nomatch m
 |(y,c)::l,h,m=>by
  rcases aF.mp m with e|a
  ·cases e;have h:=((bA1 _ _).mp h).1;rw[Sa]at h;cases h
  ·cases c with
   |cell=>exact CB ((bA1 _ _).mp h).2 a
   |_=>exact CB (l:=l) h a
theorem kz{a:dQ}{l:List Nat}(r:∀i∈l,∃x,X.N[i]?=Z x/\a.names.lookup x=Z .free/\(X.env.kindOf x=Z .cell\/X.env.kindOf x=Z .free)/\(x,RK)∉a.names)(h1:autoParam (X.N[i]?=Z x) cu0)(h2:autoParam (a.names.lookup x=Z .free) cu0)(b:autoParam (X.env.kindOf x=Z .cell\/X.env.kindOf x=Z .free) au0)(c:autoParam (Nz x a.names=M) cu0):∀j∈i::l,∃x,X.N[j]?=Z x/\a.names.lookup x=Z .free/\(X.env.kindOf x=Z .cell\/X.env.kindOf x=Z .free)/\(x,RK)∉a.names:=kc x r h1 h2 b (CB c)
def O1(X:Cx)(sc:dQ):List (Str×dB):=(j8 X.env.cells sc.names []).getD []
theorem fk{elt tg iter:Expr}{ifs:List Expr}{scope:dQ}(T:List Str){keep:List Nat}{m:FI}{g:FG}{t:FT}{e:FE}(hi:XI X tg iter m)(hb:∀ {s H fp},OD (cxC X scope (O1 X scope) T keep s H fp) X.K tg ifs elt g t e)(free:∀i∈keep,∃x,X.N[i]?=Z x/\scope.names.lookup x=Z .free/\(X.env.kindOf x=Z .cell\/X.env.kindOf x=Z .free)/\(x,RK)∉scope.names:=by repeat first|exact cU _|refine kz ?_)(hc:autoParam (X.calm=M) cu0)(b:autoParam (scope.kind = .function) cu0)(a:autoParam (∀x∈scope.names,x.2 = .local->scope.names.lookup x.1=Z .local) eu0)(c:autoParam (j8 X.env.cells scope.names []=Z (O1 X scope)) cu0)(hs:autoParam (∀x,QO iter X.env x=pure x) du0):XE X (.ListComp elt [⟨tg,iter,ifs,0⟩] scope pos) (eK T.length keep m g t (eB e)):=qZ hc ⟨b,a,free⟩ c hi (λ_ _ _=>hb) hs
end
theorem xq{P:dD}{w:dF}{K:Fg1}{mg:Str->Option dz}{base h:dM}{x:Str}{st:dP}{f:dB}{k n:Nat}{b:FS}(N:List Str)(X:K.In h)(G:h.Ns dG mg)(F:et K x st f)(c:∀{f:dB} {a:dz} {A:dE} {d:List Env} {s:dA} {H:Hp} {E:XK},ga k (A.deeper (Q3 x (ej st) s.heap.objs.size f a)) ->
   xl (og wa P w K mg base N x (ej st) f a A d s H E).nox (fJ st) b)(S:hH N (N.take n) (ej st):=by exact sk)(hb:∀(kV i m:dz) (j:Option dB) (a ct:dz) (g:List dz),g.length=(N.take n).length->bindArgs (wF1 x x (iW st) (fJ st) (ej st) .none kV i m j a ct) ⟨g,[]⟩=pure ((N.take n).zip g):=by
   intro _ _ _ _ _ _ g e;first|exact OX e λ_=>rfl|exact OW e λ_ _=>rfl|exact OV e λ_ _ _=>rfl|exact Pz e λ_ _ _ _=>rfl)(hn:autoParam ((N.take n).length=n) cu0):fe P w K mg base (k+1) x n (hB N.length b):=xo X G F S hb (λ_ _ _ _ _ _ _ l=>c l) hn
open AutoSeq1 (wpAny_loadPart')
mutual
noncomputable def pl:D->Bool
 | .non=>M
 | .bl _=>M
 | .int _=>M
 | .str _=>M
 | .tup xs=>OT xs
 |_=>J
noncomputable def OT:List D->Bool
 |[]=>M
 |x::xs=>pl x&&OT xs
end
section
variable{ag:List (dB×Obj)}{σ:L2.St}{H:Hp}{s:dA}{mu:List dB}{S:Sto}
end
section
variable{prog:dD}{w:dF}{A:dE}{E:dz->dA->Prop}{s:dA}
end
section
variable{ag:List (dB×Obj)}{σ:L2.St}{H:Hp}{s:dA}{mu:List dB}{S:Sto}
end
section
variable{prog:dD}{w:dF}{A:dE}{E:dz->dA->Prop}{s:dA}
end
abbrev rk(ws:List dz)(p:So):Nat:=rkV ws p.1
section
variable{prog:dD}{w:dF}{A:dE}{E:dz->dA->Prop}{s:dA}{κ:Sq}{ws:List dz}{a₀:Array So}
end
structure Sm (st st':Sr):Prop where
 k:kindOf st'=kindOf st
 a:Ss st'=Ss st
 p:Sv st'=Sv st
 f:Su st'=Su st
theorem Sm.rfl{st:Sr}:Sm st st:=⟨_root_.rfl,_root_.rfl,_root_.rfl,_root_.rfl⟩
theorem Sm.g{st st':Sr}(h:Sm st st')(g:Nat):Sm st (SortSt.mk' (kindOf st') (Ss st') (Sv st') g (Su st')):=⟨h.k,h.a,h.p,h.f⟩
def EE(ws:List dz)(xs:List So):Prop:=xs.Pairwise λp q=>rk ws p<rk ws q
def AT(ws:List dz)(xs ys:List So):Prop:=∀x∈xs,∀y∈ys,rk ws x<rk ws y
section
variable{ws:List dz}{a b out xs ys zs:List So}{i j k:Nat}
theorem EE.app(h1:EE ws xs)(h2:EE ws ys)(h:AT ws xs ys):EE ws (xs++ys):=List.pairwise_append.mpr ⟨h1,h2,h⟩
theorem AT.app(h1:AT ws xs zs)(h2:AT ws ys zs):AT ws (xs++ys) zs:=λx b y a=>(aG.mp b).elim (λh=>h1 x h y a) λh=>h2 x h y a
def PX(ws:List dz)(a b r:List So):Prop:=r.Perm (a++b)/\EE ws r
end
section
variable{prog:dD}{w:dF}{A:dE}{E:dz->dA->Prop}{s:dA}{κ:Sq}{ws:List dz}{a₀:Array So}
end
section
variable{ws:List dz}{a b out xs ys zs:List So}{i j k t:Nat}
theorem AT.to(h1:AT ws xs ys)(h2:AT ws xs zs):AT ws xs (ys++zs):=λx a y b=>(aG.mp b).elim (λh=>h1 x a y h) λh=>h2 x a y h
structure K0 (ws:List dz)(a b out:List So)(i j:Nat):Prop where
 la:i<=a.length
 lb:j<=b.length
 len:out.length+(i+j)=a.length+b.length
 pm:(a.take i++b.take j++out.reverse).Perm (a++b)
 so:EE ws out.reverse
 ba:AT ws (a.take i) out
 bb:AT ws (b.take j) out
theorem K0.fs(h:K0 ws a b out i j)(e:EE ws a)(f:EE ws b)(hb:AT ws (b.take j) (a.take i)):PX ws a b (b.take j++a.take i++out.reverse):=by
 refine⟨(List.perm_append_comm.append_right _).trans h.pm,?_⟩;exact(EE.app (f.sublist (aU _ _)) (e.sublist (aU _ _)) hb).app h.so (AT.app (λx d y c=>h.bb x d y (List.mem_reverse.mp c)) λx d y c=>h.ba x d y (List.mem_reverse.mp c))
end
section
variable{prog:dD}{w:dF}{A:dE}{E:dz->dA->Prop}{s:dA}{κ:Sq}{ws:List dz}{a₀:Array So}
end
def Cb:Nat->List (List So)->List (Nat×Nat×Nat)->Prop
 |_,[],[]=>True
 |s,r::rs,(t,n,_)::p=>t=s/\n=r.length/\Cb (s+r.length) rs p
 |_,_,_=>False
structure SR (ws:List dz)(κ:Sq)(a₀:Array So)(rs:List (List So))(rest:List So)(st:Sr):Prop where
 k:kindOf st=κ
 f:Su st=none
 pm:(Ss st).Perm a₀
 ar:(Ss st).toList=rs.flatten++rest
 so:∀r∈rs,EE ws r/\r≠[]
 pe:Cb 0 rs (Sv st).toList
section
variable{prog:dD}{w:dF}{A:dE}{E:dz->dA->Prop}{s:dA}{κ:Sq}{ws:List dz}{a₀:Array So}
end
section
variable{prog:dD}{w:dF}{A:dE}{E:dz->dA->Prop}{s:dA}{κ:Sq}{ws:List dz}{a₀:Array So}{lo:Nat}{st0:Sr}
end
section
variable{prog:dD}{w:dF}{A:dE}{E:dz->dA->Prop}{s:dA}{κ:Sq}{ws:List dz}{a₀:Array So}{rs:List (List So)}{rest:List So}{st st':Sr}
theorem SR.size(h:SR ws κ a₀ rs rest st):rs.flatten.length+rest.length=a₀.size:=by
 have:=congrArg List.length h.ar;rw[aK,h.pm.size_eq,lA1]at this;exact this.symm
end
section
variable{prog:dD}{w:dF}{A:dE}{E:dz->dA->Prop}{s:dA}
end
section
variable{P:dD}{w:dF}{A:dE}{E:dz->dA->Prop}{s:dA}
variable{K:Type} [DecidableEq K] {knd:HeapKind P w K}
end
section
variable{ag:List (dB×Obj)}{σ:L2.St}{H:Hp}{s:dA}{mu:List dB}
end
section
variable{K:Fg1}{H:Hp}{mu nu:List dB}{a:dB}{h:Nat}
end
section
variable{ag:List (dB×Obj)}{σ:L2.St}{H:Hp}{s:dA}{mu:List dB}{S:Sto}
end
open AutoSeq1 (wpAny_loadPart')
section
variable{P:dD}{w:dF}{A:dE}{E:dz->dA->Prop}{s:dA}
end
section
variable{ag:List (dB×Obj)}{σ:L2.St}{H:Hp}{s:dA}{mu:List dB}
end
open PySem.SeqAt
open PySem.AutoSeq1 (wpAny_loadPart')
open PySem.MeetsSeq PySem.MeetsSeq2 PySem.MeetsSeq3
section
variable{ag:List (dB×Obj)}{σ:L2.St}{H:Hp}{s:dA}{mu:List dB}{S:Sto}
end
section
variable{prog:dD}{w:dF}{A:dE}{R:QY->dA->Prop}{I S:dB}{fp wr:List dB}{n:Nat}{P:Nat->dz->Prop}{St:Nat->dM->Prop}{bt:Nat->Nat->Bool}{Kp:dA->Prop}
end
section
open PySem.MeetsSeq PySem.MeetsSeq2 PySem.MeetsSeq3 PySem.SeqRoads2
theorem GM{l:dB}{its:Array dz}{x:dz}{e:Nat->Bool}{j:Nat}{o:Obj}{n:Nat}(hd:o.data = .seq its n)(D:j<its.size)(p:e j=true)(f:∀ m,m<j->e m=false):
  Meets (Builtin.«tuple.index» ⟨[.ref l,x],[]⟩)
   (λA R s=>s.heap.get? l=Z o/\(∀m (h:m<its.size),Rr A.in1 s its[m] x (e m))/\R (.ok (.ret (.int j s.toks))) {s with toks:=s.toks+1}):=by
 intro prog w A R ⟨C,g,d,tk,y⟩ ⟨v,B,h⟩
 wp_walk using Sj v
 rw[hd];refine wP1 ?_;refine wP1 ?_;dsimp only;refine wB1 (wP1 ?_);refine wB1 (wP1 ?_);refine wB1 ?_;rw[bR,Std.Legacy.Range.forIn_eq_forIn_range'];have t:([0:its.size]:Std.Legacy.Range).size=its.size:=by simp[Std.Legacy.Range.size]
 show dJ _ _ (forIn (bn 0 ([0:its.size]:Std.Legacy.Range).size 1) _ _) _ _ _;rw[t];refine Sc _ (λrest b s'=>b=(Y,())/\s'=⟨C,g,d,tk,y⟩ /\ ∃i,i<=j/\rest=bn i (its.size-i) 1) _ ?turn ?fin _ _ ⟨O,O,0,bi _,O⟩
 case turn=>
  rintro i rest b s' ⟨rfl,rfl,u,hi,c⟩;obtain⟨k,r⟩:∃k,its.size-u=k+1:=⟨its.size-u-1,by lia⟩;rw[r,cJ]at c;injection c with c z;subst c;have a:i<its.size:=by lia
  rw[aG1 a];dsimp only;refine wB1 (B i a prog w _ _ ?_);by_cases q:i=j
  ·subst q;rw[p]
   wp_walk
   exact h
  ·rw[f i (by lia)]
   wp_walk
   exact⟨O,O,i+1,by lia,by rw[z,show its.size-(i+1)=k by lia]⟩
 case fin=>
  rintro b s' ⟨_,_,i,hi,e⟩;obtain⟨k,r⟩:∃k,its.size-i=k+1:=⟨its.size-i-1,by lia⟩;rw[r,cJ]at e;cases e
end
def j4:G2:=λo x S=>match o with
 | .tup ys=>(qz (jm S eu) x ys).bind λbs=>(bs.findIdx? id).map λj=>(.int (j:Nat),S)
 |_=>Y
noncomputable def qv(f:FN)(o:FE)(a:FA):FE:=λr S=>(o r S).bind λp=>match p.1 with
 | .tup ys=>(a r p.2).bind λq=>f (.tup ys::q.1) q.2
 |_=>Y
def NW(K:Fg1)(r:V->List V->Hp->VK->Prop)(to:TE)(t:TA):TE:=fun σ H Q=>to σ H λx H1=>(∃a vs,x = .ref a/\kS K H1 a vs)/\t σ H1 λxs H2=>r x xs H2 Q
theorem Jl {o e:Expr}{es:List Expr}{to:TE}{t:TA}{name:Str}{apos cpos:Pos}{id:String}{r:V->List V->Hp->VK->Prop}(slot:Slot "tuple" name id)(hty:typeOf (.builtin id)=pure (.type "method_descriptor"))(hm:Et X id r)(ho:PE X o to)(ha:PA X (e::es) t)
  (hbase:autoParam (Rs o name X.env (eval o X.env)=eval o X.env) cu0)
  (hfew:autoParam (((Qn cpos (dH (e::es) X.env)).all (λx=> !x.1)&&(Rt cpos (Ru [] X.env)).all (λx=>x.1.isSome)
   && decide ((e::es).length+([]:List Q1).length+(if([]:List Q1).isEmpty then 0 else 1)<30))=M) cu0)
  (hline:autoParam ((apos.endLine == cpos.line)=M) cu0) (hs:autoParam (dH (e::es) X.env=(J,eval e X.env)::dH es X.env) cu0) (hplain:autoParam ((Qn cpos (dH es X.env)).any (·.1)=J) cu0):
  PE X (.Call (.Attribute o name apos) (e::es) [] cpos) (NW X.K r to t):=by
 intro ag s σ H Q I h;refine wpAny_Call_method_late hbase hfew hline O (fx (ho ag s σ H _ I h) λv l ⟨x,H1,c,k,⟨a,vs,ex,g⟩,y⟩=>?_);subst ex;obtain⟨j,_,p,_⟩:=c.tupN g;cases k;refine⟨"tuple",id,PySem.F.plainAttrs_tuple,slot,hty,p.tup.typeIs,λb eb=>?_,?_⟩
 ·cases eb;obtain⟨o,m,_,n,_,q⟩:=p;exact⟨o,m,q⟩
 have d:=ha cpos ag l σ H1 _ c y;rw[hs]at d ⊢;refine Rv (by show(J||(Qn cpos (dH es X.env)).any (·.1))=J;rw[hplain]<;>rfl) (Rx ?_);exact fx d λi w ⟨ws,H2,f,r2,u⟩=>hm ag w σ H2 (.ref a) ws _ i Q f O r2 u
theorem CN {o e:Expr}{es:List Expr}{m:FE}{a:FA}{f:FN}{name:Str}{apos cpos:Pos}{id:String}(slot:Slot "tuple" name id)(hty:typeOf (.builtin id)=pure (.type "method_descriptor"))(hm:Et X id (fun x xs H Q=>rN X.K f (x::xs) H Q))(ho:ME X o m)(ha:MA X (e::es) a)
  (hbase:autoParam (Rs o name X.env (eval o X.env)=eval o X.env) cu0)
  (hfew:autoParam (((Qn cpos (dH (e::es) X.env)).all (λx=> !x.1)&&(Rt cpos (Ru [] X.env)).all (λx=>x.1.isSome)&&decide ((e::es).length+([]:List Q1).length+(if([]:List Q1).isEmpty then 0 else 1)<30))=M) cu0)
  (hline:autoParam ((apos.endLine == cpos.line)=M) cu0) (hs:autoParam (dH (e::es) X.env=(J,eval e X.env)::dH es X.env) cu0) (hplain:autoParam ((Qn cpos (dH es X.env)).any (·.1)=J) cu0):
  ME X (.Call (.Attribute o name apos) (e::es) [] cpos) (qv f m a):=
 eX (Jl slot hty hm ho ha hbase hfew hline hs hplain) <| by
  rintro σ H Q ⟨r,mu,S,d,s,k,hs,hm,hc⟩;obtain⟨⟨i,p⟩,q,hm⟩:=Th hm;refine⟨r,mu,S,i,p,k,hs,q,λv H1 mu1 l j w=>?_⟩;cases i with
  |tup ys=>
   dsimp only at hm;obtain⟨⟨ds,n⟩,u,hm⟩:=Th hm;refine⟨?_,r,mu1,p,ds,n,k.ext l,w,u,λvs H2 b g r2 A=>?_⟩
   ·cases j with
    |tup h t=>exact⟨_,_,O,h⟩
   ·exact⟨b,n,.tup ys::ds,d,s,.cons (j.ext g) r2,A,hm,λz B c y=>hc z B c ((l.trans g).trans y)⟩
  |_=>cases hm
theorem kx {o e:Expr}{es:List Expr}{m:FE}{a:FA}{f:FN}{name:Str}{apos cpos:Pos}{id:String}(slot:Slot "tuple" name id)(hty:typeOf (.builtin id)=pure (.type "method_descriptor"))(hm:Et X id (λx xs H Q=>rN X.K f (x::xs) H Q))(ho:XE X o m)(ha:XA X (e::es) a)(hbase:autoParam (Rs o name X.env (eval o X.env)=eval o X.env) cu0)(hfew:autoParam (((Qn cpos (dH (e::es) X.env)).all (λx=> !x.1)&&(Rt cpos (Ru [] X.env)).all (λx=>x.1.isSome)&&decide ((e::es).length+([]:List Q1).length+(if([]:List Q1).isEmpty then 0 else 1)<30))=M) cu0)(hline:autoParam ((apos.endLine == cpos.line)=M) cu0)(hs:autoParam (dH (e::es) X.env=(J,eval e X.env)::dH es X.env) cu0)(hplain:autoParam ((Qn cpos (dH es X.env)).any (·.1)=J) cu0):XE X (.Call (.Attribute o name apos) (e::es) [] cpos) (qv f m a):=⟨CN (slot:=slot) (hty:=hty) (hm:=hm) (ho:=ho.h) (ha:=ha.h) (hbase:=hbase) (hfew:=hfew) (hline:=hline) (hs:=hs) (hplain:=hplain)⟩
theorem sF(au:X.A.units+64<QX):Et X "tuple.index" (λx xs H Q=>rN X.K (b2 j4) (x::xs) H Q):=by
 intro ag s σ H x xs v us Q I K P h;obtain⟨U,y,mu,S,d,e,r',wq,D,G,r2,z,b,hc⟩:=zJ h;cases D;unfold j4 at b;split at b
 ·rename_i ys;obtain⟨bs,eb,b⟩:=Th b;obtain⟨j,B,b⟩:=Ti b;cases b;cases G with
  | @tup _ vs a q t=>
   cases K;obtain⟨u,rfl,R⟩:=P.one;obtain⟨c,f,⟨o,w,co,n,ao,_⟩,_⟩:=I.tupN q;obtain⟨l1,k⟩:=t5 _ _ eb;have W:=t.length;have V:=f.length;rw[b6]at B;obtain⟨L,g,r⟩:=B;have p:∀m (b:m<c.toArray.size),Rr X.A.in1 s c.toArray[m] u (bs[m]?.getD J):=λm b=>by
    have m1:m<c.length:=by simpa using b
    obtain⟨aq,N,av⟩:=t.getV (i:=m) (v:=vs[m]'(by lia)) (gG1 (by lia));obtain⟨w',C,T⟩:=f.get (i:=m) (x:=vs[m]'(by lia)) (gG1 (by lia));have m2:m<bs.length:=by lia
    have E:c.toArray[m]=w':=by
     have:=gG1 m1;rw[this]at C;simpa using C
    rw[E,gG1 m2];exact(lF I z eu (A:=X.A.in1) (by show X.A.units+1+60<QX;lia) av r2 T R (k m aq bs[m] N (gG1 m2))).1
   refine call_meets F.slot_tuple_index ⟨o,w,co⟩ F.entry_tuple_index (F.args_tuple_index_2 _ _)
    (GM (l:=a) (x:=u) (o:=o) (n:=n) (its:=c.toArray) (e:=λm=>bs[m]?.getD J) (j:=j) ao (by simp;lia) ?_ ?_) ⟨w,p,?_⟩
   ·simp only[gG1 L,b7];simpa using g
   ·intro m b;have m2:m<bs.length:=by lia
    have:=r m b;simp only[gG1 m2,b7];simpa using this
   ·exact⟨.int j,H,I.tok _,⟨_,O⟩,hc.now (.int _) z⟩
 ·cases b
def W{α:Type}(o:Option α)(Q:α->Prop):Prop:=∃x,o=Z x/\Q x
section
variable{α β:Type}{Q:α->Prop}
theorem d7{x:α}:W (Z x) Q↔Q x:=⟨λ⟨_,e,h⟩=>(by cases e;exact h),λh=>⟨x,O,h⟩⟩
theorem lI:W (Y:Option α) Q↔False:=⟨λ⟨_,e,_⟩=>(by cases e),Qs⟩
theorem dY{o:Option β}{f:β->Option α}:W (o.bind f) Q↔W o λx=>W (f x) Q:=by
 cases o with
 |none=>exact⟨λ⟨_,e,_⟩=>(by cases e),λ⟨_,e,_⟩=>(by cases e)⟩
 |some x=>exact⟨λh=>⟨x,O,h⟩,λ⟨_,e,h⟩=>by cases e;exact h⟩
theorem lw{o:Option β}{f:β->α}:W (o.map f) Q↔W o λx=>Q (f x):=by
 cases o with
 |none=>exact⟨λ⟨_,e,_⟩=>(by cases e),λ⟨_,e,_⟩=>(by cases e)⟩
 |some x=>exact⟨λ⟨_,e,h⟩=>(by cases e;exact⟨x,O,h⟩),λ⟨_,e,h⟩=>(by cases e;exact⟨_,O,h⟩)⟩
theorem vZ{c:Prop}[Decidable c]{a b:Option α}:W (if c then a else b) Q↔if c then W a Q else W b Q:=by split<;>exact Iff.rfl
theorem W.mono{o:Option α}{Q':α->Prop}(h:W o Q)(k:∀x,Q x->Q' x):W o Q':=let ⟨x,e,q⟩:=h;⟨x,e,k x q⟩
theorem W.of{o:Option α}{x:α}(e:o=Z x)(h:Q x):W o Q:=⟨x,e,h⟩
end
theorem ei{a b:FS}{r:Ev}{S:Sto}{Q:Fl×Ev×Sto->Prop}(R:Ev->Sto->Prop)(h1:W (a r S) λp=>p.1 = .nx/\R p.2.1 p.2.2)(h2:∀r S,R r S->W (b r S) Q):W (dZ a b r S) Q:=by
 obtain⟨⟨f,h,g⟩,e,c,d⟩:=h1;dsimp only at c d;subst c;unfold dZ;rw[e];exact h2 h g d
theorem jl{n:Nat}{b:FS}{ds:List D}{S:Sto}{Q:D×Sto->Prop}(h:W (b (ic n ds) S) fun p=>match p.1 with
  | .rt d=>Q (d,p.2.2)
  | .nx=>Q (.non,p.2.2)
  |_=>False):W (hB n b ds S) Q:=by
 obtain⟨⟨f,a,c⟩,e,q⟩:=h;unfold hB;rw[e];cases f with
 |rt d=>exact⟨_,O,q⟩
 |nx=>exact⟨_,O,q⟩
 |bk=>exact q.elim
 |ct=>exact q.elim
theorem vT{n:Nat}{f:FN}{ds:List D}{S:Sto}{Q:D×Sto->Prop}(hn:ds.length=n)(a:D.unds 0 ds=J)(h:W (f ds S) λp=>Q (gc S.length p)):W (dU n f ds S) Q:=by
 obtain⟨⟨d,b⟩,e,q⟩:=h;exact⟨_,r6 e hn a,q⟩
theorem fM{n:Nat}{f:FN}{ds:List D}{S:Sto}{Q:D×Sto->Prop}(hn:ds.length=n)(b:D.unds 0 ds=M)(h:W (f ds []) λp=>p.1.und 0=M/\Q (p.1,S)):W (dU n f ds S) Q:=by
 obtain⟨⟨d,g⟩,e,c,a⟩:=h;exact⟨_,AC e hn b c,a⟩
mutual
theorem iB{n:Nat}:∀{d:D},d.und 0=M->d.und n=M
 | .non,_=>rfl
 | .bl _,_=>rfl
 | .int _,_=>rfl
 | .str _,_=>rfl
 | .tup xs,h=>by rw[D.und]at h ⊢;exact i5 h
 | .rol xs,h=>by rw[D.und]at h ⊢;exact i5 h
 | .fn _,_=>rfl
 | .ref k,h=>by simp[D.und]at h
theorem i5{n:Nat}:∀{ds:List D},D.unds 0 ds=M->D.unds n ds=M
 |[],_=>rfl
 |d::ds,h=>by
  rw[D.unds,bA1]at h ⊢;exact⟨iB h.1,i5 h.2⟩
end
theorem mF{n:Nat}{f:FN}{ds:List D}{o:Ob}{T:Sto}{Q:D×Sto->Prop}(hn:ds.length=n)(g:D.unds 0 ds=J)(b:T.all (Ob.und (T.length+1))=M)(h:W (f ds (o::T)) λp=>∃d o' G,p=(d,o'::(T++G))/\d.und 0=M/\o'.und (T.length+1)=M/\Q (d,o'::T)):W (dU n f ds (o::T)) Q:=by
 refine vT hn g (h.mono ?_);rintro p ⟨d,o',G,rfl,c,a,q⟩;have e:(o'::(T++G)).take (T.length+1)=o'::T:=by simp
 unfold gc;dsimp only[lC1];rw[ak (by rw[e,iB c,bQ,a,b];rfl),e];exact q
theorem eY{c:List (Nat×List D)}{g:FG}{b:FS}{Q:Fl×Ev×Sto->Prop}(I:Nat->Ev->Sto->Prop):∀ (items:List D) (k:Nat) (r:Ev) (S:Sto),I k r S ->
  (∀i r S,I i r S->qj S c=M) ->
  (∀i d,items[i]?=Z d -> ∀r S,I (k+i) r S->W (g d r S) λp=>W (b p.1 p.2) λq=>q.1 = .nx/\I (k+i+1) q.2.1 q.2.2) ->
  (∀r S,I (k+items.length) r S->Q (.nx,r,S))->W (jF c g b items r S) Q
 |[],k,r,S,hi,hok,_,hq=>by rw[jF];dsimp only;rw[ak (hok _ _ _ hi),d7];exact hq r S (by simpa using hi)
 |d::ds,k,r,S,hi,hok,hs,hq=>by
  rw[jF];dsimp only;rw[ak (hok _ _ _ hi),dY];obtain⟨p,h,h1⟩:=hs 0 d O r S (by simpa using hi);refine⟨p,h,?_⟩;dsimp only;rw[dY];obtain⟨⟨f,l,o⟩,j,h2,e⟩:=h1;refine⟨_,j,?_⟩;dsimp only at h2 e ⊢;subst h2;refine eY I ds (k+1) l o (by simpa using e) hok (λi m n r S a=>?_) λr S a=>hq r S (by rw[lC1,show k+(ds.length+1)=k+1+ds.length by lia];exact a);have:=hs (i+1) m (by simpa using n) r S (by rw[show k+(i+1)=k+1+i by lia];exact a);rw[show k+(i+1)+1=k+1+i+1 by lia]at this;exact this
theorem iS{c:List (Nat×List D)}{g:FG}{t:FT}{e:FE}{Q:List D×Ev×Sto->Prop}(I:Nat->List D->Ev->Sto->Prop):∀ (items:List D) (k:Nat) (acc:List D) (r:Ev) (S:Sto),I k acc r S ->
  (∀i acc r S,I i acc r S->qj S c=M) ->
  (∀i d,items[i]?=Z d -> ∀acc r S,I (k+i) acc r S->W (g d r S) λp=>W (t p.1 p.2) λb=>if b.1=M then W (e p.1 b.2) λx=>I (k+i+1) (acc++[x.1]) p.1 x.2 else I (k+i+1) acc p.1 b.2) ->
  (∀xs r S,I (k+items.length) (acc++xs) r S->Q (xs,r,S))->W (fS c g t (eB e) items r S) Q
 |[],k,acc,r,S,hi,hok,_,hq=>by rw[fS];dsimp only;rw[ak (hok _ _ _ _ hi),d7];exact hq [] r S (by simpa using hi)
 |d::ds,k,acc,r,S,hi,hok,hs,hq=>by
  rw[fS];dsimp only;rw[ak (hok _ _ _ _ hi),dY];obtain⟨p,j,h1⟩:=hs 0 d O acc r S (by simpa using hi);refine⟨p,j,?_⟩;dsimp only;rw[dY];obtain⟨⟨b,q⟩,l,h2⟩:=h1;refine⟨_,l,?_⟩;have step:∀i f,ds[i]?=Z f -> ∀acc r S,I (k+1+i) acc r S->W (g f r S) λp=>W (t p.1 p.2) λb=>if b.1=M then W (e p.1 b.2) λx=>I (k+1+i+1) (acc++[x.1]) p.1 x.2 else I (k+1+i+1) acc p.1 b.2:=λi f o acc r S a=>by
   have:=hs (i+1) f (by simpa using o) acc r S (by rw[show k+(i+1)=k+1+i by lia];exact a);rw[show k+(i+1)+1=k+1+i+1 by lia]at this;exact this
  dsimp only at h2 ⊢;cases b with
  |true=>
   rw[ak O]at h2 ⊢;rw[dY,eB,lw];obtain⟨⟨x,n⟩,m,h⟩:=h2;refine⟨_,m,?_⟩;dsimp only at h ⊢;rw[lw];refine iS I ds (k+1) (acc++[x]) p.1 n (by simpa using h) hok step λxs r S a=>?_;refine hq _ r S ?_;rw[lC1,show k+(ds.length+1)=k+1+ds.length by lia];simpa using a
  |false=>
   rw[aj (by decide)]at h2 ⊢;refine iS I ds (k+1) acc p.1 q (by simpa using h2) hok step λxs r S a=>?_;refine hq _ r S ?_;rw[lC1,show k+(ds.length+1)=k+1+ds.length by lia];exact a
theorem Ip{S:Sto}{b:Bool}:wt S (.bl b)=Z b:=rfl
theorem Nq{S:Sto}:wt S .non=Z J:=rfl
theorem Nr{S:Sto}{i:Int}:wt S (.int i)=Z (i != 0):=rfl
theorem GW{x y:Int}{S:Sto}:gEq (.int x) (.int y) S=Z (.bl (x == y),S):=rfl
theorem GP{x y:Int}{S:Sto}:wV (.int x) (.int y) S=Z (.bl (!(x == y)),S):=rfl
theorem GS{x y:Int}{S:Sto}:gLt (.int x) (.int y) S=Z (.bl (decide (x<y)),S):=rfl
theorem GV{x y:Str}{S:Sto}:gEq (.str x) (.str y) S=Z (.bl (x == y),S):=rfl
theorem NB{x y:Str}{S:Sto}:wV (.str x) (.str y) S=Z (.bl (!(x == y)),S):=rfl
theorem ite_and'{c p:Prop}[Decidable c]:(if c then p else False)↔c/\p:=by split<;>simp[*]
noncomputable def yY(j:Int):Bool:=decide (-(2^62)<=j)&&decide (j<2^62)
theorem eW{n:Nat}(h:n<2^60):yY n=M:=by
 unfold yY;rw[bA1,am,am];lia
theorem D0{j:Int}(h: -(2^60)<=j)(h':j<2^60):yY j=M:=by
 unfold yY;rw[bA1,am,am];lia
def Lq(p:List D×Sto)(Q:AQ×Sto->Prop):Prop:=match p.1 with
 |[.int j]=>yY j=M/\Q (⟨gi 0 j.toNat,[]⟩,p.2)
 |_=>False
def Nu(p:List D×Sto)(Q:AQ×Sto->Prop):Prop:=match p.1 with
 |[.int i,.int j]=>yY i=M/\yY j=M/\Q (⟨gi i (j-i).toNat,[]⟩,p.2)
 |_=>False
theorem Em{m:FA}{r:Ev}{S:Sto}{Q:AQ×Sto->Prop}:W (oa m r S) Q↔W (m r S) λp=>Lq p Q:=by
 unfold oa;rw[dY];constructor
 ·refine λh=>h.mono λp q=>?_;unfold Lq;split at q
  ·rename_i j e
   try rw[e]
   rw[vZ]at q;split at q
   ·rename_i hc;exact⟨by unfold yY;rw[bA1,am,am];exact hc,d7.mp q⟩
   ·exact(lI.mp q).elim
  ·exact(lI.mp q).elim
 ·refine λh=>h.mono λp q=>?_;unfold Lq at q;split at q
  ·rename_i j e;obtain⟨a,b⟩:=q;unfold yY at a;rw[bA1,am,am]at a
   try rw[e]
   try dsimp only
   rw[ak a];exact d7.mpr b
  ·exact q.elim
theorem Nd{m:FA}{r:Ev}{S:Sto}{Q:AQ×Sto->Prop}:W (Lr m r S) Q↔W (m r S) λp=>Nu p Q:=by
 unfold Lr;rw[dY];constructor
 ·refine λh=>h.mono λp q=>?_;unfold Nu;split at q
  ·rename_i i j e
   try rw[e]
   rw[vZ]at q;split at q
   ·rename_i hc;refine⟨?_,?_,d7.mp q⟩
    ·unfold yY;rw[bA1,am,am];exact⟨hc.1,hc.2.1⟩
    ·unfold yY;rw[bA1,am,am];exact hc.2.2
   ·exact(lI.mp q).elim
  ·exact(lI.mp q).elim
 ·refine λh=>h.mono λp q=>?_;unfold Nu at q;split at q
  ·rename_i i j e;obtain⟨a,b,c⟩:=q;unfold yY at a b;rw[bA1,am,am]at a b
   try rw[e]
   try dsimp only
   rw[ak ⟨a.1,a.2,b⟩];exact d7.mpr c
  ·exact q.elim
noncomputable def fits(n:Nat):Bool:=decide (n<=dI)
theorem d3{n:Nat}(h:n<=100000):fits n=M:=by unfold fits;rw[am];exact aD h (by decide)
theorem vw{n:Nat}:fits n=M↔n<=dI:=by unfold fits;rw[am]
theorem PP:fits 0=M:=d3 (by decide)
theorem PN:fits 1=M:=d3 (by decide)
theorem OZ:fits 2=M:=d3 (by decide)
theorem PM:fits 3=M:=d3 (by decide)
theorem PK:fits 4=M:=d3 (by decide)
theorem PJ:fits 5=M:=d3 (by decide)
theorem P2:fits 6=M:=d3 (by decide)
theorem P1:fits 7=M:=d3 (by decide)
theorem P0:fits 8=M:=d3 (by decide)
theorem i0{α:Type}{n:Nat}{o:Option α}{Q:α->Prop}:W (if n<=dI then o else Y) Q↔fits n=M/\W o Q:=by
 rw[vw,vZ];split
 ·rename_i h;exact⟨λq=>⟨h,q⟩,λq=>q.2⟩
 ·rename_i h;exact⟨λq=>(lI.mp q).elim,λq=>absurd q.1 h⟩
theorem Ek{a:FA}{r:Ev}{S:Sto}{Q:D×Sto->Prop}:W (eQ a r S) Q↔W (a r S) λp=>fits p.1.length=M/\Q (.tup p.1,p.2):=by
 unfold eQ;rw[dY];exact⟨λh=>h.mono λp q=>(i0.mp q).imp_right d7.mp,λh=>h.mono λp q=>i0.mpr (q.imp_right d7.mpr)⟩
theorem K9{a:FA}{r:Ev}{S:Sto}{Q:D×Sto->Prop}:W (hZ a r S) Q↔W (a r S) λp=>fits p.1.length=M/\Q (.ref p.2.length,p.2++[.lst p.1]):=by
 unfold hZ;rw[dY];exact⟨λh=>h.mono λp q=>(i0.mp q).imp_right d7.mp,λh=>h.mono λp q=>i0.mpr (q.imp_right d7.mpr)⟩
theorem mO{k:Nat}{keep:List Nat}{m:FI}{g:FG}{t:FT}{b:FV}{r:Ev}{S:Sto}{Q:D×Sto->Prop}:W (eK k keep m g t b r S) Q↔W (m r S) λp=>W (fS p.1.chk g t b p.1.items (vn k keep r) p.2) λq=>fits q.1.length=M/\Q (.ref q.2.2.length,q.2.2++[.lst q.1]):=by
 unfold eK;rw[dY];refine⟨λh=>h.mono λp q=>?_,λh=>h.mono λp q=>?_⟩
 ·rw[dY]at q;exact q.mono λz w=>(i0.mp w).imp_right d7.mp
 ·rw[dY];exact q.mono λz w=>i0.mpr (w.imp_right d7.mpr)
theorem OG{xs ys:List D}{S:Sto}{Q:D×Sto->Prop}:W (gj (.tup xs) (.tup ys) S) Q↔fits (xs.length+ys.length)=M/\Q (.tup (xs++ys),S):=
 ⟨λq=>(i0.mp q).imp_right d7.mp,λq=>i0.mpr (q.imp_right d7.mpr)⟩
theorem Ep{x y:Int}{S:Sto}{Q:D×Sto->Prop}:W (gj (.int x) (.int y) S) Q↔Q (.int (x+y),S):=d7
theorem Eo{a b:Nat}{xs ys:List D}{S:Sto}{Q:D×Sto->Prop}(h1:S[a]?=Z (.lst xs))(h2:S[b]?=Z (.lst ys)):W (gj (.ref a) (.ref b) S) Q↔fits (xs.length+ys.length)=M/\Q (.ref S.length,S++[.lst (xs++ys)]):=by
 rw[gj];simp only[h1,h2];exact⟨λq=>(i0.mp q).imp_right d7.mp,λq=>i0.mpr (q.imp_right d7.mpr)⟩
theorem lx{n:Nat}{v:D}{xs:List D}{S:Sto}{Q:D×Sto->Prop}(h:S[n]?=Z (.lst xs)):W (iX (.ref n) v S) Q↔fits (xs.length+1)=M/\Q (.non,S.set n (.lst (xs++[v]))):=by
 rw[iX];simp only[h];rw[vZ,vw];split
 ·rename_i a;exact⟨λq=>⟨a,d7.mp q⟩,λq=>d7.mpr q.2⟩
 ·rename_i a;exact⟨λq=>(lI.mp q).elim,λq=>absurd q.1 a⟩
theorem kl{n:Nat}{i:Nat}{xs:List D}{x:D}{S:Sto}{Q:D×Sto->Prop}(h:S[n]?=Z (.lst xs))(hx:xs[i]?=Z x)(q:Q (x,S)):W (dW (.ref n) (.int i) S) Q:=by
 refine W.of (x:=(x,S)) ?_ q;have a:=(Tg hx).1;simp only[dW,nj,EC,h,ee,xh,Ag,oS1,ak (show(0:Int)<=i by lia)];rw[ak (by lia)];simp[hx]
theorem ip{i:Nat}{xs:List D}{x:D}{S:Sto}{Q:D×Sto->Prop}(hx:xs[i]?=Z x)(q:Q (x,S)):W (dW (.tup xs) (.int i) S) Q:=by
 refine W.of (x:=(x,S)) ?_ q;have a:=(Tg hx).1;simp only[dW,nj,EC,ee,xh,Ag,oS1,ak (show(0:Int)<=i by lia)];rw[ak (by lia)];simp[hx]
theorem Px:aP 0 (Y:Option D)=[]:=rfl
theorem Pw:aP 1 (Y:Option D)=[Y]:=rfl
theorem Pn:aP 2 (Y:Option D)=[Y,Y]:=rfl
theorem Pk:aP 3 (Y:Option D)=[Y,Y,Y]:=rfl
theorem Pj:aP 4 (Y:Option D)=[Y,Y,Y,Y]:=rfl
theorem Pi:aP 5 (Y:Option D)=[Y,Y,Y,Y,Y]:=rfl
theorem Ph:aP 6 (Y:Option D)=[Y,Y,Y,Y,Y,Y]:=rfl
theorem Pg:aP 7 (Y:Option D)=[Y,Y,Y,Y,Y,Y,Y]:=rfl
theorem Pf:aP 8 (Y:Option D)=[Y,Y,Y,Y,Y,Y,Y,Y]:=rfl
theorem PZ:aP 9 (Y:Option D)=[Y,Y,Y,Y,Y,Y,Y,Y,Y]:=rfl
theorem LU:aP 10 (Y:Option D)=[Y,Y,Y,Y,Y,Y,Y,Y,Y,Y]:=rfl
theorem Pv:aP 11 (Y:Option D)=[Y,Y,Y,Y,Y,Y,Y,Y,Y,Y,Y]:=rfl
theorem N1:aP 12 (Y:Option D)=[Y,Y,Y,Y,Y,Y,Y,Y,Y,Y,Y,Y]:=rfl
theorem Pu:aP 13 (Y:Option D)=[Y,Y,Y,Y,Y,Y,Y,Y,Y,Y,Y,Y,Y]:=rfl
theorem Pt:aP 14 (Y:Option D)=[Y,Y,Y,Y,Y,Y,Y,Y,Y,Y,Y,Y,Y,Y]:=rfl
theorem Ps:aP 15 (Y:Option D)=[Y,Y,Y,Y,Y,Y,Y,Y,Y,Y,Y,Y,Y,Y,Y]:=rfl
theorem Pr:aP 16 (Y:Option D)=[Y,Y,Y,Y,Y,Y,Y,Y,Y,Y,Y,Y,Y,Y,Y,Y]:=rfl
theorem Pq:aP 17 (Y:Option D)=[Y,Y,Y,Y,Y,Y,Y,Y,Y,Y,Y,Y,Y,Y,Y,Y,Y]:=rfl
theorem Pp:aP 18 (Y:Option D)=[Y,Y,Y,Y,Y,Y,Y,Y,Y,Y,Y,Y,Y,Y,Y,Y,Y,Y]:=rfl
theorem Po:aP 19 (Y:Option D)=[Y,Y,Y,Y,Y,Y,Y,Y,Y,Y,Y,Y,Y,Y,Y,Y,Y,Y,Y]:=rfl
theorem Pm:aP 20 (Y:Option D)=[Y,Y,Y,Y,Y,Y,Y,Y,Y,Y,Y,Y,Y,Y,Y,Y,Y,Y,Y,Y]:=rfl
theorem eZ{α:Type}{T G:List α}{k:Nat}:(T++G)[T.length+k]?=G[k]?:=by rw[gR1 (by lia)];congr 1;lia
theorem d2{α:Type}{T G:List α}:(T++G)[T.length]?=G[0]?:=by rw[gR1 (by lia)];congr 1;lia
theorem yH{S:Sto}{i j:Nat}{xs:List D}(h:S[i]?=Z (.lst xs))(h':S[j]?=Z (.lst [])):wV (.ref i) (.ref j) S=Z (.bl (!xs.isEmpty),S):=by
 unfold wV eu;rw[show(60:Nat)=59+1 from rfl,jm];simp only[ee,h,h'];cases xs with
 |nil=>simp[w8]
 |cons x xs=>simp
theorem oo:∀(n:Nat) (lo:Int),gi lo n=(af n).map λi:Nat=>D.int (lo+i)
 |0,lo=>rfl
 |n+1,lo=>by
  rw[gi,oo n (lo+1),List.range_succ_eq_map,mP1,bu]
  congr 1
  ·simp
  ·apply cV;intro i _;simp only[Function.comp_apply,Nat.succ_eq_add_one]
   congr 1
   push_cast
   lia
theorem lg(n:Nat):gi 0 n=(af n).map λi:Nat=>D.int i:=by
 rw[oo];apply cV;intro i _;simp
theorem jI{α:Type}{c:List (Nat×List D)}{g:FG}{t:FT}{e:FE}{S:Sto}{f:α->D}{Q:List D×Ev×Sto->Prop}(F:α->D)(P:Ev->Prop)(d:qj S c=true):∀ (xs:List α) (r:Ev),P r ->
  (∀a∈xs,∀r,P r->W (g (f a) r S) λp=>W (t p.1 p.2) λb=>b.1=M/\W (e p.1 b.2) λx=>x.1=F a/\x.2=S/\P p.1) ->
  (∀i,P i->Q (xs.map F,i,S))->W (fS c g t (eB e) (xs.map f) r S) Q
 |[],r,hr,_,h=>by rw[aZ,fS];dsimp only;rw[ak d,d7];exact h r hr
 |a::xs,r,hr,hs,h=>by
  rw[mP1,fS];dsimp only;rw[ak d,dY];obtain⟨p,k,⟨b,o,m,⟨x,n,u,q,s⟩⟩⟩:=hs a mS1 r hr;refine⟨p,k,?_⟩;dsimp only;rw[dY];refine⟨b,o,?_⟩;dsimp only;rw[ak m,dY,eB,lw];refine⟨x,n,?_⟩;dsimp only;rw[q,lw];refine jI F P d xs p.1 s (λa l=>hs a (mC1 _ l)) λi j=>?_;have:=h i j;rw[mP1,<- u]at this;exact this
theorem iV{α:Type}{c:List (Nat×List D)}{g:FG}{t:FT}{e:FE}{S:Sto}{f:α->D}{Q:List D×Ev×Sto->Prop}(k:α->Bool)(F:α->D)(P:Ev->Prop)(d:qj S c=true):∀ (xs:List α) (r:Ev),P r ->
  (∀a∈xs,∀r,P r->W (g (f a) r S) λp=>W (t p.1 p.2) λb=>b.1=k a/\b.2=S/\P p.1/\(k a=M->W (e p.1 S) λx=>x.1=F a/\x.2=S)) ->
  (∀j,P j->Q ((xs.filter k).map F,j,S))->W (fS c g t (eB e) (xs.map f) r S) Q
 |[],r,hr,_,h=>by rw[aZ,fS];dsimp only;rw[ak d,d7];exact h r hr
 |a::xs,r,hr,hs,h=>by
  rw[mP1,fS];dsimp only;rw[ak d,dY];obtain⟨p,u,⟨b,w,o,q,s,n⟩⟩:=hs a mS1 r hr;refine⟨p,u,?_⟩;dsimp only;rw[dY];refine⟨b,w,?_⟩;dsimp only;cases hk:k a with
  |true=>
   rw[o,hk,ak O,dY,eB,lw,q];obtain⟨x,v,n,m⟩:=n hk;refine⟨x,v,?_⟩;dsimp only;rw[m,lw];refine iV k F P d xs p.1 s (λa l=>hs a (mC1 _ l)) λj i=>?_;have:=h j i;rw[List.filter_cons,hk,ak O,mP1,<- n]at this;exact this
  |false=>
   rw[o,hk,aj (by decide),q];refine iV k F P d xs p.1 s (λa l=>hs a (mC1 _ l)) λj i=>?_;have:=h j i;rw[List.filter_cons,hk,aj (by decide)]at this;exact this
theorem qf{α:Type}{f:α->Bool}:∀xs:List α,Mi.D9 (xs.map λx=>D.bl (f x))=Z (xs.all f)
 |[]=>rfl
 |x::xs=>by rw[mP1,Mi.D9,qf xs];rfl
mutual
theorem Ig{n m:Nat}(h:n<=m):∀{d:D},d.und n=M->d.und m=M
 | .non,_=>rfl
 | .bl _,_=>rfl
 | .int _,_=>rfl
 | .str _,_=>rfl
 | .tup xs,q=>by rw[D.und]at q ⊢;exact jt h q
 | .rol xs,q=>by rw[D.und]at q ⊢;exact jt h q
 | .fn _,_=>rfl
 | .ref k,q=>by simp[D.und]at q ⊢;lia
theorem jt{n m:Nat}(h:n<=m):∀{ds:List D},D.unds n ds=M->D.unds m ds=M
 |[],_=>rfl
 |d::ds,q=>by
  rw[D.unds,bA1]at q ⊢;exact⟨Ig h q.1,jt h q.2⟩
end
theorem hR{n m:Nat}(h:n<=m):∀{o:Ob},o.und n=M->o.und m=M
 | .lst xs,q=>by rw[Ob.und]at q ⊢;exact jt h q
 | .dct xs,q=>by rw[Ob.und]at q ⊢;exact jt h q
 | .dcT xs,q=>by rw[Ob.und]at q ⊢;exact jt h q
 | .dcF xs,q=>by rw[Ob.und]at q ⊢;exact jt h q
 | .iset _,_=>rfl
 | .tst _,_=>rfl
theorem Na{k:Nat}{T G:Sto}(h:T.all (Ob.und (T.length+k))=M)(hg:G.all (Ob.und 0)=M):(T++G).all (Ob.und ((T++G).length+k))=M:=by
 rw[cW,bA1];rw[bB]at h hg;refine⟨bB.mpr λo a=>hR (by rw[lA1];lia) (h o a),bB.mpr λo a=>hR (bi _) (hg o a)⟩
theorem xn{n:Nat}{xs:List Int}{S:Sto}{Q:D×Sto->Prop}(h:S[n]?=Z (.iset xs))(q:Q (.int xs.length,S)):W (rQ (.ref n) S) Q:=by
 refine W.of ?_ q;unfold rQ;simp only[h]
theorem eN{α:Type}{n:Nat}{f:α->D}:∀{xs:List α},(∀x∈xs,(f x).und n=M)->D.unds n (xs.map f)=M
 |[],_=>rfl
 |x::xs,h=>by rw[mP1,D.unds,h x mS1,eN λy a=>h y (mC1 _ a)];rfl
theorem O2{x:Nat}:x+1+1=x+2:=rfl
theorem P8{x:Nat}:x+2+1=x+3:=rfl
theorem P7{x:Nat}:x+3+1=x+4:=rfl
theorem P6{x:Nat}:x+4+1=x+5:=rfl
theorem P5{x:Nat}:x+5+1=x+6:=rfl
theorem P4{x:Nat}:x+6+1=x+7:=rfl
theorem PR{x:Nat}:x+1+2=x+3:=rfl
theorem iu{xs:List D}{S:Sto}:eM (.tup xs) S=Z (.int xs.length,S):=rfl
theorem NA{xs:List D}{S:Sto}:eM (.rol xs) S=Z (.int xs.length,S):=rfl
theorem Mu{S:Sto}:eM (.str "") S=Z (.int 0,S):=rfl
theorem iQ{xs:List D}{S:Sto}:ee S (.tup xs)=Z (J,xs):=rfl
theorem Nt{xs:List D}{S:Sto}:ee S (.rol xs)=Z (M,xs):=rfl
theorem yX{xs:List D}{S:Sto}:j9 S (.tup xs)=[]:=rfl
theorem ND{xs:List D}{S:Sto}:j9 S (.rol xs)=[]:=rfl
theorem fP{n:Nat}{xs:List D}{S:Sto}(h:S[n]?=Z (.lst xs)):ee S (.ref n)=Z (M,xs):=by simp only[ee,h]
theorem oA{n:Nat}{xs:List D}{S:Sto}(h:S[n]?=Z (.lst xs)):j9 S (.ref n)=[(n,xs)]:=by simp only[j9,h]
def sW(S:Sto)(d:D)(Q:List D×List (Nat×List D)->Prop):Prop:=W (ee S d) λq=>Q (q.2,j9 S d)
theorem iD{xs:List D}{S:Sto}{Q:List D×List (Nat×List D)->Prop}:sW S (.tup xs) Q↔Q (xs,[]):=d7
theorem eF{n:Nat}{xs:List D}{S:Sto}{Q:List D×List (Nat×List D)->Prop}(h:S[n]?=Z (.lst xs))(q:Q (xs,[(n,xs)])):sW S (.ref n) Q:=by
 unfold sW;rw[fP h,oA h,d7];exact q
theorem Lc{m:FE}{r:Ev}{S:Sto}{Q:AQ×Sto->Prop}:W (ia m r S) Q↔W (m r S) λp=>sW p.2 p.1 λq=>Q (⟨q.1,q.2⟩,p.2):=by
 unfold ia;rw[dY];refine⟨λh=>h.mono λp q=>?_,λh=>h.mono λp q=>?_⟩
 ·rw[dY]at q;exact q.mono λz w=>d7.mp w
 ·rw[dY];exact W.mono (show W (ee p.2 p.1) _ from q) λz w=>d7.mpr w
theorem Ld{d:D}{S:Sto}{Q:D×Sto->Prop}:W (Mi.gTup d S) Q↔sW S d λq=>Q (.tup q.1,S):=by
 unfold Mi.gTup;rw[lw];exact Iff.rfl
theorem Nc{n:Nat}{S:Sto}{Q:D×Sto->Prop}:W (eM (.ref n) S) Q↔sW S (.ref n) λq=>Q (.int q.1.length,S):=by
 unfold eM sW;rw[lw]
noncomputable def pD(e:Nat×Nat):D:=.tup [.int e.1,.int e.2]
theorem w5{S:Sto}{n:Nat}{a b:Nat×Nat}:jm S (n+2) (pD a) (pD b)=Z (a == b):=by
 obtain⟨a1,a2⟩:=a;obtain⟨b1,b2⟩:=b;rw[jm];have c:∀x y:Nat,jm S (n+1) (.int x) (.int y)=Z ((x:Int) == (y:Int)):=λx y=>rfl;have d:∀x y:Nat,((x:Int) == (y:Int))=(x == y):=λx y=>by
  rw[bS,SV,SV];lia
 simp[pD,ee,w8,c,d];rfl
theorem yR{S:Sto}{n:Nat}{e:Nat×Nat}:∀row:List (Nat×Nat),qz (jm S (n+2)) (pD e) (row.map pD)=Z (row.map λa=>a == e)
 |[]=>rfl
 |a::row=>by rw[mP1,qz,w5,yR row];rfl
theorem Lb{S:Sto}{n j:Nat}{row:List (Nat×Nat)}{e:Nat×Nat}{Q:D×Sto->Prop}(h:S[n]?=Z (.lst (row.map pD)))(b:row.length<1000)(a:row.findIdx? (· == e)=Z j)(q:Q (.int j,S)):W (Dm (.ref n) (pD e) S) Q:=by
 refine W.of ?_ q;unfold Dm eu;simp only[h,show(60:Nat)=58+2 from rfl,yR,oS1,lM1];rw[ak (by lia),List.findIdx?_map];simp[Function.comp_def,a]
theorem jp{f:FN}{o:FE}{a:FA}{r:Ev}{S:Sto}{Q:D×Sto->Prop}(h:W (o r S) λp=>∃n xs,p.1 = .ref n/\p.2[n]?=Z (.lst xs)/\W (a r p.2) λq=>W (f (.ref n::q.1) q.2) Q):W (pr f o a r S) Q:=by
 unfold pr;rw[dY];refine h.mono ?_;rintro⟨d,b⟩ ⟨n,xs,rfl,e,q⟩;dsimp only at e q ⊢;rw[e];dsimp only;rw[dY];exact q
def LV(row:List (Nat×Nat)):Ob:=.lst (row.map pD)
structure WS (t m:Nat)(T:Sto)(E:List (List (Nat×Nat)))(P:List (Nat×Nat))(U:Sto):Prop where
 tl:T.length=t
 low:U.take t=T
 el:E.length=m
 row:∀i row,E[i]?=some row->U[t+i]?=some (LV row)
 ends:U[t+m]?=some (.lst (jV (t+1) m))
 prs:U[t+m+1]?=some (.lst (P.map pD))
theorem WS.app{t m:Nat}{T:Sto}{E:List (List (Nat×Nat))}{P:List (Nat×Nat)}{U G:Sto}(w:WS t m T E P U):WS t m T E P (U++G):=by
 have a:t+m+1<U.length:=(Tg w.prs).1;refine⟨w.tl,?_,w.el,λi row h=>?_,?_,?_⟩
 ·rw[List.take_append_of_le_length (by omega)];exact w.low
 ·have:=w.row i row h;rw[gL1 (Tg this).1];exact this
 ·rw[gL1 (by omega)];exact w.ends
 ·rw[gL1 (by omega)];exact w.prs
theorem sT:∀{k n i:Nat},i<k->(jV n k)[i]?=Z (.ref (n+i))
 |k+1,n,0,_=>rfl
 |k+1,n,i+1,h=>by rw[jV,gC1,sT (Nat.lt_of_succ_lt_succ h),show n+1+i=n+(i+1) by lia]
theorem l0:∀k n:Nat,(jV n k).length=k
 |0,_=>rfl
 |k+1,n=>by rw[jV,lC1,l0]
noncomputable def tot(E:List (List (Nat×Nat))):Nat:=(E.map List.length).sum
noncomputable def nmD(rs:List Nat):List D:=rs.map λi:Nat=>D.int i
theorem eG(rs:List Nat):(nmD rs).length=rs.length:=by simp[nmD]
theorem fH(rs:List Nat):D.unds 0 (nmD rs)=M:=eN λ_ _=>rfl
abbrev Wk:=Nat×Nat×Nat
noncomputable def gJ(w:Wk):D:=.tup [.int w.1,.int w.2.1,.int w.2.2]
def fE(ws:List Wk):List D:=ws.map gJ
theorem xC(ws:List Wk):(fE ws).length=ws.length:=by simp[fE]
theorem xB(ws:List Wk):D.unds 0 (fE ws)=M:=eN λ_ _=>rfl
def eO(ws:List Wk)(cs:List Nat):D:=.tup [.tup (fE ws),.tup (nmD cs)]
theorem iy{ws:List Wk}{cs:List Nat}:(eO ws cs).und 0=M:=by simp[eO,D.und,D.unds,xB,fH]
noncomputable def gx(a b c d:Bool):List D:=(if a then[.str "came"]else[])++(if b then[.str "chalk"]else[])++(if c then[.str "doors"]else[])++(if d then[.str "others"]else[])
theorem Dv {xs:List D}(h:xs.Sublist [.str "came",.str "chalk",.str "doors",.str "others"]):∃a b c d,xs=gx a b c d:=by
 have one:∀{x:D} {l ys:List D},ys.Sublist (x::l) -> ∃(a:Bool) (zs:List D),zs.Sublist l/\ys=(if a then[x]else[])++zs:=by
  intro x l ys h;cases h with
  |cons _ h=>exact⟨J,ys,h,O⟩
  |cons_cons _ h=>exact⟨M,_,h,O⟩
 obtain⟨a,j,h1,rfl⟩:=one h;obtain⟨b,i,h2,rfl⟩:=one h1;obtain⟨c,k,f,rfl⟩:=one h2;obtain⟨d,g,e,rfl⟩:=one f;have:g=[]:=List.eq_nil_of_sublist_nil e;subst this;exact⟨a,b,c,d,by simp[gx]⟩
theorem Dw(a b c d:Bool):(gx a b c d).length<=4:=by cases a<;>cases b<;>cases c<;>cases d<;>decide
theorem vy(a b c d:Bool):D.unds 0 (gx a b c d)=M:=by cases a<;>cases b<;>cases c<;>cases d<;>rfl
theorem GL{a b c d:Bool}{S:Sto}:j7 (.str "came") (.tup (gx a b c d)) S=Z (.bl a,S):=by cases a<;>cases b<;>cases c<;>cases d<;>rfl
theorem Db{a b c d:Bool}{S:Sto}:j7 (.str "chalk") (.tup (gx a b c d)) S=Z (.bl b,S):=by cases a<;>cases b<;>cases c<;>cases d<;>rfl
theorem Da{a b c d:Bool}{S:Sto}:j7 (.str "doors") (.tup (gx a b c d)) S=Z (.bl c,S):=by cases a<;>cases b<;>cases c<;>cases d<;>rfl
theorem Ak{a b c d:Bool}{S:Sto}:j7 (.str "others") (.tup (gx a b c d)) S=Z (.bl d,S):=by cases a<;>cases b<;>cases c<;>cases d<;>rfl
theorem tT{S:Sto}{n:Nat}{x:Nat}:∀a:List Nat,Ez (jm S (n+1)) (.int x) (nmD a)=Z (a.contains x)
 |[]=>rfl
 |c::a=>by
  have b:jm S (n+1) (.int c) (.int x)=Z ((c:Int) == (x:Int)):=rfl;have d:((c:Int) == (x:Int))=(x == c):=by
   rw[bS,SV,SV];lia
  have ih:=tT (S:=S) (n:=n) (x:=x) a;rw[nmD,mP1,Ez,b,d];rw[nmD]at ih;rw[ih,b9];rfl
theorem C9{S:Sto}{x:Nat}{cs:List Nat}:j7 (.int x) (.tup (nmD cs)) S=Z (.bl (cs.contains x),S):=by
 simp only[j7,wX,Ls,ee,oS1,eu,show(60:Nat)=59+1 from rfl,tT,oP1]
noncomputable def wx(a b c d:Bool)(came chalk doors others:Int):D:=.tup [if a then .int came else .non,if b then .int chalk else .non,if c then .int doors else .non,if d then .int others else .non]
theorem zC{a b c d:Bool}{w x y z:Int}:(wx a b c d w x y z).und 0=M:=by cases a<;>cases b<;>cases c<;>cases d<;>rfl
theorem C3{κ:Type}[DecidableEq κ]{k:κ}:d6 ([]:List (κ×D)) k=Y:=rfl
theorem gg{κ:Type}[DecidableEq κ]{k a:κ}{d:D}{r:List (κ×D)}:d6 ((a,d)::r) k=if a=k then Z d else d6 r k:=by
 unfold d6;rw[bc];by_cases h:a=k
 ·simp[h]
 ·simp[h]
theorem px{κ:Type}[DecidableEq κ]{k:κ}{b:List (κ×D)}:∀{a:List (κ×D)},d6 (a++b) k=(d6 a k).or (d6 b k)
 |[]=>rfl
 |(x,d)::a=>by
  rw[bj,gg,gg,px (a:=a)];split<;>rfl
theorem kI{κ:Type}[DecidableEq κ]{k:κ}:∀{a:List (κ×D)},(a.any λp=>decide (p.1=k))=J->d6 a k=Y
 |[],_=>rfl
 |(x,d)::a,h=>by
  simp only[bd,Bool.or_eq_false_iff,decide_eq_false_iff_not]at h;rw[gg,aj h.1];exact kI h.2
theorem m5{κ:Type}[DecidableEq κ]{k k':κ}{v:D}:∀{a:List (κ×D)},(a.any λp=>decide (p.1=k))=M->d6 (a.map λp=>if p.1=k then(p.1,v)else p) k'=if k'=k then Z v else d6 a k'
 |[],h=>by simp at h
 |(x,d)::a,h=>by
  rw[mP1];by_cases f:x=k
  ·subst f;rw[ak (show(x,d).1=x from rfl)];rw[gg,gg];by_cases e:k'=x
   ·subst e;simp
   ·rw[aj (Qk e),aj (Qk e),aj e];by_cases g:(a.any λp=>decide (p.1=x))=M
    ·rw[m5 g,aj e]
    ·have:(a.map fun p=>if p.1=x then (p.1,v) else p)=a:=by
      have c:(a.any λp=>decide (p.1=x))=J:=cX.mpr g;rw[List.any_eq_false]at c
      conv=>rhs;rw[<- List.map_id a]
      apply cV;intro p i;have:=c p i;simp at this;simp[this]
     rw[this]
  ·simp only[bd,ai f,Bool.false_or]at h;rw[aj (show¬ (x,d).1=k from f)];rw[gg,gg,m5 h];by_cases b:x=k'
   ·subst b;simp[f]
   ·simp[b]
theorem fD{κ:Type}[DecidableEq κ]{k k':κ}{v:D}{a:List (κ×D)}:d6 (hO a k v) k'=if k'=k then Z v else d6 a k':=by
 unfold hO;split
 ·rename_i h;exact m5 h
 ·rename_i h;have h':(a.any λp=>decide (p.1=k))=J:=cX.mpr h;rw[px,gg,C3];by_cases b:k'=k
  ·subst b;rw[kI h',ak O];rfl
  ·rw[aj (Qk b),aj b];cases d6 a k'<;>rfl
theorem sV{κ:Type}[DecidableEq κ]{k:κ}{v:D}{a:List (κ×D)}:(hO a k v).length<=a.length+1:=by
 unfold hO;split
 ·rw[lM1];lia
 ·rw[lA1];simp
theorem IT{κ:Type}[DecidableEq κ]{k:κ}{v:D}{a:List (κ×D)}:hO a k v≠[]:=by
 unfold hO;split
 ·rename_i h;intro z;cases a with
  |nil=>simp at h
  |cons x xs=>simp at z
 ·simp
noncomputable def dO(F:List (TK×D)):Ob:=if F=[]then .dct []else .dcT F
theorem xm{U:Sto}{n:Nat}{F:List (TK×D)}{key v:D}{k:TK}{Q:D×Sto->Prop}(h:U[n]?=Z (dO F))(hk:keyT key=Z k)(b:F.length<1000)(q:Q (.non,U.set n (dO (hO F k v)))):W (jG (.ref n) key v U) Q:=by
 refine W.of ?_ q;unfold dO at h ⊢;rw[aj IT];by_cases a:F=[]
 ·subst a;rw[ak O]at h;simp only[jG,h,hk];rfl
 ·rw[aj a]at h;simp only[jG,h,hk,oS1];rw[ak (nL1 b (by decide))]
theorem En{U:Sto}{n:Nat}{F:List (TK×D)}{key v:D}{k:TK}{Q:D×Sto->Prop}(h:U[n]?=Z (dO F))(hk:keyT key=Z k)(hv:d6 F k=Z v)(q:Q (v,U)):W (dW (.ref n) key U) Q:=by
 refine W.of ?_ q;unfold dO at h;by_cases a:F=[]
 ·subst a;cases hv
 ·rw[aj a]at h;simp only[dW,h,hk,oS1,hv,oP1]
noncomputable def Lo(e:Nat×Nat):TK:=.tup [.int e.1,.int e.2]
theorem Ej{U:Sto}{n i:Nat}{xs:List D}{x:D}{Q:D×Sto->Prop}(h:U[n]?=Z (.lst xs))(hx:xs[i]?=Z x)(hb:i<1000)(q:Q (x,U.set n (.lst (xs.eraseIdx i)))):W (Ao (.ref n) (.int i) U) Q:=by
 have a:=(Tg hx).1;refine W.of ?_ q;simp only[Ao,h];rw[ak ⟨by lia,by lia⟩];simp only[Ag,ak (show(0:Int)<=i by lia)];rw[ak (by lia)];simp[hx]
theorem Dl{d:D}{S G:Sto}(hd:d.und 0=M)(a:S.all (Ob.und S.length)=M):gc S.length (d,S++G)=(d,S):=by
 unfold gc;dsimp only;rw[List.take_left,ak (by rw[iB hd,a];rfl)]
theorem Dk{d:D}{S V:Sto}(hd:d.und 0=M)(a:S.all (Ob.und S.length)=M)(hp:S <+: V):gc S.length (d,V)=(d,S):=by
 obtain⟨G,rfl⟩:=hp;exact Dl hd a
theorem Eg{m:FA}{r:Ev}{S:Sto}{xs ys:List D}{n:Nat}{Q:AQ×Sto->Prop}(hm:m r S=Z ([.tup xs,.ref n],S))(hn:S[n]?=Z (.lst ys))(q:Q (⟨xy xs ys,[(n,ys)]⟩,S)):W (HQ m r S) Q:=by
 refine W.of (x:=(⟨xy xs ys,[(n,ys)]⟩,S)) ?_ q;simp only[HQ,hm,oS1,iQ,fP hn,yX,oA hn,cY]
theorem we{α:Type}{f g:α->D}:∀l:List α,xy (l.map f) (l.map g)=l.map λx=>D.tup [f x,g x]
 |[]=>rfl
 |a::l=>by rw[mP1,mP1,xy,we l];rfl
theorem sy{m:FA}{r:Ev}{S:Sto}{xs:List D}{Q:AQ×Sto->Prop}(hm:m r S=Z ([.tup xs],S))(q:Q (⟨vD 0 xs,[]⟩,S)):W (qx m r S) Q:=by
 refine W.of (x:=(⟨vD 0 xs,[]⟩,S)) ?_ q;simp only[qx,hm,oS1,iQ,yX]
theorem w9{α:Type}{f:α->D}:∀(l:List α) (k:Nat),vD k (l.map f)=(l.zipIdx k).map λp=>D.tup [.int (p.2:Nat),f p.1]
 |[],_=>rfl
 |a::l,k=>by rw[mP1,vD,w9 l (k+1),bK];rfl
theorem qT{α:Type}{l:List α}{p:α×Nat}(h:p∈l.zipIdx):l[p.2]?=Z p.1:=by
 have:=cZ.mp h;exact this
theorem wf{α β:Type}(f:α->β)(l:List α):(l.zipIdx.map λp=>f p.1)=l.map f:=by
 have:(λp:α×Nat=>f p.1)=f∘Prod.fst:=rfl;rw[this,<- bu,List.zipIdx_map_fst]
mutual
theorem BI{n:Nat}:∀{d:D},d.und 0=M->d.sh n=d
 | .non,_=>rfl
 | .bl _,_=>rfl
 | .int _,_=>rfl
 | .str _,_=>rfl
 | .tup xs,h=>by rw[D.und]at h;rw[D.sh,lT h]
 | .rol xs,h=>by rw[D.und]at h;rw[D.sh,lT h]
 | .fn _,_=>rfl
 | .ref k,h=>by simp[D.und]at h
theorem lT{n:Nat}:∀{ds:List D},D.unds 0 ds=M->D.shs n ds=ds
 |[],_=>rfl
 |d::ds,h=>by
  rw[D.unds,bA1]at h;rw[D.shs,BI h.1,lT h.2]
end
theorem M4{n:Nat}{f:FN}{ds:List D}{S:Sto}{Q:D×Sto->Prop}(hn:ds.length=n)(b:D.unds 0 ds=M)(h:W (f ds []) λp=>∃xs,p=(.ref 0,[.lst xs])/\D.unds 0 xs=M/\Q (.ref S.length,S++[.lst xs])):W (dU n f ds S) Q:=by
 obtain⟨p,e,xs,rfl,c,q⟩:=h;refine⟨_,pX e hn b O,?_⟩;have a:(D.ref 0).sh S.length = .ref S.length:=rfl;have d:[Ob.lst xs].map (Ob.sh S.length)=[Ob.lst xs]:=by rw[mP1,aZ,Ob.sh,lT c]
 rw[a,d];exact q
theorem JX{ns:List Int}{k:Int}:k∈ddI ns↔k∈ns:=by
 have b:∀(ns a:List Int),k∈ns.foldl Sl a↔k∈a\/k∈ns:=by
  intro ns
  induction ns with
  |nil=>intro a;simp
  |cons n ns ih=>
   intro a;rw[b8,ih];have:k∈Sl a n↔k∈a\/k=n:=by
    unfold Sl;split
    ·rename_i h;obtain⟨x,c,e⟩:=bT.mp h;have e:=SV.mp e;subst e;constructor
     ·exact .inl
     ·rintro(z|z)
      ·exact z
      ·rw[z];exact c
    ·simp
   rw[this,aF,or_assoc]
 unfold ddI;rw[b];simp
theorem E3{xs:List Nat}{m:Nat}{f:Nat->Bool}(h:∀r,r∈xs↔r<m/\f r=M):hM (ddI (xs.map λ(r:Nat)=>(r:Int)))=((af m).filter f).map λ(r:Nat)=>(r:Int):=by
 refine l5 ?_ (i6 _) ?_
 ·refine(fy _).trans ?_;refine(List.perm_ext_iff_of_nodup (my _ [] bp) ?_).mpr λk=>?_
  ·refine c5.mpr ((List.nodup_range.filter f).imp λb z=>b (by lia))
  ·show k∈ddI _↔_;rw[JX,cc,cc];constructor
   ·rintro⟨r,a,rfl⟩;exact⟨r,aB.mpr ⟨aC.mpr ((h r).mp a).1,((h r).mp a).2⟩,O⟩
   ·rintro⟨r,a,rfl⟩;obtain⟨h1,h2⟩:=aB.mp a;exact⟨r,(h r).mpr ⟨aC.mp h1,h2⟩,O⟩
 ·refine c5.mpr ((List.pairwise_lt_range.sublist List.filter_sublist).imp λc=>by lia)
theorem yE(xs:List Nat):jy (nmD xs)=Z (xs.map λ(r:Nat)=>(r:Int)):=by
 induction xs with
 |nil=>rfl
 |cons x xs ih=>
  show(jy (nmD xs)).map _=_;rw[ih];rfl
theorem sx{S:Sto}{n:Nat}{xs:List Nat}{m:Nat}{f:Nat->Bool}{Q:D×Sto->Prop}(hn:S[n]?=Z (.lst (nmD xs)))(h:∀r,r∈xs↔r<m/\f r=M)(a:xs.length<64)(q:Q (.ref S.length,S++[.lst (nmD ((af m).filter f))])):W (jk (.ref n) S) Q:=by
 refine W.of (x:=(.ref S.length,S++[.lst (nmD ((af m).filter f))])) ?_ q;simp only[jk,fP hn,yE,oS1];rw[ak (by rw[lM1];exact a),E3 h,bu];rfl
end Mi
end
local macro_rules | `(tactic| walk_at"w") => `(tactic| simp only[Mi.d7, Mi.lI, Mi.ite_and', Mi.dY, Mi.lw, Mi.vZ, Mi.dZ, Mi.d4, Mi.fC, Mi.eD, Mi.fR, Mi.li, Mi.mN, Mi.dR, Mi.dS, Mi.m2, Mi.mV, Mi.mC, Mi.Ek, Mi.K9, Mi.mB, Mi.qw, Mi.CW, Mi.nZ, Mi.lj, Mi.u8, Mi.u9, Mi.fm, Mi.wb, Mi.Ip, Mi.gN, Mi.gT, Mi.gCs, Mi.gNl, Mi.gS, Mi.b1, Mi.b2, Mi.b3, Mi.hB, Mi.ic, Mi.mO, Mi.Em, Mi.Nd, Mi.Lq, Mi.Nu, Mi.fO, Mi.vn, Mi.Ep, Mi.jA, Mi.pI, Mi.GW, Mi.GP, Mi.GS, Mi.GV, Mi.PP, Mi.PN, Mi.OZ, Mi.PM, Mi.PK, Mi.PJ, true_and, Mi.eZ, Mi.d2, bG, lA1, c6, gC1, List.getElem?_nil, c7, cO, lC1, bf, mP1, aZ, Mi.Px, Mi.Pw, Mi.Pn, Mi.Pk, Mi.Pj, Mi.Pi, Mi.Ph, Mi.Pg, Mi.Pf, Mi.LU, Mi.N1, cY, bj, aN, c8, Nat.reduceSub, c9, Option.join_none, oP1, Option.map_none, oS1, Option.bind_none, Rf, Rc, bF1, b5, cI, ite_true, ite_false, reduceIte, Sz, SA, Mi.O2, Mi.PR, Mi.iu, Mi.iQ, Mi.Lc, Mi.Ld, Mi.Nc])
noncomputable section
namespace Law
local macro_rules | `(tactic| wp_walk using $e,*) => `(tactic| ((try walk_at"w");repeat(simp only[$[$e:term],*];try walk_at"w")))
open PySem PySem.Spec PyProof.Rows L2 Mi
noncomputable def top (i:Nat):dP:=PySem.Challenge.pw_ringmeet_k39_whole_alike_ones_never_meet.main.body.getD i (.Pass ⟨0,0,0,0⟩)
abbrev BL:List Str:=["all","bool","enumerate","int","isinstance","len","list","max","min","range","set","sorted","str","tuple","zip"]
noncomputable def kP:D:=(D.tup [(D.tup [(D.str "came"),(D.int 5)]),(D.tup [(D.str "chalk"),(D.int 2)]),(D.tup [(D.str "doors"),(D.int 5)]),(D.tup [(D.str "others"),(D.int 2)])])
section
variable{P:dD}{w:dF}{K:Fg1}{mg:Str->Option dz}{base h:dM}(X:K.In h) (G:h.Ns dG mg) (B:Blt BL mg)
include X G B
abbrev oT:dP:=top 1
def p7:FS:=(eD (lj (tI .int (mV 0)) (u8 (tI .bool (mV 0)))))
def gC:FN:=hB 1 p7
theorem uU {f:dB}(F:et K "is_whole" oT f):
  fe P w K mg base 1 "is_whole" 1 gC:=xq ["thing"] X G F λa=>
 (qG (qU (js (ii xv) (kA (xA (ii xv))))))
abbrev k6:dP:=top 3
def iZ:FS:=(eD (lj (tI .tuple (mV 0)) (m2 (b2 gEq) (mN (b1 eM) (dR (mV 0) dS)) (mV 1))))
def eT:FN:=hB 2 iZ
theorem pd {f:dB}(F:et K "is_tuple_of" k6 f):
  fe P w K mg base 1 "is_tuple_of" 2 eT:=xq ["thing","many"] X G F λa=>
 (qG (qU (js (ii xv) (kA (ce (oq je) (cn eR (a1 xv)) xv)))))
abbrev xS:dP:=top 7
def mZ:FS:=(dZ (d4 (mN (b1 gTup) (dR (eK 2 [2] (ia (mV 5)) (gT 2 (gCs (gN 0) (gCs (gN 1) gNl))) fm (eB (eQ (dR (m2 (b2 dW) (mV 2) (mV 0)) (dR (mV 1) dS))))) dS)) (gN 6))
  (fR (pr (b2 iX) (mV 3) (dR (eQ (dR (m2 (b2 dW) (mV 2) (mV 4)) (dR (m2 (b2 dW) (mV 1) (mV 4)) (dR (mV 6) dS)))) dS))))
def uh:FS:=(dZ (d4 (hZ dS) (gN 3))
  (dZ (fO (qx (dR (mV 0) dS)) (gT 2 (gCs (gN 4) (gCs (gN 5) gNl))) mZ)
  (eD (mV 3))))
def gP:FN:=hB 7 uh
theorem Cn {f:dB}(F:et K "looks" xS f):
  fe P w K mg base 1 "looks" 3 gP:=xq ["web","signs","colours","found","room","doors","led_to"] X G F λa=>
 (qF (sq (fv qN)) (qF (fo (ie (a1 xv)) (tg2 gq gq) (qF (sq (cz e6 (a1 (fk ["there","back"] (qd xv) ⟨(tg2 gq gq),eE,(d9 (a2 (jq xv xv) xv))⟩)))) (qG (lq ap xv (a1 (d9 (a3 (jq xv xv) (jq xv xv) xv))))))) (qG (qU xv))))
abbrev oS:dP:=top 10
def l7:FS:=(fC (mB (m2 (b2 kN) (mV 2) (mV 1))) (d4 (mN (b1 rR) (dR (mV 1) dS)) (gS (b3 jG) (mV 1) (mV 2))) li)
def p0:FS:=(dZ (d4 pu (gN 1))
  (dZ (fO (ia (mV 0)) (gN 2) l7)
  (eD (mN (b1 gTup) (dR (eK 1 [1] (ia (mV 0)) (gN 0) fm (eB (m2 (b2 dW) (mV 1) (mV 0)))) dS)))))
def gB:FN:=hB 3 p0
theorem uT {f:dB}(F:et K "numbered" oS f):
  fe P w K mg base 1 "numbered" 1 gB:=xq ["things","numbers","thing"] X G F λa=>
 (qF (sq oH) (qF (fo (qd xv) gq (qG (qV (ct (oq Cs) xv xv (by with_unfolding_all rfl)) (qG (qR (cn K3 (a1 xv)) (lN xv xv (oR a.units)))) qQ))) (qG (qU (cz e6 (a1 (fk ["thing"] (qd xv) ⟨gq,eE,(jq xv xv)⟩)))))))
abbrev lV:dP:=top 11
def jC:FS:=(eD (m2 (b2 gEq) (mN (b1 rQ) (dR (mN (b1 iU) (dR (mV 0) dS)) dS)) (mN (b1 eM) (dR (mV 0) dS))))
def ff:FN:=hB 1 jC
theorem qp {f:dB}(F:et K "all_unlike" lV f):
  fe P w K mg base 1 "all_unlike" 1 ff:=xq ["colours"] X G F λa=>
 (qG (qU (ce (oq je) (cn DV (a1 (cz (DU a) (a1 xv)))) (cn eR (a1 xv)))))
abbrev k7:dP:=top 13
def lr:FS:=(eD (mN (b1 gTup) (dR (eK 1 [1] (oa (dR (mN (b1 eM) (dR (mV 0) dS)) dS)) (gN 0) fm (eB (u9 (mB (m2 (b2 j7) (mV 0) (mV 1))) (mC (D.int 1)) (mC (D.int 0))))) dS)))
def eU:FN:=hB 2 lr
theorem pf {f:dB}(F:et K "chalk_signs" k7 f):
  fe P w K mg base 1 "chalk_signs" 2 eU:=xq ["web","chalk"] X G F λa=>
 (qG (qU (cz e6 (a1 (fk ["room"] (ir (a1 (cn eR (a1 xv)))) ⟨gq,eE,(lA (ct (oq rz) xv xv (by with_unfolding_all rfl)) qK qK)⟩)))))
abbrev uD:dP:=top 22
def wG:FS:=(dZ (d4 (u9 (mB (m2 (b2 j7) (mV 2) (mV 0))) (Aa (dR (mV 3) dS)) (hZ (dR (mC D.non) dS))) (gN 4))
  (d4 (eK 2 [4] (ia (mV 1)) (gN 0) fm (Du (ia (mV 2)) (gN 1) fm (eB (m2 (b2 gj) (mV 0) (eQ (dR (mV 1) dS)))))) (gN 1)))
def D2:FS:=(dZ (d4 (hZ (dR (eQ dS) dS)) (gN 1))
  (dZ (fO (ia (mC kP)) (gT 2 (gCs (gN 2) (gCs (gN 3) gNl))) wG)
  (eD (mN (b1 gTup) (dR (mV 1) dS)))))
def jZ:FN:=hB 5 D2
theorem zP {f:dB}(F:et K "sights" uD f)(a:CGl K mg "PARTS" kP):
  fe P w K mg base 1 "sights" 1 jZ:=xq ["eyes","found","eye","many","parts"] X G F λb=>
 (qF (sq (fv (a1 (d9 qN)))) (qF (fo (qd (oG a O)) (tg2 gq gq) (qF (sq (lA (ct (oq rz) xv xv (by with_unfolding_all rfl)) (oF O O (bz B) O (bz B) (a1 xv)) (fv (a1 iO)))) (qG (zm 1 O (T:=["sight","part"]) (keep:=[4]) ⟨O,by decide+kernel,(kc "parts" (cU _))⟩ O (qd xv) (λ_ _ _=>⟨gq,eE,(qd xv),gq,eE,(qI gl xv (d9 (a1 xv)))⟩) (gW O) O (by first|exact Ta rfl|exact Tb rfl))))) (qG (qU (cz e6 (a1 xv))))))
abbrev oV:dP:=top 24
def l9:FT:=(mB (m2 (b2 gLt) (mV 2) (mV 3)))
def l8:FS:=(dZ (d4 (m2 (b2 oe) (m2 (b2 gj) (mV 2) (mV 3)) (mC (D.int 2))) (gN 4))
  (fC (mB (m2 (b2 gLt) (m2 (b2 dW) (m2 (b2 dW) (m2 (b2 dW) (mV 0) (mV 4)) (mC (D.int 0))) (mC (D.int 0))) (mV 1))) (d4 (m2 (b2 gj) (mV 4) (mC (D.int 1))) (gN 2)) (d4 (mV 4) (gN 3))))
def p9:FS:=(dZ (d4 (mC (D.int 0)) (gN 2))
  (dZ (d4 (mN (b1 eM) (dR (mV 0) dS)) (gN 3))
  (dZ (q9 l9 l8 100000)
  (eD (mV 2)))))
def iM:FN:=hB 5 p9
theorem uW {f:dB}(F:et K "first_of" oV f):
  fe P w K mg base 1 "first_of" 2 iM:=xq ["rows","mood","low","high","middle"] X G F λa=>
 (qF (sq qK) (qF (sq (cn eR (a1 xv))) (qF (i3 100000 S9 (ct (oq lf) xv xv) (qF (sq (qI uX (qI gl xv xv) qK)) (qG (qV (ct (oq lf) (jq (jq (jq xv xv) qK) qK) xv) (qG (sq (qI gl xv qK))) (qG (sq xv)))))) (qG (qU xv)))))
abbrev xT:dP:=top 26
def za:FS:=(dZ (d4 (mV 0) (gT 2 (gCs (gN 1) (gCs (gN 2) gNl))))
  (eD (eQ (dR (mN (b1 gTup) (dR (eK 1 [] (ia (mV 1)) (gN 0) fm (eB (eQ (dR (mV 0) (dR (mC (D.int 0)) (dR (mC (D.int 0)) dS)))))) dS)) (dR (mV 2) dS)))))
def mj:FN:=hB 3 za
theorem Co {f:dB}(F:et K "begun" xT f):
  fe P w K mg base 1 "begun" 1 mj:=xq ["standing","rooms","chalk"] X G F λa=>
 (qF (qR xv (tg2 gq gq)) (qG (qU (d9 (a2 (cz e6 (a1 (fk ["room"] (qd xv) ⟨gq,eE,(d9 (a3 xv qK qK))⟩))) xv)))))
abbrev oQ:dP:=top 27
def pZ:FS:=(dZ (d4 (mV 2) (gT 2 (gCs (gN 4) (gCs (gN 5) gNl))))
  (dZ (d4 (m2 (b2 dW) (mV 4) (mV 3)) (gT 3 (gCs (gN 6) (gCs (gN 7) (gCs (gN 8) gNl)))))
  (dZ (d4 (eK 1 [6] (ia (mV 4)) (gN 0) (mB (m2 (b2 gEq) (m2 (b2 dW) (mV 0) (mC (D.int 0))) (mV 1))) (eB (mV 0))) (gN 9))
  (dZ (d4 (yp [((mC (D.str "came")),(mV 7)),((mC (D.str "chalk")),(u9 (mB (m2 (b2 j7) (mV 6) (mV 5))) (mC (D.int 1)) (mC (D.int 0)))),((mC (D.str "doors")),(mN (b1 eM) (dR (m2 (b2 dW) (mV 0) (mV 6)) dS))),((mC (D.str "others")),(u9 (mB (m2 (b2 (jA λi j=>decide (j<i))) (mN (b1 eM) (dR (mV 9) dS)) (mC (D.int 1)))) (mC (D.int 1)) (mC (D.int 0))))]) (gN 10))
  (eD (mN (b1 gTup) (dR (eK 2 [1,10] (ia (mC kP)) (gT 2 (gCs (gN 0) (gCs (gN 1) gNl))) fm (eB (u9 (mB (m2 (b2 j7) (mV 0) (mV 2))) (m2 (b2 dW) (mV 3) (mV 0)) (mC D.non)))) dS)))))))
def iL:FN:=hB 11 pZ
theorem uS {f:dB}(F:et K "sight_of" oQ f)(a:CGl K mg "PARTS" kP):
  fe P w K mg base 1 "sight_of" 4 iL:=xq ["web","eyes","whole","k","walkers","chalk","room","came","mood","here","parts"] X G F λb=>
 (qF (qR xv (tg2 gq gq)) (qF (qR (jq xv xv) (kw O (eJ gq (eJ gq (eJ gq i4))))) (qF (ix 9 O (T:=["other"]) (keep:=[6]) ⟨O,by decide+kernel,(kc "room" (cU _))⟩ O (qd xv) (λ_ _ _=>⟨gq,(gI (ct (oq je) (jq xv qK) xv)),xv⟩) (gW O) O (by first|exact Ta rfl|exact Tb rfl)) (qF (sq (A4 (lM fu xv (lM fu (lA (ct (oq rz) xv xv (by with_unfolding_all rfl)) qK qK) (lM fu (cn eR (a1 (jq xv xv))) (lM fu (lA (ct FZ (cn eR (a1 xv)) qK) qK qK) EL)))))) (qG (qU (cz e6 (a1 (fk ["eye","many"] (qd (oG a rfl)) ⟨(tg2 gq gq),eE,(lA (ct (oq rz) xv xv (by with_unfolding_all rfl)) (jq xv xv) iO)⟩)))))))))
abbrev ri:dP:=top 31
def su:FS:=(dZ (d4 (mV 0) (gT 2 (gCs (gN 2) (gCs (gN 3) gNl))))
  (dZ (d4 (eK 2 [] (HQ (dR (mV 2) (dR (mV 1) dS))) (gT 2 (gCs (gN 0) (gCs (gN 1) gNl))) (mB (m2 (b2 gEq) (m2 (b2 dW) (mV 1) (mC (D.int 1))) (mC (D.str "mark")))) (eB (m2 (b2 dW) (mV 0) (mC (D.int 0))))) (gN 4))
  (dZ (d4 (eK 2 [] (HQ (dR (mV 2) (dR (mV 1) dS))) (gT 2 (gCs (gN 0) (gCs (gN 1) gNl))) (mB (m2 (b2 gEq) (m2 (b2 dW) (mV 1) (mC (D.int 1))) (mC (D.str "wipe")))) (eB (m2 (b2 dW) (mV 0) (mC (D.int 0))))) (gN 5))
  (dZ (d4 (eK 1 [5] (ia (mV 3)) (gN 0) (mB (m2 (b2 gh) (mV 0) (mV 1))) (eB (mV 0))) (gN 6))
  (eD (mN (b1 gTup) (dR (mN (b1 jk) (dR (m2 (b2 gj) (mV 6) (mV 4)) dS)) dS)))))))
def ji:FN:=hB 7 su
theorem wK {f:dB}(F:et K "handled" ri f):
  fe P w K mg base 1 "handled" 2 ji:=xq ["whole","deeds","walkers","chalk","marked","wiped","left"] X G F λa=>
 (qF (qR xv (tg2 gq gq)) (qF (ix 4 O (T:=["walker","deed"]) (keep:=[]) ⟨O,by decide+kernel,(cU _)⟩ O (sB O (bz B) (a2 xv xv)) (λ_ _ _=>⟨(tg2 gq gq),(gI (ct (oq je) (jq xv qK) fu)),(jq xv qK)⟩) (gW O) O (by first|exact Ta rfl|exact Tb rfl)) (qF (sq (fk ["walker","deed"] (sB rfl (bz B) (a2 xv xv)) ⟨(tg2 gq gq),(gI (ct (oq je) (jq xv qK) fu)),(jq xv qK)⟩)) (qF (ix 6 rfl (T:=["room"]) (keep:=[5]) ⟨rfl,by decide+kernel,(kc "wiped" (cU _))⟩ rfl (qd xv) (λ_ _ _=>⟨gq,(gI (ct (oq pj) xv xv (by with_unfolding_all rfl))),xv⟩) (gW O) O (by first|exact Ta rfl|exact Tb rfl)) (qG (qU (cz e6 (a1 (q0 rfl rfl (bz B) rfl (bz B) (qI gl xv xv))))))))))
abbrev rf:dP:=top 32
def sr:FS:=(dZ (d4 (mV 1) (gT 3 (gCs (gN 3) (gCs (gN 4) (gCs (gN 5) gNl)))))
  (dZ (d4 (mV 2) (gT 3 (gCs (gN 6) (gCs (gN 7) (gCs (gN 8) gNl)))))
  (dZ (fC (CW (mB (m2 (b2 wW) (mV 8) (mC D.non))) (mB (m2 (b2 (jA λi j=>decide (j<=i))) (mV 8) (mN (b1 eM) (dR (m2 (b2 dW) (mV 0) (mV 3)) dS))))) (eD (eQ (dR (mV 3) (dR (mV 4) (dR (mV 6) dS))))) li)
  (dZ (d4 (m2 (b2 dW) (m2 (b2 dW) (mV 0) (mV 3)) (mV 8)) (gT 2 (gCs (gN 9) (gCs (gN 10) gNl))))
  (eD (eQ (dR (mV 9) (dR (m2 (b2 gj) (mC (D.int 1)) (mV 10)) (dR (mV 6) dS)))))))))
def jg:FN:=hB 11 sr
theorem wI {f:dB}(F:et K "stepped" rf f):
  fe P w K mg base 1 "stepped" 3 jg:=xq ["web","walker","deed","room","came","past","mood","hand","step","there","back"] X G F λa=>
 (qF (qR xv (kw O (eJ gq (eJ gq (eJ gq i4))))) (qF (qR xv (kw O (eJ gq (eJ gq (eJ gq i4))))) (qF (qV (kY (lz (ct HG xv iO) (lK (ct Mh xv (cn eR (a1 (jq xv xv))))))) (qG (qU (d9 (a3 xv xv xv)))) qQ) (qF (qR (jq (jq xv xv) xv) (tg2 gq gq)) (qG (qU (d9 (a3 xv (qI gl qK xv) xv))))))))
abbrev uF:dP:=top 33
def vW:FS:=(dZ (d4 (m2 (b2 dW) (m2 (b2 dW) (m2 (b2 dW) (mV 0) (mC (D.int 0))) (mC (D.int 0))) (mC (D.int 0))) (gN 1))
  (eD (mN (b1 qy) (dR (eK 3 [1] (ia (m2 (b2 dW) (mV 0) (mC (D.int 0)))) (gT 3 (gCs (gN 0) (gCs (gN 1) (gCs (gN 2) gNl)))) fm (eB (m2 (b2 gEq) (mV 0) (mV 3)))) dS))))
def j0:FN:=hB 2 vW
theorem zQ {f:dB}(F:et K "is_met" uF f):
  fe P w K mg base 1 "is_met" 1 j0:=xq ["whole","first"] X G F λa=>
 (qF (sq (jq (jq (jq xv qK) qK) qK)) (qG (qU (cn (DX O) (a1 (fk ["room","came","mood"] (qd (jq xv qK)) ⟨(kw O (eJ gq (eJ gq (eJ gq i4)))),eE,(ce (oq je) xv xv)⟩))))))
abbrev nA:dP:=top 35
def kh:FS:=(dZ (d4 (mC (D.int 0)) (gN 2))
  (dZ (fC (mB (m2 (b2 gLt) (mV 1) (mN (b1 eM) (dR (mV 0) dS)))) (d4 (m2 (b2 dW) (mV 0) (mV 1)) (gN 2)) li)
  (dZ (d4 (m2 (b2 ni) (m2 (b2 wU) (mC (D.int 10)) (mC (D.int 60))) (m2 (b2 wU) (mC (D.int 10)) (mC (D.int 30)))) (gN 3))
  (eD (hZ (dR (m2 (b2 ni) (m2 (b2 ms) (mV 2) (mV 3)) (mN (b1 pI) (dR (m2 (b2 (jA λi j=>decide (j<=i))) (mV 2) (m2 (b2 wU) (mC (D.int 10)) (mC (D.int 18)))) dS))) (dR (m2 (b2 ms) (m2 (b2 gj) (m2 (b2 gj) (m2 (b2 ms) (mV 2) (mC (D.int 2305843009213693951))) (m2 (b2 ni) (mC (D.int 7919)) (mV 1))) (mC (D.int 5))) (mC (D.int 2305843009213693951))) (dR (mC (D.int 0)) dS))))))))
def fZ:FN:=hB 4 kh
theorem tw {f:dB}(F:et K "_law_hand" nA f):
  fe P w K mg base 1 "_law_hand" 2 fZ:=xq ["_law_script","_law_k","_law_cell","_law_far"] X G F λa=>
 (qF (sq qK) (qF (qV (ct (oq lf) xv (cn eR (a1 xv))) (qG (sq (jq xv xv))) qQ) (qF (sq (qI nI (qI Cr qK qK) (qI Cr qK qK))) (qG (qU (fv (a3 (qI nI (qI nJ xv xv) (cz vV (a1 (ce Mh xv (qI Cr qK qK))))) (qI nJ (qI gl (qI gl (qI nJ xv qK) (qI nI qK xv)) qK) qK) qK)))))))
abbrev ny:dP:=top 36
def ke:FS:=(dZ (fC (mB (m2 (b2 (jA fun i j=>decide (j<i))) (m2 (b2 dW) (mV 0) (mC (D.int 0))) (mC (D.int 0)))) (dZ (d4 (m2 (b2 ms) (m2 (b2 dW) (mV 0) (mC (D.int 0))) (mV 1)) (gN 2))
  (dZ (d4 (m2 (b2 oe) (m2 (b2 dW) (mV 0) (mC (D.int 0))) (mV 1)) (gS (b3 jG) (mV 0) (mC (D.int 0))))
  (eD (mV 2)))) li)
  (dZ (d4 (m2 (b2 gj) (m2 (b2 dW) (mV 0) (mC (D.int 2))) (mC (D.int 1))) (gS (b3 jG) (mV 0) (mC (D.int 2))))
  (dZ (d4 (m2 (b2 ms) (m2 (b2 ni) (m2 (b2 gj) (m2 (b2 gj) (m2 (b2 dW) (mV 0) (mC (D.int 1))) (m2 (b2 ni) (m2 (b2 ni) (mC (D.int 9973)) (m2 (b2 dW) (mV 0) (mC (D.int 2)))) (m2 (b2 dW) (mV 0) (mC (D.int 2))))) (mC (D.int 17))) (mC (D.int 69621))) (mC (D.int 2305843009213693921))) (gN 3))
  (dZ (d4 (m2 (b2 ms) (m2 (b2 ni) (mV 3) (m2 (b2 gj) (m2 (b2 ms) (mV 3) (mC (D.int 999983))) (m2 (b2 ni) (mC (D.int 7919)) (m2 (b2 dW) (mV 0) (mC (D.int 2)))))) (mC (D.int 2305843009213693907))) (gN 3))
  (eD (m2 (b2 ms) (m2 (b2 gj) (m2 (b2 oe) (mV 3) (mC (D.int 101))) (m2 (b2 oe) (mV 3) (mC (D.int 1000003)))) (mV 1)))))))
def dX:FN:=hB 4 ke
theorem tq {f:dB}(F:et K "_law_take" ny f):
  fe P w K mg base 1 "_law_take" 2 dX:=xq ["_law_hand_here","_law_many","_law_digit","_law_mixed"] X G F λa=>
 (qF (qV (ct FZ (jq xv qK) qK) (qF (sq (qI nJ (jq xv qK) xv)) (qF (qR (qI uX (jq xv qK) xv) (lN xv qK (oR a.units))) (qG (qU xv)))) qQ) (qF (qR (qI gl (jq xv qK) qK) (lN xv qK (oR a.units))) (qF (sq (qI nJ (qI nI (qI gl (qI gl (jq xv qK) (qI nI (qI nI qK (jq xv qK)) (jq xv qK))) qK) qK) qK)) (qF (sq (qI nJ (qI nI xv (qI gl (qI nJ xv qK) (qI nI qK (jq xv qK)))) qK)) (qG (qU (qI nJ (qI gl (qI uX xv qK) (qI uX xv qK)) xv)))))))
abbrev oU:dP:=top 2
def p8:FS:=(eD (lj (mN (dU 1 gC) (dR (mV 0) dS)) (Mr (b2 (jA λi j=>decide (i<=j))) (b2 gLt) (mC (D.int 0)) (mV 0) (mV 1))))
def g6:FN:=hB 2 p8
theorem uV {f:dB}(F:et K "is_below" oU f)(a:fe P w K mg base 1 "is_whole" 1 gC):
  fe P w K mg base 2 "is_below" 2 g6:=xq ["thing","bound"] X G F λb=>
 (qG (qU (js (wn a (a1 xv)) (kA (zl N8 (oq lf) qK xv xv)))))
abbrev nt:dP:=top 4
def nP:FS:=(eD (lj (mN (dU 2 eT) (dR (mV 0) (dR (mV 2) dS))) (lj (tI .str (m2 (b2 dW) (mV 0) (mC (D.int 0)))) (m2 (b2 gEq) (m2 (b2 dW) (mV 0) (mC (D.int 0))) (mV 1)))))
def gE:FN:=hB 3 nP
theorem s9 {f:dB}(F:et K "is_headed" nt f)(a:fe P w K mg base 1 "is_tuple_of" 2 eT):
  fe P w K mg base 2 "is_headed" 3 gE:=xq ["thing","word","many"] X G F λb=>
 (qG (qU (js (wn a (a2 xv xv)) (js (ii (jq xv qK)) (kA (ce (oq je) (jq xv qK) xv))))))
abbrev jR:dP:=top 6
def kb:FS:=(dZ (fC (CW (nZ (wb (mN (dU 2 eT) (dR (mV 2) (dR (mN (b1 eM) (dR (mV 0) dS)) dS))))) (nZ (wb (mN (b1 qy) (dR (eK 1 [] (ia (mV 2)) (gN 0) fm (eB (mN (dU 1 gC) (dR (mV 0) dS)))) dS))))) (eD (mC (D.bl false))) li)
  (eD (m2 (b2 gEq) (mN (b1 j6) (dR (mN (dU 3 gP) (dR (mV 0) (dR (mV 1) (dR (mV 2) dS)))) dS)) (mN (b1 rQ) (dR (mN (b1 iU) (dR (mV 2) dS)) dS)))))
def fj:FN:=hB 3 kb
theorem nW {f:dB}(F:et K "is_colouring" jR f)(b:fe P w K mg base 1 "is_tuple_of" 2 eT)(d:fe P w K mg base 1 "is_whole" 1 gC)(c:fe P w K mg base 1 "looks" 3 gP):
  fe P w K mg base 2 "is_colouring" 3 fj:=xq ["web","signs","thing"] X G F λa=>
 (qF (qV (kY (lz (ku (gH (wn b (a2 xv (cn eR (a1 xv)))))) (lK (ku (gH (cn (DX O) (a1 (fk ["number"] (qd xv) ⟨gq,eE,(wn d (a1 xv))⟩)))))))) (qG (qU fU)) qQ) (qG (qU (ce (oq je) (A3 O a.units O (bz B) O (bz B) (wn c (a3 xv xv xv))) (cn DV (a1 (cz (DU a) (a1 xv))))))))
abbrev rh:dP:=top 9
def nE:FT:=(mB (m2 (b2 wV) (mV 4) (mV 3)))
def nD:FS:=(dZ (d4 (mV 4) (gN 3))
  (d4 (va 2 "numbered" (dU 1 gB) (dR (mN (dU 3 gP) (dR (mV 0) (dR (mV 1) (dR (mV 3) dS)))) dS)) (gN 4)))
def ss:FS:=(dZ (d4 (mN (b1 gTup) (dR (eK 1 [] (ia (mV 0)) (gN 0) fm (eB (mC (D.int 0)))) dS)) (gN 3))
  (dZ (d4 (va 2 "numbered" (dU 1 gB) (dR (mN (dU 3 gP) (dR (mV 0) (dR (mV 1) (dR (mV 3) dS)))) dS)) (gN 4))
  (dZ (q9 nE nD 100000)
  (eD (mV 3)))))
def jh:FN:=hB 5 ss
theorem wJ {f:dB}(F:et K "refined" rh f)(a:fe P w K mg base 1 "looks" 3 gP)(b:fe P w K mg base 1 "numbered" 1 gB):
  fe P w K mg base 2 "refined" 3 jh:=xq ["web","signs","numbering","colours","finer"] X G F λc=>
 (qF (sq (cz e6 (a1 (fk ["room"] (qd xv) ⟨gq,eE,qK⟩)))) (qF (sq (q3 2 b c (by first|decide|omega) rfl (by first|exact Ta rfl|exact Tb rfl) (a1 (wn a (a3 xv xv xv))))) (qF (i3 100000 S9 (ct (oq wM) xv xv) (qF (sq xv) (qG (sq (q3 2 b c (by first|decide|omega) rfl (by first|exact Ta rfl|exact Tb rfl) (a1 (wn a (a3 xv xv xv)))))))) (qG (qU xv)))))
abbrev nw:dP:=top 14
def nR:FS:=(dZ (d4 (mV 1) (gT 2 (gCs (gN 2) (gCs (gN 3) gNl))))
  (dZ (d4 (mN (dU 2 eU) (dR (mV 0) (dR (mV 3) dS))) (gN 4))
  (eD (mN (b1 gTup) (dR (eK 2 [2] (qx (dR (mV 4) dS)) (gT 2 (gCs (gN 0) (gCs (gN 1) gNl))) fm (eB (u9 (mB (m2 (b2 j7) (mV 0) (mV 2))) (m2 (b2 gj) (mV 1) (mC (D.int 2))) (mV 1)))) dS)))))
def fW:FN:=hB 5 nR
theorem tm {f:dB}(F:et K "all_signs" nw f)(a:fe P w K mg base 1 "chalk_signs" 2 eU):
  fe P w K mg base 2 "all_signs" 2 fW:=xq ["web","standing","rooms","chalk","signs"] X G F λb=>
 (qF (qR xv (tg2 gq gq)) (qF (sq (wn a (a2 xv xv))) (qG (qU (cz e6 (a1 (fk ["room","sign"] (ie (a1 xv)) ⟨(tg2 gq gq),eE,(lA (ct (oq rz) xv xv (by with_unfolding_all rfl)) (qI gl xv qK) xv)⟩)))))))
abbrev rj:dP:=top 23
def nH:FT:=(qw (mB (m2 (b2 gLt) (mV 4) (mN (b1 eM) (dR (mV 3) dS)))) (mB (m2 (b2 gEq) (m2 (b2 dW) (m2 (b2 dW) (m2 (b2 dW) (mV 3) (mV 4)) (mC (D.int 0))) (mC (D.int 0))) (mV 1))))
def nG:FS:=(dZ (fC (mB (m2 (b2 gEq) (m2 (b2 dW) (m2 (b2 dW) (m2 (b2 dW) (mV 3) (mV 4)) (mC (D.int 0))) (mC (D.int 1))) (mV 2))) (eD (m2 (b2 dW) (m2 (b2 dW) (mV 3) (mV 4)) (mC (D.int 1)))) li)
  (Gm 4 (b2 Do) (mC (D.int 1))))
def sv:FS:=(dZ (d4 (m2 (b2 dW) (mV 0) (mC (D.int 1))) (gN 3))
  (dZ (d4 (mN (dU 2 iM) (dR (mV 3) (dR (mV 1) dS))) (gN 4))
  (dZ (q9 nH nG 100000)
  (eD (eQ (dR (mV 1) (dR (mC (D.str "leave")) (dR (mC D.non) dS))))))))
def g9:FN:=hB 5 sv
theorem wL {f:dB}(F:et K "deed_of" rj f)(a:fe P w K mg base 1 "first_of" 2 iM):
  fe P w K mg base 2 "deed_of" 3 g9:=xq ["machine","mood","sight","rows","at"] X G F λb=>
 (qF (sq (jq xv qK)) (qF (sq (wn a (a2 xv xv))) (qF (i3 100000 S9 (kY (kr (ct (oq lf) xv (cn eR (a1 xv))) (jL (ct (oq je) (jq (jq (jq xv xv) qK) qK) xv)))) (qF (qV (ct (oq je) (jq (jq (jq xv xv) qK) qK) xv) (qG (qU (jq (jq xv xv) qK))) qQ) (qG (EK 4 (gW O) O (by first|exact Ta rfl|exact Tb rfl) qK GI)))) (qG (qU (d9 (a3 xv fu iO)))))))
abbrev xP:dP:=top 28
def yZ:FS:=(eD (eK 2 [0,1,2] (qx (dR (m2 (b2 dW) (mV 2) (mC (D.int 0))) dS)) (gT 2 (gCs (gN 0) (gCs (gN 1) gNl))) fm (eB (eQ (dR (m2 (b2 dW) (mV 1) (mC (D.int 2))) (dR (mN (dU 4 iL) (dR (mV 2) (dR (mV 3) (dR (mV 4) (dR (mV 0) dS))))) dS))))))
def mf:FN:=hB 3 yZ
theorem Cj {f:dB}(F:et K "wants" xP f)(a:fe P w K mg base 1 "sight_of" 4 iL):
  fe P w K mg base 2 "wants" 3 mf:=xq ["web","eyes","whole"] X G F λb=>
 (qG (qU (fk ["k","walker"] (ie (a1 (jq xv qK))) ⟨(tg2 gq gq),eE,(d9 (a2 (jq xv qK) (wn a (qA xv (a3 xv xv xv)))))⟩)))
abbrev xR:dP:=top 30
def y3:FS:=(dZ (d4 (mV 1) (gT 2 (gCs (gN 3) (gCs (gN 4) gNl))))
  (dZ (d4 (eK 2 [0] (HQ (dR (mV 3) (dR (mV 2) dS))) (gT 2 (gCs (gN 0) (gCs (gN 1) gNl))) fm (eB (mN (dU 3 jg) (dR (mV 2) (dR (mV 0) (dR (mV 1) dS)))))) (gN 5))
  (eD (eQ (dR (mN (b1 gTup) (dR (mV 5) dS)) (dR (mN (dU 2 ji) (dR (mV 1) (dR (mV 2) dS))) dS))))))
def mh:FN:=hB 6 y3
theorem Cm {f:dB}(F:et K "moved" xR f)(b:fe P w K mg base 1 "handled" 2 ji)(a:fe P w K mg base 1 "stepped" 3 jg):
  fe P w K mg base 2 "moved" 3 mh:=xq ["web","whole","deeds","walkers","chalk","behind"] X G F λc=>
 (qF (qR xv (tg2 gq gq)) (qF (ix 5 O (T:=["walker","deed"]) (keep:=[0]) ⟨O,by decide+kernel,(kc "web" (cU _))⟩ O (sB O (bz B) (a2 xv xv)) (λ_ _ _=>⟨(tg2 gq gq),eE,(wn a (a3 xv xv xv))⟩) (gW O) O (by first|exact Ta rfl|exact Tb rfl)) (qG (qU (d9 (a2 (cz e6 (a1 xv)) (wn b (a2 xv xv))))))))
abbrev k8:dP:=top 37
def im:FT:=(mB (m2 (b2 wV) (mV 4) (hZ dS)))
def il:FS:=(fR (pr (b2 iX) (mV 5) (dR (pr (b2 Ao) (mV 4) (dR (mN (dU 2 dX) (dR (mV 0) (dR (mN (b1 eM) (dR (mV 4) dS)) dS))) dS)) dS)))
def ik:FS:=(dZ (d4 (eQ (dR (mN (b1 GT) (dR (mV 3) dS)) (dR (hZ dS) dS))) (gT 2 (gCs (gN 4) (gCs (gN 5) gNl))))
  (dZ (q9 im il 100000)
  (fR (pr (b2 iX) (mV 2) (dR (mV 5) dS)))))
def ij:FS:=(fR (pr (b2 iX) (pv (mV 6) (mV 9) (hZ dS)) (dR (eQ (dR (mV 7) (dR (mV 8) dS))) dS)))
def jD:FS:=(fO (qx (dR (mV 5) dS)) (gT 2 (gCs (gN 8) (gCs (gN 9) gNl))) ij)
def ls:FS:=(dZ (d4 (hZ dS) (gN 2))
  (dZ (fO (ia (mV 1)) (gN 3) ik)
  (dZ (d4 pu (gN 6))
  (dZ (fO (qx (dR (mV 2) dS)) (gT 2 (gCs (gN 7) (gCs (gN 5) gNl))) jD)
  (eD (mN (b1 gTup) (dR (eK 2 [6] (qx (dR (mV 2) dS)) (gT 2 (gCs (gN 0) (gCs (gN 1) gNl))) fm (eB (mN (b1 gTup) (dR (eK 2 [2,0] (qx (dR (mV 1) dS)) (gT 2 (gCs (gN 0) (gCs (gN 1) gNl))) fm (eB (m2 (b2 dW) (m2 (b2 dW) (mV 2) (mV 1)) (mN (b1 pI) (dR (m2 (b2 gEq) (m2 (b2 dW) (m2 (b2 dW) (mV 2) (mV 1)) (mC (D.int 0))) (eQ (dR (mV 3) (dR (mV 0) dS)))) dS))))) dS)))) dS)))))))
def gr:FN:=hB 10 ls
theorem ph {f:dB}(F:et K "_law_doored" k8 f)(a:fe P w K mg base 1 "_law_take" 2 dX):
  fe P w K mg base 2 "_law_doored" 2 gr:=xq ["_law_hand_here","_law_ends","_law_rows","_law_some","_law_left","_law_row","_law_places","_law_room","_law_door","_law_way"] X G F λb=>
 (qF (sq (fv qN)) (qF (fo (qd xv) gq (qF (jr 4 5 O (gW O) O O (by decide) O O (a2 (cz K1 (a1 xv)) (fv qN))) (qF (i3 100000 S9 (ct (oq wM) xv (fv qN)) (qG (lq ap xv (a1 (qe PySem.F.slot_list_pop PySem.F.type_list_pop HA xv (a1 (wn a (a2 xv (cn eR (a1 xv)))))))))) (qG (lq ap xv (a1 xv)))))) (qF (sq oH) (qF (fo (ie (a1 xv)) (tg2 gq gq) (qG (fo (ie (a1 xv)) (tg2 gq gq) (qG (lq ap (EM xv xv (fv qN)) (a1 (d9 (a2 xv xv)))))))) (qG (qU (cz e6 (a1 (fk ["_law_room","_law_row"] (ie (a1 xv)) ⟨(tg2 gq gq),eE,(cz e6 (a1 (fk ["_law_door","_law_way"] (ie (a1 xv)) ⟨(tg2 gq gq),eE,(jq (jq xv xv) (cz vV (a1 (ce (oq je) (jq (jq xv xv) qK) (d9 (a2 xv xv))))))⟩)))⟩)))))))))
abbrev lX:dP:=top 39
def mI:FS:=(dZ (d4 (Aa (dR (mV 1) dS)) (gN 2))
  (eD (eK 1 [2,0] (oa (dR (mV 1) dS)) (gN 0) fm (eB (pr (b2 Ao) (mV 1) (dR (mN (dU 2 dX) (dR (mV 2) (dR (mN (b1 eM) (dR (mV 1) dS)) dS))) dS))))))
def gf:FN:=hB 3 mI
theorem qr {f:dB}(F:et K "_law_order" lX f)(a:fe P w K mg base 1 "_law_take" 2 dX):
  fe P w K mg base 2 "_law_order" 2 gf:=xq ["_law_hand_here","_law_many","_law_left"] X G F λb=>
 (qF (sq (oF O O (bz B) O (bz B) (a1 xv))) (qG (qU (fk ["_law_k"] (ir (a1 xv)) ⟨gq,eE,(qe PySem.F.slot_list_pop PySem.F.type_list_pop HA xv (a1 (wn a (a2 xv (cn eR (a1 xv))))))⟩))))
abbrev nz:dP:=top 42
def nS:FS:=(dZ (d4 (eK 1 [0] (oa (dR (mN (b1 eM) (dR (mV 1) dS)) dS)) (gN 0) (mB (m2 (b2 gEq) (mN (dU 2 dX) (dR (mV 1) (dR (mC (D.int 2)) dS))) (mC (D.int 0)))) (eB (mV 0))) (gN 3))
  (eD (mN (b1 gTup) (dR (eK 1 [2,3] (oa (dR (mN (b1 eM) (dR (mV 1) dS)) dS)) (gN 0) (mB (m2 (b2 j7) (m2 (b2 dW) (mV 1) (mV 0)) (mV 2))) (eB (mV 0))) dS))))
def hU:FN:=hB 4 nS
theorem tu {f:dB}(F:et K "_law_kept" nz f)(a:fe P w K mg base 1 "_law_take" 2 dX):
  fe P w K mg base 2 "_law_kept" 3 hU:=xq ["_law_hand_here","_law_web","_law_copied","_law_kept_here"] X G F λb=>
 (qF (sq (fk ["_law_room"] (ir (a1 (cn eR (a1 xv)))) ⟨gq,(gI (ct (oq je) (wn a (a2 xv qK)) qK)),xv⟩)) (qG (qU (cz e6 (a1 (fk ["_law_room"] (ir (a1 (cn eR (a1 xv)))) ⟨gq,(gI (ct (oq rz) (jq xv xv) xv (by with_unfolding_all rfl))),xv⟩))))))
abbrev jT:dP:=top 43
def gZ:FS:=(dZ (d4 (eQ (dR (mN (dU 2 dX) (dR (mV 0) (dR (mV 3) dS))) (dR (m2 (b2 dW) (mV 2) (mN (dU 2 dX) (dR (mV 0) (dR (mN (b1 eM) (dR (mV 2) dS)) dS)))) (dR (m2 (b2 dW) (hZ (dR (mC D.non) (dR (mC (D.int 0)) (dR (mC (D.int 1)) (dR (mC (D.int 2)) (dR (mC (D.int 3)) dS)))))) (mN (dU 2 dX) (dR (mV 0) (dR (mC (D.int 5)) dS)))) dS)))) (gN 7))
  (fC (mB (m2 (b2 (jA λi j=>decide (j<i))) (mN (dU 2 dX) (dR (mV 0) (dR (mC (D.int 8)) dS))) (mC (D.int 0)))) (fR (pr (b2 iX) (mV 4) (dR (eQ (dR (eQ (dR (mV 5) (dR (mV 6) dS))) (dR (mV 7) dS))) dS))) li))
def jd:FS:=(fO (ia (mN (dU 1 jZ) (dR (mV 1) dS))) (gN 6) gZ)
def kg:FS:=(dZ (d4 (eQ (dR (m2 (b2 gj) (mC (D.int 1)) (mN (dU 2 dX) (dR (mV 0) (dR (mC (D.int 3)) dS)))) (dR (hZ dS) dS))) (gT 2 (gCs (gN 3) (gCs (gN 4) gNl))))
  (dZ (fO (oa (dR (mV 3) dS)) (gN 5) jd)
  (eD (eQ (dR (mV 1) (dR (mN (b1 gTup) (dR (mV 4) dS)) dS))))))
def fY:FN:=hB 8 kg
theorem nY {f:dB}(F:et K "_law_machine" jT f)(a:fe P w K mg base 1 "_law_take" 2 dX)(b:fe P w K mg base 1 "sights" 1 jZ):
  fe P w K mg base 2 "_law_machine" 3 fY:=xq ["_law_hand_here","_law_eyes_here","_law_hands","_law_moods","_law_rows","_law_mood","_law_sight","_law_deed"] X G F λc=>
 (qF (jr 3 4 O (gW O) O O (by decide) O O (a2 (qI gl qK (wn a (a2 xv qK))) (fv qN))) (qF (fo (ir (a1 xv)) gq (qG (fo (qd (wn b (a1 xv))) gq (qF (sq (d9 (a3 (wn a (a2 xv xv)) (jq xv (wn a (a2 xv (cn eR (a1 xv))))) (jq (fv (qA iO (qA qK (a3 qK qK qK)))) (wn a (a2 xv qK)))))) (qG (qV (ct FZ (wn a (a2 xv qK)) qK) (qG (lq ap xv (a1 (d9 (a2 (d9 (a2 xv xv)) xv))))) qQ)))))) (qG (qU (d9 (a2 xv (cz e6 (a1 xv))))))))
abbrev nB:dP:=top 44
def nT:FS:=(eD (mN (b1 gTup) (dR (eK 1 [0] (ia (mV 1)) (gN 0) (mB (m2 (b2 gEq) (mN (dU 2 dX) (dR (mV 1) (dR (mC (D.int 2)) dS))) (mC (D.int 0)))) (eB (mV 0))) dS)))
def hW:FN:=hB 2 nT
theorem tz {f:dB}(F:et K "_law_eyes" nB f)(a:fe P w K mg base 1 "_law_take" 2 dX):
  fe P w K mg base 2 "_law_eyes" 2 hW:=xq ["_law_hand_here","_law_some"] X G F λb=>
 (qG (qU (cz e6 (a1 (fk ["_law_eye"] (qd xv) ⟨gq,(gI (ct (oq je) (wn a (a2 xv qK)) qK)),xv⟩)))))
abbrev jS:dP:=top 45
def jc:FS:=(fR (pr (b2 iX) (mV 5) (dR (mN (dU 2 dX) (dR (mV 0) (dR (mN (b1 eM) (dR (mV 1) dS)) dS))) dS)))
def kd:FS:=(dZ (d4 (mN (dU 2 dX) (dR (mV 0) (dR (mN (b1 eM) (dR (mV 1) dS)) dS))) (gN 3))
  (dZ (d4 (eK 1 [3,2] (oa (dR (mN (b1 eM) (dR (mV 1) dS)) dS)) (gN 0) (qw (mB (m2 (b2 wV) (mV 0) (mV 1))) (mB (m2 (b2 gEq) (m2 (b2 dW) (mV 2) (mV 0)) (m2 (b2 dW) (mV 2) (mV 1))))) (eB (mV 0))) (gN 4))
  (dZ (d4 (m2 (b2 gj) (hZ (dR (mV 3) dS)) (eK 1 [4,0] (oa (dR (mN (b1 pI) (dR (m2 (b2 wV) (mV 4) (hZ dS)) dS)) dS)) (gN 0) fm (eB (m2 (b2 dW) (mV 1) (mN (dU 2 dX) (dR (mV 2) (dR (mN (b1 eM) (dR (mV 1) dS)) dS))))))) (gN 5))
  (dZ (fO (oa (dR (mN (dU 2 dX) (dR (mV 0) (dR (mC (D.int 3)) dS))) dS)) (gN 6) jc)
  (eD (eQ (dR (mN (b1 gTup) (dR (mN (b1 jk) (dR (mV 5) dS)) dS)) (dR (mN (b1 gTup) (dR (mN (b1 j5) (dR (kT (mV 5) jf (jE (mC (D.int 2)))) dS)) dS)) dS))))))))
def fX:FN:=hB 7 kd
theorem nX {f:dB}(F:et K "_law_walkers" jS f)(a:fe P w K mg base 1 "_law_take" 2 dX):
  fe P w K mg base 2 "_law_walkers" 3 fX:=xq ["_law_hand_here","_law_web","_law_copied","_law_one","_law_twins","_law_some","_law_turn"] X G F λb=>
 (qF (sq (wn a (a2 xv (cn eR (a1 xv))))) (qF (sq (fk ["_law_room"] (ir (a1 (cn eR (a1 xv)))) ⟨gq,(gI (kY (kr (ct (oq wM) xv xv) (jL (ct (oq je) (jq xv xv) (jq xv xv)))))),xv⟩)) (qF (sq (qI gl (fv (a1 xv)) (fk ["_law_turn"] (ir (a1 (cz vV (a1 (ce (oq wM) xv (fv qN)))))) ⟨gq,eE,(jq xv (wn a (a2 xv (cn eR (a1 xv)))))⟩))) (qF (fo (ir (a1 (wn a (a2 xv qK)))) gq (qG (lq ap xv (a1 (wn a (a2 xv (cn eR (a1 xv)))))))) (qG (qU (d9 (a2 (cz e6 (a1 (q0 O O (bz B) O (bz B) xv))) (cz e6 (a1 (cn Hb (a1 (gy xv iA (iz qK))))))))))))))
abbrev nv:dP:=top 8
def nQ:FS:=(eD (mN (dU 3 jh) (dR (mV 0) (dR (mV 1) (dR (mC (D.fn "numbered")) dS)))))
def fV:FN:=hB 2 nQ
theorem tj {f:dB}(F:et K "colouring" nv f)(a:fe P w K mg base 2 "refined" 3 jh)(b:CGl K mg "numbered" (D.fn "numbered")):
  fe P w K mg base 3 "colouring" 2 fV:=xq ["web","signs"] X G F λc=>
 (qG (qU (wn a (a3 xv xv (oG b O)))))
abbrev k4:dP:=top 19
def lp:FS:=(dZ (d4 (mV 1) (gT 2 (gCs (gN 3) (gCs (gN 4) gNl))))
  (dZ (d4 (mV 2) (gT 4 (gCs (gN 5) (gCs (gN 6) (gCs (gN 7) (gCs (gN 8) gNl))))))
  (dZ (fC (CW (nZ (wb (mN (dU 2 g6) (dR (mV 7) (dR (mN (b1 eM) (dR (mV 3) dS)) dS))))) (nZ (wb (mN (dU 2 g6) (dR (mV 6) (dR (mV 7) dS)))))) (eD (mC (D.bl J))) li)
  (eD (lj (mN (dU 3 fj) (dR (mV 0) (dR (mN (dU 2 eU) (dR (mV 0) (dR (mV 4) dS))) (dR (mV 8) dS)))) (m2 (b2 gEq) (m2 (b2 dW) (mV 8) (m2 (b2 dW) (mV 3) (mV 6))) (m2 (b2 dW) (mV 8) (m2 (b2 dW) (mV 3) (mV 7)))))))))
def gp:FN:=hB 9 lp
theorem pc {f:dB}(F:et K "shows_alike" k4 f)(c:fe P w K mg base 1 "chalk_signs" 2 eU)(a:fe P w K mg base 2 "is_below" 2 g6)(b:fe P w K mg base 2 "is_colouring" 3 fj):
  fe P w K mg base 3 "shows_alike" 3 gp:=xq ["web","standing","paper","rooms","chalk","word","i","j","colours"] X G F λd=>
 (qF (qR xv (tg2 gq gq)) (qF (qR xv (kw O (eJ gq (eJ gq (eJ gq (eJ gq i4)))))) (qF (qV (kY (lz (ku (gH (wn a (a2 xv (cn eR (a1 xv)))))) (lK (ku (gH (wn a (a2 xv xv))))))) (qG (qU fU)) qQ) (qG (qU (js (wn b (a3 xv (wn c (a2 xv xv)) xv)) (kA (ce (oq je) (jq xv (jq xv xv)) (jq xv (jq xv xv))))))))))
abbrev BR:dP:=top 29
def D4:FS:=(dZ (d4 (mN (dU 3 mf) (dR (mV 0) (dR (m2 (b2 dW) (mV 1) (mC (D.int 0))) (dR (mV 2) dS)))) (gN 3))
  (eD (mN (dU 3 mh) (dR (mV 0) (dR (mV 2) (dR (eK 2 [1] (ia (mV 3)) (gT 2 (gCs (gN 0) (gCs (gN 1) gNl))) fm (eB (mN (dU 3 g9) (dR (mV 2) (dR (mV 0) (dR (mV 1) dS)))))) dS))))))
def pq:FN:=hB 4 D4
theorem FW {f:dB}(F:et K "beat" BR f)(c:fe P w K mg base 2 "deed_of" 3 g9)(b:fe P w K mg base 2 "moved" 3 mh)(a:fe P w K mg base 2 "wants" 3 mf):
  fe P w K mg base 3 "beat" 3 pq:=xq ["web","machine","whole","wanted"] X G F λd=>
 (qF (sq (wn a (a3 xv (jq xv qK) xv))) (qG (qU (wn b (a3 xv xv (fk ["mood","sight"] (qd xv) ⟨(tg2 gq gq),eE,(wn c (a3 xv xv xv))⟩))))))
abbrev ja:dP:=top 38
def gA:FS:=(dZ (d4 (eK 1 [4] (oa (dR (mV 5) dS)) (gN 0) (mB (m2 (b2 gLt) (mN (b1 eM) (dR (m2 (b2 dW) (mV 1) (mV 0)) dS)) (mC (D.int 4)))) (eB (mV 0))) (gN 6))
  (dZ (d4 (m2 (b2 dW) (mV 6) (mN (dU 2 dX) (dR (mV 0) (dR (mN (b1 eM) (dR (mV 6) dS)) dS)))) (gN 7))
  (dZ (fR (pr (b2 iX) (m2 (b2 dW) (mV 4) (mV 5)) (dR (mV 3) dS)))
  (dZ (fR (pr (b2 iX) (m2 (b2 dW) (mV 4) (mV 7)) (dR (mV 3) dS)))
  (d4 (m2 (b2 gj) (mV 3) (mC (D.int 1))) (gN 3))))))
def gz:FS:=(dZ (d4 (eQ (dR (mN (dU 2 dX) (dR (mV 0) (dR (mV 2) dS))) (dR (mN (dU 2 dX) (dR (mV 0) (dR (mV 2) dS))) dS))) (gT 2 (gCs (gN 9) (gCs (gN 7) gNl))))
  (fC (qw (mB (m2 (b2 gLt) (m2 (b2 gj) (mN (b1 eM) (dR (m2 (b2 dW) (mV 4) (mV 9)) dS)) (mN (b1 pI) (dR (m2 (b2 gEq) (mV 9) (mV 7)) dS))) (mC (D.int 4)))) (mB (m2 (b2 gLt) (mN (b1 eM) (dR (m2 (b2 dW) (mV 4) (mV 7)) dS)) (mC (D.int 4))))) (dZ (fR (pr (b2 iX) (m2 (b2 dW) (mV 4) (mV 9)) (dR (mV 3) dS)))
  (dZ (fR (pr (b2 iX) (m2 (b2 dW) (mV 4) (mV 7)) (dR (mV 3) dS)))
  (d4 (m2 (b2 gj) (mV 3) (mC (D.int 1))) (gN 3)))) li))
def jo:FS:=(dZ (d4 (eQ (dR (m2 (b2 gj) (mC (D.int 1)) (mN (dU 2 dX) (dR (mV 0) (dR (mV 1) dS)))) (dR (mC (D.int 0)) dS))) (gT 2 (gCs (gN 2) (gCs (gN 3) gNl))))
  (dZ (d4 (eK 1 [] (oa (dR (mV 2) dS)) (gN 0) fm (eB (hZ dS))) (gN 4))
  (dZ (fO (Lr (dR (mC (D.int 1)) (dR (mV 2) dS))) (gN 5) gA)
  (dZ (fO (oa (dR (mN (dU 2 dX) (dR (mV 0) (dR (mC (D.int 6)) dS))) dS)) (gN 8) gz)
  (eD (mN (dU 2 gr) (dR (mV 0) (dR (mV 4) dS))))))))
def fB:FN:=hB 10 jo
theorem ma {f:dB}(F:et K "_law_plain_web" ja f)(b:fe P w K mg base 2 "_law_doored" 2 gr)(a:fe P w K mg base 1 "_law_take" 2 dX):
  fe P w K mg base 3 "_law_plain_web" 2 fB:=xq ["_law_hand_here","_law_most","_law_rooms","_law_many","_law_ends","_law_room","_law_some","_law_other","_law_turn","_law_one"] X G F λc=>
 (qF (jr 2 3 O (gW O) O O (by decide) O O (a2 (qI gl qK (wn a (a2 xv xv))) qK)) (qF (sq (fk ["_law_room"] (ir (a1 xv)) ⟨gq,eE,(fv qN)⟩)) (qF (fo (oE O (bz B) (a2 qK xv)) gq (qF (ix 6 O (T:=["_law_other"]) (keep:=[4]) ⟨O,by decide+kernel,(kc "_law_ends" (cU _))⟩ O (ir (a1 xv)) (λ_ _ _=>⟨gq,(gI (ct (oq lf) (cn eR (a1 (jq xv xv))) qK)),xv⟩) (gW O) O (by first|exact Ta rfl|exact Tb rfl)) (qF (sq (jq xv (wn a (a2 xv (cn eR (a1 xv)))))) (qF (lq ap (jq xv xv) (a1 xv)) (qF (lq ap (jq xv xv) (a1 xv)) (qG (sq (qI gl xv qK)))))))) (qF (fo (ir (a1 (wn a (a2 xv qK)))) gq (qF (jr 9 7 rfl (gW rfl) rfl rfl (by decide) rfl rfl (a2 (wn a (a2 xv xv)) (wn a (a2 xv xv)))) (qG (qV (kY (kr (ct (oq lf) (qI gl (cn eR (a1 (jq xv xv))) (cz vV (a1 (ce (oq je) xv xv)))) qK) (jL (ct (oq lf) (cn eR (a1 (jq xv xv))) qK)))) (qF (lq ap (jq xv xv) (a1 xv)) (qF (lq ap (jq xv xv) (a1 xv)) (qG (sq (qI gl xv qK))))) qQ)))) (qG (qU (wn b (a2 xv xv))))))))
abbrev lY:dP:=top 40
def iK:FS:=(dZ (d4 (eQ (dR (mV 7) (dR (mV 10) (dR (mV 8) dS)))) (gS (b3 jG) (mV 3) (eQ (dR (mV 4) (dR (mV 9) (dR (mV 6) dS))))))
  (d4 (eQ (dR (mV 4) (dR (mV 9) (dR (mV 6) dS)))) (gS (b3 jG) (mV 3) (eQ (dR (mV 7) (dR (mV 10) (dR (mV 8) dS)))))))
def jY:FS:=(fC (mB (m2 (b2 gLt) (eQ (dR (mV 4) (dR (mV 6) dS))) (eQ (dR (mV 7) (dR (mV 8) dS))))) (fO (qx (dR (mN (dU 2 gf) (dR (mV 0) (dR (mV 2) dS))) dS)) (gT 2 (gCs (gN 9) (gCs (gN 10) gNl))) iK) li)
def iJ:FS:=(fO (qx (dR (mV 5) dS)) (gT 2 (gCs (gN 6) (gCs (gT 2 (gCs (gN 7) (gCs (gN 8) gNl))) gNl))) jY)
def jX:FS:=(fC (mB (m2 (b2 gh) (kT (m2 (b2 dW) (mV 3) (eQ (dR (mV 4) (dR (mV 9) (dR (mV 6) dS))))) jf (jE (mC (D.int 2)))) (mV 11))) (fR (pr (b2 iX) (mV 11) (dR (kT (m2 (b2 dW) (mV 3) (eQ (dR (mV 4) (dR (mV 9) (dR (mV 6) dS))))) jf (jE (mC (D.int 2)))) dS))) li)
def iI:FT:=(mB (m2 (b2 gLt) (mV 12) (mN (b1 eM) (dR (mV 11) dS))))
def iH:FS:=(dZ (d4 (m2 (b2 dW) (mV 11) (mV 12)) (gT 2 (gCs (gN 4) (gCs (gN 9) gNl))))
  (dZ (fO (oa (dR (mN (b1 eM) (dR (m2 (b2 dW) (mV 1) (mV 4)) dS)) dS)) (gN 6) jX)
  (d4 (m2 (b2 gj) (mV 12) (mC (D.int 1))) (gN 12))))
def jW:FS:=(dZ (d4 (eK 1 [3,4,9] (oa (dR (mN (b1 eM) (dR (m2 (b2 dW) (mV 1) (mV 4)) dS)) dS)) (gN 0) fm (eB (m2 (b2 dW) (mV 1) (eQ (dR (mV 2) (dR (mV 3) (dR (mV 0) dS))))))) (gN 14))
  (fR (pr (b2 iX) (mV 13) (dR (mN (b1 gTup) (dR (eK 1 [11] (ia (mV 14)) (gN 0) fm (eB (eQ (dR (pr (b2 Dm) (mV 1) (dR (kT (mV 0) jf (jE (mC (D.int 2)))) dS)) (dR (m2 (b2 dW) (mV 0) (mC (D.int 2))) dS))))) dS)) dS))))
def mJ:FS:=(dZ (d4 pu (gN 3))
  (dZ (fO (qx (dR (mV 1) dS)) (gT 2 (gCs (gN 4) (gCs (gN 5) gNl))) iJ)
  (dZ (d4 (eQ (dR (hZ (dR (eQ (dR (mC (D.int 0)) (dR (mC (D.int 0)) dS))) dS)) (dR (mC (D.int 0)) dS))) (gT 2 (gCs (gN 11) (gCs (gN 12) gNl))))
  (dZ (q9 iI iH 100000)
  (dZ (d4 (hZ dS) (gN 13))
  (dZ (fO (ia (mV 11)) (gT 2 (gCs (gN 4) (gCs (gN 9) gNl))) jW)
  (eD (eQ (dR (mN (b1 gTup) (dR (mV 13) dS)) (dR (mN (b1 gTup) (dR (eK 2 [] (ia (mV 11)) (gT 2 (gCs (gN 0) (gCs (gN 1) gNl))) fm (eB (mV 0))) dS)) dS))))))))))
def gQ:FN:=hB 15 mJ
theorem qt {f:dB}(F:et K "_law_cover" lY f)(a:fe P w K mg base 2 "_law_order" 2 gf):
  fe P w K mg base 3 "_law_cover" 3 gQ:=xq ["_law_hand_here","_law_web","_law_copies_here","_law_steps","_law_room","_law_row","_law_door","_law_other","_law_back","_law_copy","_law_to","_law_met","_law_at","_law_found","_law_some"] X G F λb=>
 (qF (sq oH) (qF (fo (ie (a1 xv)) (tg2 gq gq) (qG (fo (ie (a1 xv)) (tg2 gq (tg2 gq gq)) (qG (qV (ct (oq lf) (d9 (a2 xv xv)) (d9 (a2 xv xv))) (qG (fo (ie (a1 (wn a (a2 xv xv)))) (tg2 gq gq) (qF (qR (d9 (a3 xv xv xv)) (lN xv (d9 (a3 xv xv xv)) (oR b.units))) (qG (qR (d9 (a3 xv xv xv)) (lN xv (d9 (a3 xv xv xv)) (oR b.units))))))) qQ))))) (qF (qR (d9 (a2 (fv (a1 (d9 (a2 qK qK)))) qK)) (tg2 gq gq)) (qF (i3 100000 S9 (ct (oq lf) xv (cn eR (a1 xv))) (qF (qR (jq xv xv) (tg2 gq gq)) (qF (fo (ir (a1 (cn eR (a1 (jq xv xv))))) gq (qG (qV (ct (oq pj) (gy (jq xv (d9 (a3 xv xv xv))) iA (iz qK)) xv (by with_unfolding_all rfl)) (qG (lq ap xv (a1 (gy (jq xv (d9 (a3 xv xv xv))) iA (iz qK))))) qQ))) (qG (sq (qI gl xv qK)))))) (qF (sq (fv qN)) (qF (fo (qd xv) (tg2 gq gq) (qF (ix 14 O (T:=["_law_door"]) (keep:=[3,4,9]) ⟨O,by decide+kernel,(kc "_law_steps" (kc "_law_room" (kc "_law_copy" (cU _))))⟩ O (ir (a1 (cn eR (a1 (jq xv xv))))) (λ_ _ _=>⟨gq,eE,(jq xv (d9 (a3 xv xv xv)))⟩) (gW O) O (by first|exact Ta rfl|exact Tb rfl)) (qG (lq ap xv (a1 (cz e6 (a1 (fk ["_law_step"] (qd xv) ⟨gq,eE,(d9 (a2 (qe PySem.F.slot_list_index PySem.F.type_list_index (LA b.units) xv (a1 (gy xv iA (iz qK)))) (jq xv qK)))⟩)))))))) (qG (qU (d9 (a2 (cz e6 (a1 xv)) (cz e6 (a1 (fk ["_law_room","_law_copy"] (qd xv) ⟨(tg2 gq gq),eE,xv⟩)))))))))))))
abbrev xU:dP:=top 17
def rv:FS:=(fC (mB (m2 (b2 gEq) (m2 (b2 dW) (mV 4) (m2 (b2 dW) (mV 2) (mV 5))) (m2 (b2 dW) (mV 4) (m2 (b2 dW) (mV 2) (mV 6))))) (eD (eQ (dR (mC (D.str "alike")) (dR (mV 5) (dR (mV 6) (dR (mV 4) dS)))))) li)
def rq:FS:=(fO (Lr (dR (m2 (b2 gj) (mV 5) (mC (D.int 1))) (dR (mN (b1 eM) (dR (mV 2) dS)) dS))) (gN 6) rv)
def zb:FS:=(dZ (d4 (mV 1) (gT 2 (gCs (gN 2) (gCs (gN 3) gNl))))
  (dZ (d4 (mN (dU 2 fV) (dR (mV 0) (dR (mN (dU 2 eU) (dR (mV 0) (dR (mV 3) dS))) dS))) (gN 4))
  (dZ (fO (oa (dR (mN (b1 eM) (dR (mV 2) dS)) dS)) (gN 5) rq)
  (eD (mC D.non)))))
def ml:FN:=hB 7 zb
theorem Cp {f:dB}(F:et K "alike" xU f)(b:fe P w K mg base 1 "chalk_signs" 2 eU)(a:fe P w K mg base 3 "colouring" 2 fV):
  fe P w K mg base 4 "alike" 2 ml:=xq ["web","standing","rooms","chalk","colours","i","j"] X G F λc=>
 (qF (qR xv (tg2 gq gq)) (qF (sq (wn a (a2 xv (wn b (a2 xv xv))))) (qF (fo (ir (a1 (cn eR (a1 xv)))) gq (qG (fo (oE O (bz B) (a2 (qI gl xv qK) (cn eR (a1 xv)))) gq (qG (qV (ct (oq je) (jq xv (jq xv xv)) (jq xv (jq xv xv))) (qG (qU (d9 (qA fu (a3 xv xv xv))))) qQ))))) (qG (qU iO)))))
abbrev k0:dP:=top 18
def iY:FS:=(dZ (fC (wb (mN (dU 3 gE) (dR (mV 3) (dR (mC (D.str "colours")) (dR (mC (D.int 2)) dS))))) (eD (lj (mN (dU 3 fj) (dR (mV 0) (dR (mN (dU 2 fW) (dR (mV 0) (dR (mV 1) dS))) (dR (m2 (b2 dW) (mV 3) (mC (D.int 1))) dS)))) (u8 (mN (dU 1 ff) (dR (m2 (b2 dW) (mV 3) (mC (D.int 1))) dS))))) li)
  (dZ (fC (qw (wb (mV 2)) (wb (mN (dU 3 gE) (dR (mV 3) (dR (mC (D.str "alike")) (dR (mC (D.int 4)) dS)))))) (eD (mN (dU 3 gp) (dR (mV 0) (dR (mV 1) (dR (mV 3) dS))))) li)
  (eD (mC (D.bl J)))))
def ed:FN:=hB 4 iY
theorem pb {f:dB}(F:et K "shows_never" k0 f)(b:fe P w K mg base 2 "all_signs" 2 fW)(c:fe P w K mg base 1 "all_unlike" 1 ff)(e:fe P w K mg base 2 "is_colouring" 3 fj)(a:fe P w K mg base 2 "is_headed" 3 gE)(d:fe P w K mg base 3 "shows_alike" 3 gp):
  fe P w K mg base 4 "shows_never" 4 ed:=xq ["web","standing","quiet","thing"] X G F λg=>
 (qF (qV (gH (wn a (a3 xv fu qK))) (qG (qU (js (wn e (a3 xv (wn b (a2 xv xv)) (jq xv qK))) (kA (xA (wn c (a1 (jq xv qK)))))))) qQ) (qF (qV (kY (kr (gH xv) (jL (gH (wn a (a3 xv fu qK)))))) (qG (qU (wn d (a3 xv xv xv)))) qQ) (qG (qU fU))))
abbrev k9:dP:=top 41
def lu:FS:=(dZ (d4 (m2 (b2 dW) (hZ (dR (mC (D.int 2)) (dR (mC (D.int 2)) (dR (mC (D.int 3)) (dR (mC (D.int 4)) dS))))) (mN (dU 2 dX) (dR (mV 0) (dR (mC (D.int 4)) dS)))) (gN 1))
  (eD (mN (dU 3 gQ) (dR (mV 0) (dR (mN (dU 2 fB) (dR (mV 0) (dR (m2 (b2 oe) (mC (D.int 8)) (mV 1)) dS))) (dR (mV 1) dS))))))
def gu:FN:=hB 2 lu
theorem pi {f:dB}(F:et K "_law_copies" k9 f)(b:fe P w K mg base 3 "_law_cover" 3 gQ)(a:fe P w K mg base 3 "_law_plain_web" 2 fB)(c:fe P w K mg base 1 "_law_take" 2 dX):
  fe P w K mg base 4 "_law_copies" 1 gu:=xq ["_law_hand_here","_law_copies_here"] X G F λd=>
 (qF (sq (jq (fv (qA qK (a3 qK qK qK))) (wn c (a2 xv qK)))) (qG (qU (wn b (a3 xv (wn a (a2 xv (qI uX qK xv))) xv)))))
abbrev lW:dP:=top 46
def iG:FS:=(dZ (d4 (eQ (dR (m2 (b2 dW) (m2 (b2 dW) (mV 6) (mC (D.int 0))) (mV 7)) (dR (m2 (b2 dW) (m2 (b2 dW) (mV 6) (mC (D.int 0))) (mV 8)) dS))) (gT 2 (gCs (gN 10) (gCs (gN 11) gNl))))
  (dZ (fC (CW (wb (mN (dU 1 j0) (dR (mV 6) dS))) (CW (mB (m2 (b2 gEq) (m2 (b2 dW) (mV 10) (mC (D.int 0))) (m2 (b2 dW) (mV 11) (mC (D.int 0))))) (CW (mB (m2 (b2 wV) (kT (mV 10) (jE (mC (D.int 1))) jf) (kT (mV 11) (jE (mC (D.int 1))) jf))) (mB (m2 (b2 wV) (m2 (b2 dW) (mV 6) (mC (D.int 1))) (m2 (b2 dW) (mV 2) (mC (D.int 1)))))))) (eD (mC (D.bl J))) li)
  (d4 (mN (dU 3 pq) (dR (mV 1) (dR (mV 5) (dR (mV 6) dS)))) (gN 6))))
def mH:FS:=(dZ (d4 (kT (eQ (dR (mC (D.str "came")) (dR (mC (D.str "chalk")) (dR (mC (D.str "doors")) (dR (mC (D.str "others")) dS))))) jf (jE (m2 (b2 dW) (hZ (dR (mC (D.int 4)) (dR (mC (D.int 3)) dS))) (mN (b1 pI) (dR (m2 (b2 (jA fun i j=>decide (j<i))) (mN (b1 eM) (dR (m2 (b2 dW) (mV 2) (mC (D.int 0))) dS)) (mC (D.int 2))) dS))))) (gN 4))
  (dZ (d4 (eQ (dR (mN (dU 3 fY) (dR (mV 0) (dR (mN (dU 2 hW) (dR (mV 0) (dR (mV 4) dS))) (dR (eQ (dR (mC (D.str "leave")) dS)) dS)))) (dR (mN (dU 1 mj) (dR (mV 2) dS)) dS))) (gT 2 (gCs (gN 5) (gCs (gN 6) gNl))))
  (dZ (d4 (eQ (dR (qv (b2 j4) (m2 (b2 dW) (mV 2) (mC (D.int 0))) (dR (m2 (b2 dW) (mV 3) (mC (D.int 0))) dS)) (dR (qv (b2 j4) (m2 (b2 dW) (mV 2) (mC (D.int 0))) (dR (m2 (b2 dW) (mV 3) (mC (D.int 1))) dS)) dS))) (gT 2 (gCs (gN 7) (gCs (gN 8) gNl))))
  (dZ (fO (oa (dR (mC (D.int 40)) dS)) (gN 9) iG)
  (eD (mC (D.bl M)))))))
def fI:FN:=hB 12 mH
theorem qq {f:dB}(F:et K "_law_right" lW f)(d:fe P w K mg base 2 "_law_eyes" 2 hW)(b:fe P w K mg base 2 "_law_machine" 3 fY)(c:fe P w K mg base 3 "beat" 3 pq)(a:fe P w K mg base 1 "begun" 1 mj)(e:fe P w K mg base 1 "is_met" 1 j0):
  fe P w K mg base 4 "_law_right" 4 fI:=xq ["_law_hand_here","_law_web","_law_standing","_law_two","_law_some","_law_machine_here","_law_whole","_law_i","_law_j","_law_turn","_law_one","_law_other"] X G F λg=>
 (qF (sq (gy (d9 (qA fu (a3 fu fu fu))) iA (iz (jq (fv (a2 qK qK)) (cz vV (a1 (ce FZ (cn eR (a1 (jq xv qK))) qK))))))) (qF (jr 5 6 O (gW O) O O (by decide) O O (a2 (wn b (a3 xv (wn d (a2 xv xv)) (d9 (a1 fu)))) (wn a (a1 xv)))) (qF (jr 7 8 O (gW O) O O (by decide) O O (a2 (kx Tc Td (sF g.units) (jq xv qK) (a1 (jq xv qK))) (kx Tc Td (sF g.units) (jq xv qK) (a1 (jq xv qK))))) (qF (fo (ir (a1 qK)) gq (qF (jr 10 11 O (gW O) O O (by decide) O O (a2 (jq (jq xv qK) xv) (jq (jq xv qK) xv))) (qF (qV (kY (lz (gH (wn e (a1 xv))) (lz (ct (oq je) (jq xv qK) (jq xv qK)) (lz (ct (oq wM) (gy xv (iz qK) iA) (gy xv (iz qK) iA)) (lK (ct (oq wM) (jq xv qK) (jq xv qK))))))) (qG (qU fU)) qQ) (qG (sq (wn c (a3 xv xv xv))))))) (qG (qU fU))))))
abbrev xQ:dP:=top 16
def y2:FS:=(dZ (d4 (mN (dU 2 fV) (dR (mV 0) (dR (mN (dU 2 fW) (dR (mV 0) (dR (mV 1) dS))) dS))) (gN 3))
  (dZ (fC (nZ (wb (mN (dU 1 ff) (dR (mV 3) dS)))) (eD (eQ (dR (mC (D.str "colours")) (dR (mV 3) dS)))) li)
  (eD (u9 (wb (mV 2)) (mN (dU 2 ml) (dR (mV 0) (dR (mV 1) dS))) (mC D.non)))))
def kH:FN:=hB 4 y2
theorem Ck {f:dB}(F:et K "never" xQ f)(d:fe P w K mg base 4 "alike" 2 ml)(b:fe P w K mg base 2 "all_signs" 2 fW)(c:fe P w K mg base 1 "all_unlike" 1 ff)(a:fe P w K mg base 3 "colouring" 2 fV):
  fe P w K mg base 5 "never" 3 kH:=xq ["web","standing","quiet","colours"] X G F λe=>
 (qF (sq (wn a (a2 xv (wn b (a2 xv xv))))) (qF (qV (ku (gH (wn c (a1 xv)))) (qG (qU (d9 (a2 fu xv)))) qQ) (qG (qU (lA (gH xv) (wn d (a2 xv xv)) iO)))))
abbrev uE:dP:=top 47
def s0:FS:=(dZ (d4 (mN (dU 1 gu) (dR (mV 2) dS)) (gT 2 (gCs (gN 4) (gCs (gN 5) gNl))))
  (dZ (d4 (mN (dU 3 fX) (dR (mV 2) (dR (mV 4) (dR (mV 5) dS)))) (gT 2 (gCs (gN 6) (gCs (gN 7) gNl))))
  (dZ (d4 (eQ (dR (mV 6) (dR (mN (dU 3 hU) (dR (mV 2) (dR (mV 4) (dR (mV 5) dS)))) dS))) (gN 8))
  (fC (qw (mB (m2 (b2 gEq) (mN (b1 eM) (dR (mV 7) dS)) (mC (D.int 2)))) (qw (mB (m2 (b2 wV) (m2 (b2 dW) (mV 7) (mC (D.int 0))) (m2 (b2 dW) (mV 7) (mC (D.int 1))))) (mB (m2 (b2 gEq) (m2 (b2 dW) (mV 5) (m2 (b2 dW) (mV 7) (mC (D.int 0)))) (m2 (b2 dW) (mV 5) (m2 (b2 dW) (mV 7) (mC (D.int 1)))))))) (dZ (d4 (eQ (dR (mC (D.str "alike")) (dR (qv (b2 j4) (mV 6) (dR (m2 (b2 dW) (mV 7) (mC (D.int 0))) dS)) (dR (qv (b2 j4) (mV 6) (dR (m2 (b2 dW) (mV 7) (mC (D.int 1))) dS)) (dR (mV 5) dS))))) (gN 9))
  (dZ (d4 (mN (dU 3 kH) (dR (mV 4) (dR (mV 8) (dR (mC (D.bl M)) dS)))) (gN 10))
  (dZ (fC (mB (m2 (b2 iw) (mN (dU 4 ed) (dR (mV 4) (dR (mV 8) (dR (mC (D.bl M)) (dR (mV 9) dS))))) (mC (D.bl M)))) (eD (mC (D.bl J))) li)
  (dZ (fC (mB (m2 (b2 iw) (mN (dU 4 ed) (dR (mV 4) (dR (mV 8) (dR (mC (D.bl J)) (dR (mV 9) dS))))) (mC (D.bl J)))) (eD (mC (D.bl J))) li)
  (dZ (fC (CW (mB (m2 (b2 wW) (mV 10) (mC D.non))) (mB (m2 (b2 iw) (mN (dU 4 ed) (dR (mV 4) (dR (mV 8) (dR (mC (D.bl M)) (dR (mV 10) dS))))) (mC (D.bl M))))) (eD (mC (D.bl J))) li)
  (fC (nZ (wb (mN (b1 qy) (dR (eK 1 [2,4,8,7] (oa (dR (mC (D.int 3)) dS)) (gN 0) fm (eB (mN (dU 4 fI) (dR (mV 1) (dR (mV 2) (dR (mV 3) (dR (mV 4) dS))))))) dS)))) (eD (mC (D.bl J))) li)))))) li))))
def sZ:FS:=(dZ (d4 (mN (dU 2 fZ) (dR (mV 0) (dR (mV 1) dS))) (gN 2))
  (fO (oa (dR (mC (D.int 2)) dS)) (gN 3) s0))
def ye:FS:=(rB [M,M,J,J,J,J,J,J,J,J,J] [M,J,J,J,J,J,J,J,J,J,J] sZ)
def D3:FS:=(dZ (fO (oa (dR (mN (b2 GR) (dR (mC (D.int 1)) (dR (mN (b2 GQ) (dR (mC (D.int 4)) (dR (mN (b1 eM) (dR (mV 0) dS)) dS))) dS))) dS)) (gN 1) ye)
  (eD (mC (D.bl M))))
def m_law:FN:=hB 11 D3
theorem Jw {f:dB}{fd:dN}(F:AV K "law" "law" uE f fd)(c:fe P w K mg base 4 "_law_copies" 1 gu)(j:fe P w K mg base 1 "_law_hand" 2 fZ)(i:fe P w K mg base 2 "_law_kept" 3 hU)(h:fe P w K mg base 4 "_law_right" 4 fI)(e:fe P w K mg base 2 "_law_walkers" 3 fX)(d:fe P w K mg base 5 "never" 3 kH)(a:fe P w K mg base 4 "shows_never" 4 ed):
  kn P w K mg base wa 6 f fd ["_law_script"] (By K 1 m_law):=Ib (k:=5) (n:=1) (N:=["_law_script","_law_k","_law_hand_here","_law_turn","_law_web","_law_copied","_law_walkers_here","_law_two","_law_standing","_law_paper","_law_told"]) (ps:=["_law_script"]) (b:=D3) F sk O λm A g s H E l=>
 (qF (fo (ir (a1 (cn (M7 O) (a2 qK (cn (M6 O) (a2 qK (cn eR (a1 xv)))))))) gq (zk [M,M,J,J,J,J,J,J,J,J,J] [M,J,J,J,J,J,J,J,J,J,J] (qF (sq (wn j (a2 xv xv))) (qG (fo (ir (a1 qK)) gq (qF (qR (wn c (a1 xv)) (tg2 gq gq)) (qF (qR (wn e (a3 xv xv xv)) (tg2 gq gq)) (qF (sq (d9 (a2 xv (wn i (a3 xv xv xv))))) (qG (qV (kY (kr (ct (oq je) (cn eR (a1 xv)) qK) (kr (ct (oq wM) (jq xv qK) (jq xv qK)) (jL (ct (oq je) (jq xv (jq xv qK)) (jq xv (jq xv qK))))))) (qF (sq (d9 (qA fu (a3 (kx Tc Td (sF l.units) xv (a1 (jq xv qK))) (kx Tc Td (sF l.units) xv (a1 (jq xv qK))) xv)))) (qF (sq (wn d (a3 xv xv fU))) (qF (qV (ct pk (wn a (qA xv (a3 xv fU xv))) fU) (qG (qU fU)) qQ) (qF (qV (ct pk (wn a (qA xv (a3 xv fU xv))) fU) (qG (qU fU)) qQ) (qF (qV (kY (lz (ct HG xv iO) (lK (ct pk (wn a (qA xv (a3 xv fU xv))) fU)))) (qG (qU fU)) qQ) (qG (qV (ku (gH (cn (DX O) (a1 (fk ["_law_more"] (ir (a1 qK)) ⟨gq,eE,(wn h (qA xv (a3 xv xv xv)))⟩))))) (qG (qU fU)) qQ))))))) qQ)))))))))) (qG (qU fU)))
end
theorem all_mk {l:PySem.W.OpenLaw}{w:dF}{K:Fg1}{h:dM}{mg:Str->Option dz}{fa f1 f2 f3 f4 f5 f6 f7 f8 f9 y f11 f12 f13 A k n f17 f18 f19 N T F f23 V f25 f26 ao f28 u U f31 f32 f33 C x f36 f37 f38 f39 f40:dB}(X:K.In h)(G:h.Ns dG mg)(hfa:mg "law"=some (.ref fa))
  {g1 g2 g5 g8 f:dB}
  {t3 t4 t6 t7 t9 t10 W I:Tok}
  {n2 n5 n8 n11 n1:Nat} {H sl5 sl8 j S:Array (Option dz)}
  (a1:et K "is_whole" oT f1)
  (a2:et K "is_tuple_of" k6 f2)
  (a3:et K "looks" xS f3)
  (L:et K "numbered" oS f4)
  (a5:et K "all_unlike" lV f5)
  (a6:et K "chalk_signs" k7 f6)
  (a7:et K "sights" uD f7)
  (a8:et K "first_of" oV f8)
  (a9:et K "begun" xT f9)
  (a10:et K "sight_of" oQ y)
  (p:et K "handled" ri f11)
  (a12:et K "stepped" rf f12)
  (a13:et K "is_met" uF f13)
  (a14:et K "_law_hand" nA A)
  (a15:et K "_law_take" ny k)
  (a16:et K "is_below" oU n)
  (a17:et K "is_headed" nt f17)
  (a18:et K "is_colouring" jR f18)
  (a19:et K "refined" rh f19)
  (a20:et K "all_signs" nw N)
  (a21:et K "deed_of" rj T)
  (a22:et K "wants" xP F)
  (a23:et K "moved" xR f23)
  (a24:et K "_law_doored" k8 V)
  (a25:et K "_law_order" lX f25)
  (a26:et K "_law_kept" nz f26)
  (a27:et K "_law_machine" jT ao)
  (a28:et K "_law_eyes" nB f28)
  (a29:et K "_law_walkers" jS u)
  (o:et K "colouring" nv U)
  (a31:et K "shows_alike" k4 f31)
  (a32:et K "beat" BR f32)
  (a33:et K "_law_plain_web" ja f33)
  (a34:et K "_law_cover" lY C)
  (a35:et K "alike" xU x)
  (a36:et K "shows_never" k0 f36)
  (a37:et K "_law_copies" k9 f37)
  (a38:et K "_law_right" lW f38)
  (a39:et K "never" xQ f39)
  (b:et K "law" uE f40)
  (e_PARTS:wN1 K dG "PARTS"=Z (Z (Qb g1)))
  (h1:K.lookup g1=Z ⟨.type "tuple",Y,.seq ([(Qb g2),(Qb g5),(Qb g8),(Qb f)]:List dz).toArray n1,S⟩)
  (h2:K.lookup g2=Z ⟨.type "tuple",Y,.seq ([(ae "came" t3),(ab (5) t4)]:List dz).toArray n2,H⟩)
  (h5:K.lookup g5=Z ⟨.type "tuple",Y,.seq ([(ae "chalk" t6),(ab (2) t7)]:List dz).toArray n5,sl5⟩)
  (h8:K.lookup g8=Z ⟨.type "tuple",Y,.seq ([(ae "doors" t9),(ab (5) t10)]:List dz).toArray n8,sl8⟩)
  (t:K.lookup f=Z ⟨.type "tuple",Y,.seq ([(ae "others" W),(ab (2) I)]:List dz).toArray n11,j⟩)
  (z:Nk K BL):∃fd:dN,(∀(s:dA) (v:dz),BindsTo s fd ⟨[v],[]⟩ [("_law_script",v)]) /\ ∀base:dM,K.In base->base.Ns dG mg->kn l.prog w K mg base wa 6 fa fd ["_law_script"] (By K 1 m_law):=by
 have e:=hfa.symm.trans (wM1 X G b.ns);cases e;have B:Blt BL mg:=z.blt X G;have g0:CGl K mg "numbered" (D.fn "numbered"):=DT (wM1 X G L.ns) (MY L.ns);have c0:CGl K mg "PARTS" kP:=DT (wM1 X G e_PARTS) (pT h1 (by show 4<=dI;decide) (fL (pT h2 (by show 2<=dI;decide) (fL t8 (fL ua mz))) (fL (pT h5 (by show 2<=dI;decide) (fL t8 (fL ua mz))) (fL (pT h8 (by show 2<=dI;decide) (fL t8 (fL ua mz))) (fL (pT t (by show 2<=dI;decide) (fL t8 (fL ua mz))) mz)))));obtain⟨_,⟨⟨_,_,kV,dc,pm,an,cd,ct,_,rfl,lL,cL⟩,kL⟩⟩:=b.fn;refine⟨wF1 "law" "law" (iW uE) (fJ uE) (ej uE) .none kV dc pm an cd ct,λs v=>.of_eq O,λbase _ _=>?_⟩;have o0:=uU (P:=l.prog) (w:=w) (base:=base) X G B a1;have o1:=pd (P:=l.prog) (w:=w) (base:=base) X G B a2;have o2:=Cn (P:=l.prog) (w:=w) (base:=base) X G B a3;have o3:=uT (P:=l.prog) (w:=w) (base:=base) X G B L;have i:=qp (P:=l.prog) (w:=w) (base:=base) X G B a5;have aq:=pf (P:=l.prog) (w:=w) (base:=base) X G B a6;have o10:=zP (P:=l.prog) (w:=w) (base:=base) X G B a7 c0;have o5:=uW (P:=l.prog) (w:=w) (base:=base) X G B a8;have r:=Co (P:=l.prog) (w:=w) (base:=base) X G B a9;have o6:=uS (P:=l.prog) (w:=w) (base:=base) X G B a10 c0;have o7:=wK (P:=l.prog) (w:=w) (base:=base) X G B p;have o8:=wI (P:=l.prog) (w:=w) (base:=base) X G B a12;have o30:=zQ (P:=l.prog) (w:=w) (base:=base) X G B a13;have o33:=tw (P:=l.prog) (w:=w) (base:=base) X G B a14;have a:=tq (P:=l.prog) (w:=w) (base:=base) X G B a15;have o12:=uV X G B a16 o0;have wq:=s9 X G B a17 o1;have d:=nW X G B a18 o1 o0 o2;have o11:=wJ X G B a19 o2 o3;have g:=tm X G B a20 aq;have o14:=wL X G B a21 o5;have o16:=Cj X G B a22 o6;have q:=Cm X G B a23 o7 o8;have au:=ph X G B a24 a;have o18:=qr X G B a25 a;have o34:=tu X G B a26 a;have Q:=nY X G B a27 a o10;have o26:=tz X G B a28 a;have R:=nX X G B a29 a;have c:=tj X G B o o11 g0;have m:=pc X G B a31 aq o12 d;have o28:=FW X G B a32 o14 q o16;have o25:=ma X G B a33 au a;have o24:=qt X G B a34 o18;have av:=Cp X G B a35 aq c;have o38:=pb X G B a36 g i d wq m;have o32:=pi X G B a37 o24 o25 a;have o35:=qq X G B a38 o26 Q o28 r o30;have E:=Ck X G B a39 av g i c;exact Jw (P:=l.prog) (w:=w) (base:=base) X G B (Dp lL cL kL) o32 o33 o34 o35 R E o38
variable{T S:Sto}{o:Ob}{n m i j a b r:Nat}{Q:D×Sto->Prop}{E:jJ}{e:E4}{rs ks ws cs:List Nat}{F:List (TK×D)}{met:List (Nat×Nat)}{L:List Rw}
noncomputable def hnd(g m c:Int):Ob:=.lst [.int g,.int m,.int c]
noncomputable def JP(m c:Int):Int:=(m+9973*c*c+17)*69621%2305843009213693921
def CK(m c:Int):Int:=JP m c*(JP m c%999983+7919*c)%2305843009213693907
theorem M9{a b c:D}:xh [a,b,c] 0=Z a:=by rfl
theorem Ox{a b c:D}:xh [a,b,c] 1=Z b:=by rfl
theorem Ow{a b c:D}:xh [a,b,c] 2=Z c:=by rfl
theorem Iw{g m c k:Int}(hg:0<g)(hk:0<k)(a:k<1073741824):
  dX [.ref 0,.int k] (hnd g m c::T)=Z (.int (g%k),hnd (g/k) m c::T):=by
 simp[dX,hB,ic,ke,dZ,fC,mB,m2,b2,jA,mV,mC,dW,nj,EC,ee,hnd,hg,hk,a,d4,gN,ms,oe,gS,b3,jG,nL,lD,eD,M9,Ag]
theorem Iv{g m c k:Int}(hg:¬ 0<g)(hk:0<k)(a:k<1073741824)(hc:0<=c)(h:c<2^60):
  dX [.ref 0,.int k] (hnd g m c::T)=Z (.int ((CK m (c+1)/101+CK m (c+1)/1000003)%k),hnd g m (c+1)::T):=by
 have i:fr 9973 (c+1)=M:=u4 (by decide) (by decide);have e:fr (9973*(c+1)) (c+1)=M:=yk (by omega) (by omega);have d:fr (m+9973*(c+1)*(c+1)+17) 69621=M:=yk (by decide) (by decide);have b:fr 7919 (c+1)=M:=u4 (by decide) (by decide);have q:=S0 ((m+9973*(c+1)*(c+1)+17)*69621) (show(0:Int)<2305843009213693921 by decide);have j:=SZ ((m+9973*(c+1)*(c+1)+17)*69621) (show(2305843009213693921:Int)≠0 by decide);have f:fr ((m+9973*(c+1)*(c+1)+17)*69621%2305843009213693921) ((m+9973*(c+1)*(c+1)+17)*69621%2305843009213693921%999983+7919*(c+1))=M:=u4 (by omega) (by omega);simp[dX,hB,ic,ke,dZ,fC,mB,m2,b2,jA,mV,mC,dW,nj,EC,ee,hnd,hg,hk,a,d4,gN,ms,oe,gS,b3,jG,nL,lD,eD,M9,Ox,Ow,Ag,li,gj,ni,i,e,d,b,f,JP,CK]
def fG(o:Ob)(n:Nat):Prop:=∃g m c:Int,o=hnd g m c/\0<=c/\c<=n
theorem fG.und{k:Nat}(h:fG o n):o.und k=M:=by
 obtain⟨g,m,c,rfl,_⟩:=h;rfl
theorem fG.more{k:Nat}(h:fG o n)(hk:n<=k):fG o k:=by
 obtain⟨g,m,c,e,a,h1⟩:=h;exact⟨g,m,c,e,a,by lia⟩
theorem fN{k:Int}(ho:fG o n)(hn:n<=2^50)(hk:0<k)(a:k<1073741824)(h:∀(d:Nat) o',fG o' (n+1)->(d:Int)<k->Q (.int d,o'::T)):W (dU 2 dX [.ref 0,.int k] (o::T)) Q:=by
 obtain⟨g,m,c,rfl,i,h1⟩:=ho;have call:∀d o',dX [.ref 0,.int k] (hnd g m c::T)=Z (d,o'::T)->dU 2 dX [.ref 0,.int k] (hnd g m c::T)=Z (d,o'::T):=λd o e=>AH e O (by simp[D.unds,D.und]) (by simp);by_cases f:0<g
 ·have b:=SZ g (show k≠0 by lia);obtain⟨d,e⟩:=Int.eq_ofNat_of_zero_le b;refine⟨_,call _ _ (Iw f hk a),?_⟩;rw[e];exact h d _ ⟨_,_,_,O,i,by lia⟩ (by rw[<- e];exact S0 _ hk)
 ·have b:=SZ (CK m (c+1)/101+CK m (c+1)/1000003) (show k≠0 by lia);obtain⟨d,e⟩:=Int.eq_ofNat_of_zero_le b;refine⟨_,call _ _ (Iv f hk a i (by lia)),?_⟩;rw[e];exact h d _ ⟨_,_,_,O,by lia,by push_cast;lia⟩ (by rw[<- e];exact S0 _ hk)
theorem GN(ns:List Int)(k:Int)(l:0<=k)(hk:k<63):∃o,dU 2 fZ [.rol (ns.map D.int),.int k] []=Z (.ref 0,[o])/\fG o 0:=by
 have i:∃g m,fZ [.rol (ns.map D.int),.int k] []=Z (.ref 0,[hnd g m 0]):=by
  have j:fr (10^60) (10^30)=M:=by decide+kernel
  have f:fr 7919 k=M:=u4 (by decide) (by decide);have c:fr 0 0=M:=u4 (by decide) (by decide);have d:∀(x:Int) (b:Prop) [Decidable b],fr x (if b then 1 else 0)=M:=λx b _=>by
   split
   ·exact yk (by decide) (by decide)
   ·exact yk (by decide) (by decide)
  have lt:gLt (.int k) (.int ns.length) []=Z (.bl (decide (k<ns.length)),[]):=by rfl
  by_cases h:k<ns.length
  ·have a:xh (ns.map D.int) k=some (.int (ns[k.toNat]'(by lia))):=by
    unfold xh Ag;rw[ak l,ak (by simpa using h)];simp[show k.toNat<ns.length by lia]
   generalize p:ns[k.toNat]'(by lia)=x at a
   simp[fZ,hB,ic,kh,dZ,fC,mB,m2,b2,b1,mN,dR,dS,jA,mV,mC,dW,nj,EC,eM,ee,d4,gN,ms,ni,gj,wU,pI,eD,hZ,lt,h,a,f,d,dI,hnd,li];simp[show fr 1000000000000000000000000000000000000000000000000000000000000 1000000000000000000000000000000=M from j,c,f,d]
  ·simp[fZ,hB,ic,kh,dZ,fC,mB,m2,b2,b1,mN,dR,dS,jA,mV,mC,dW,nj,EC,eM,ee,d4,gN,ms,ni,gj,wU,pI,eD,hZ,lt,h,f,d,dI,hnd,li];simp[show fr 1000000000000000000000000000000000000000000000000000000000000 1000000000000000000000000000000=M from j,c,f,d]
 obtain⟨g,m,e⟩:=i;refine⟨hnd g m 0,?_,_,_,_,O,Int.le_refl _,Int.le_refl _⟩;rw[pX (n:=2) e O (by rw[D.unds,D.und,mS];rfl) (by simp[D.und])];simp[D.sh,Ob.sh,D.shs,hnd]
abbrev jJ:=List (List Nat)
structure WN (t m:Nat)(T:Sto)(E:jJ)(U:Sto):Prop where
 tl:T.length=t
 low:U.take t=T
 el:E.length=m
 row:∀(i:Nat) (row:List Nat),E[i]?=some row->U[t+i]?=some (.lst (nmD row))
 ends:U[t+m]?=some (.lst (jV (t+1) m))
 cl:∀o∈U,o.und (U.length+1)=true
theorem HH{xs:List Nat}:(Ob.lst (nmD xs)).und n=M:=i5 (fH xs)
theorem WN.app{t:Nat}{U G:Sto}(w:WN t m T E U)(b:∀o∈G,o.und 0=M):WN t m T E (U++G):=by
 have c:t+m<U.length:=(Tg w.ends).1;refine⟨w.tl,?_,w.el,λi row h=>?_,?_,λo a=>?_⟩
 ·rw[List.take_append_of_le_length (by lia)];exact w.low
 ·have:=w.row i row h;rw[gL1 (Tg this).1];exact this
 ·rw[gL1 c];exact w.ends
 ·rcases aG.mp a with a|a
  ·exact hR (by rw[lA1];lia) (w.cl o a)
  ·exact hR (bi _) (b o a)
theorem WN.setRow{t:Nat}{U:Sto}{row:List Nat}(w:WN t m T E U)(hi:i<m):WN t m T (E.set i row) (U.set (t+i) (.lst (nmD row))):=by
 have b:t+m<U.length:=(Tg w.ends).1;refine⟨w.tl,?_,by rw[aV];exact w.el,λj r h=>?_,?_,λo a=>?_⟩
 ·rw[List.take_set_of_le (by lia)];exact w.low
 ·by_cases e:i=j
  ·subst e;rw[aJ (by rw[w.el];exact hi)]at h;cases h;rw[aJ (by lia)]
  ·rw[gS1 e]at h;rw[gS1 (by lia)];exact w.row j r h
 ·rw[gS1 (by lia)];exact w.ends
 ·rw[aV];rcases List.mem_or_eq_of_mem_set a with a|rfl
  ·exact w.cl o a
  ·exact HH
theorem WN.split{t:Nat}{U:Sto}(w:WN t m T E U):U=T++U.drop t:=by
 conv=>lhs;rw[<- cC t U,w.low]
theorem rl:∀(k n:Nat),jV n (k+1)=jV n k++[.ref (n+k)]
 |0,n=>rfl
 |k+1,n=>by
  rw[jV,rl k (n+1),jV,bj,show n+1+k=n+(k+1) by lia]
theorem uN:∀(k n N:Nat),n+k<=N->D.unds N (jV n k)=M
 |0,_,_,_=>rfl
 |k+1,n,N,h=>by
  rw[jV,D.unds,uN k (n+1) N (by lia),D.und,bM,am];lia
theorem A5{t:Nat}(tl:T.length=t)(b:T.all (Ob.und (T.length+1))=M):WN t m T (aP m []) (T++(aP m (.lst [])++[.lst (jV (t+1) m)])):=by
 refine⟨tl,by rw[<- tl,List.take_left],by simp,λi row h=>?_,?_,λo a=>?_⟩
 ·have hi:i<m:=by have:=(Tg h).1;simpa using this
  rw[aS,ak hi]at h;cases h;rw[<- tl,eZ,gL1 (by simpa using hi),aS,ak hi];rfl
 ·rw[<- tl,eZ,gR1 (by simp)];simp
 ·rw[aG,aG,bD,cH]at a;rcases a with a|⟨_,rfl⟩|rfl
  ·exact hR (by rw[lA1];lia) (bB.mp b o a)
  ·rfl
  ·rw[Ob.und];exact uN _ _ _ (by simp;lia)
theorem oC{t:Nat}{U:Sto}(w:WN t m T E U)(hi:i<m)(q:Q (.ref (t+i+1),o::U)):W (dW (.ref (t+m+1)) (.int i) (o::U)) Q:=
 kl (xs:=jV (t+1) m) (x:=.ref (t+i+1)) (by rw[gC1];exact w.ends) (by rw[sT hi];congr 2;lia) q
theorem pM{v k:Nat}:∀{E:jJ} {i:Nat} {row:List Nat},E[i]?=Z row->(E.set i (row++[k])).flatten.count v=E.flatten.count v+if k=v then 1 else 0
 |[],i,row,h=>by simp at h
 |r::E,0,row,h=>by
  rw[c6]at h;cases h;simp only[c7,da,List.count_append,List.count_cons,List.count_nil,SV];lia
 |r::E,i+1,row,h=>by
  rw[gC1]at h;simp only[cO,da,List.count_append,pM h];lia
theorem pL{k:Nat}:∀{E:jJ} {i:Nat} {row:List Nat},E[i]?=Z row->(E.set i (row++[k])).flatten.length=E.flatten.length+1
 |[],i,row,h=>by simp at h
 |r::E,0,row,h=>by
  rw[c6]at h;cases h;simp only[c7,da,lA1,lC1,bf];lia
 |r::E,i+1,row,h=>by
  rw[gC1]at h;simp only[cO,da,lA1,pL h];lia
theorem yN:∀{E:jJ} {k:Nat},k<=E.length->(∀(i:Nat) (row:List Nat),i<k->E[i]?=Z row->4<=row.length)->4*k<=E.flatten.length
 |E,0,_,_=>by lia
 |[],k+1,h,_=>by simp at h
 |r::E,k+1,h,a=>by
  have h1:=a 0 r (by lia) O;have h2:=yN (E:=E) (k:=k) (by simpa using h) λi row hi b=>a (i+1) row (by lia) b;rw[da,lA1];lia
structure WE (m:Nat)(E:jJ)(k i:Nat):Prop where
 len:E.length=m
 le:∀(i:Nat) (row:List Nat),E[i]?=some row->row.length<=4
 fl:E.flatten.length=2*k
 ct:∀v,E.flatten.count v=if v<k then 2 else 0
 jn:∀j,1<=j->j<=i -> ∃a ra rb v,a<j/\E[a]?=some ra/\E[j]?=some rb/\v∈ra/\v∈rb
theorem A8(m:Nat):WE m (aP m []) 0 0:=by
 have e:(aP m ([]:List Nat)).flatten=[]:=by
  rw[List.flatten_eq_nil_iff];intro l a;exact(bD.mp a).2
 refine⟨by simp,λi row h=>?_,by rw[e];rfl,λv=>by rw[e,aj (by lia)];rfl,λj h1 h2=>by lia⟩;rw[aS]at h;split at h
 ·cases h;simp
 ·cases h
theorem lU{k:Nat}{row:List Nat}(h:E[i]?=Z row){r:List Nat}(a:E[j]?=Z r):∃r',(E.set i (row++[k]))[j]?=Z r' /\ ∀x∈r,x∈r':=by
 by_cases z:i=j
 ·subst z;rw[h]at a;cases a;exact⟨_,aJ (Tg h).1,λx b=>aH _ b⟩
 ·exact⟨r,by rw[gS1 z];exact a,λx b=>b⟩
theorem WE.tie{k i':Nat}{ra e:List Nat}(w:WE m E k i)(ha:E[a]? = some ra)(ao:ra.length<4)(hb:(E.set a (ra++[k]))[b]? = some e)(I:e.length<4)(hi:i'<=i\/(i'=i+1/\b<a/\a=i')):
  WE m ((E.set a (ra++[k])).set b (e++[k])) (k+1) i':=by
 have a1:(E.set a (ra++[k]))[a]?=Z (ra++[k]):=aJ (Tg ha).1;refine⟨by rw[aV,aV];exact w.len,λj row d=>?_,?_,λv=>?_,λj h1 h2=>?_⟩
 ·by_cases z:b=j
  ·subst z;rw[aJ (Tg hb).1]at d;cases d;rw[lA1,aY];lia
  ·rw[gS1 z]at d;by_cases t:a=j
   ·subst t;rw[a1]at d;cases d;rw[lA1,aY];lia
   ·rw[gS1 t]at d;exact w.le j row d
 ·rw[pL hb,pL ha,w.fl];lia
 ·rw[pM hb,pM ha,w.ct v];split<;>split<;>split<;>lia
 ·rcases(show j<=i\/(j=a/\b<a) by lia)with q|⟨rfl,g⟩
  ·obtain⟨c,C,u,v,B,D,F,x,A⟩:=w.jn j h1 q;obtain⟨H,G,y⟩:=lU (k:=k) ha D;obtain⟨l,o,h⟩:=lU (k:=k) hb G;obtain⟨r2,p,s⟩:=lU (k:=k) ha F;obtain⟨n,f,r⟩:=lU (k:=k) hb p;exact⟨c,l,n,v,B,o,f,h _ (y _ x),r _ (s _ A)⟩
  ·obtain⟨r2,p,s⟩:=lU (k:=k) hb a1;exact⟨b,e++[k],r2,k,g,aJ (Tg hb).1,p,by simp,s _ (by simp)⟩
theorem Hz{t k:Nat}{U:Sto}{ra:List Nat}{r:Ev}{f g:FE}{Q:Fl×Ev×Sto->Prop}(w:WN t m T E U)(ha:a<m)(hb:b<m)(l:E[a]? = some ra)(H:ra.length<100)(A:∀ rb,E[b]? = some rb->rb.length<100)(hf:∀S,f r S=some (.int a,S))(hg:∀S,g r S=some (.int b,S))(B:mV 4 r=fun S=>some (.ref (t+m+1),S))(z:mV 3 r=fun S=>some (.int k,S))(h:∀rb v,(E.set a (ra++[k]))[b]?=some rb->WN t m T ((E.set a (ra++[k])).set b (rb++[k])) v->Q (.nx,r.set 3 (some (.int ((k+1:Nat):Int))),o::v)):
  W (dZ (fR (pr (b2 iX) (m2 (b2 dW) (mV 4) f) (dR (mV 3) dS))) (dZ (fR (pr (b2 iX) (m2 (b2 dW) (mV 4) g) (dR (mV 3) dS))) (d4 (m2 (b2 gj) (mV 3) (mC (D.int (1)))) (gN 3))) r (o::U)) Q:=by
 have ap:∀(xs:List Nat),nmD xs++[D.int (k:Int)]=nmD (xs++[k]):=λxs=>by simp[nmD]
 have i:∀ {x:Nat} {d:List Nat} {E:jJ} {U:Sto} {e:FE} {P:Fl×Ev×Sto->Prop} (w:WN t m T E U),x<m->E[x]? = some d->d.length<200->(∀ S,e r S=some (.int x,S))->P (.nx,r,o::U.set (t+x) (.lst (nmD (d++[k])))) ->
   W (fR (pr (b2 iX) (m2 (b2 dW) (mV 4) e) (dR (mV 3) dS)) r (o::U)) P:=by
  intro x d E U e P w F s G C q;have y:(o::U)[t+x+1]?=Z (.lst (nmD d)):=by rw[gC1];exact w.row x d s
  unfold fR;rw[dY];refine jp ?_;unfold m2;rw[B];simp only[oS1,C,b2];refine oC w F ?_;refine⟨t+x+1,nmD d,O,y,?_⟩;unfold dR dS;rw[z];simp only[oS1,oP1];rw[d7];refine(lx y).mpr ⟨d3 (by rw[eG];lia),?_⟩;rw[ap,cO];exact d7.mpr q
 have u:=w.setRow (row:=ra++[k]) ha;obtain⟨rb,c⟩:∃rb,(E.set a (ra++[k]))[b]?=some rb:=⟨_,gG1 (by rw[u.el];exact hb)⟩;have p:rb.length<200:=by
  by_cases e:a=b
  ·subst e;rw[aJ (by rw[w.el];exact ha)]at c;cases c;rw[lA1,aY];lia
  ·rw[gS1 e]at c;have:=A rb c;lia
 refine ei (λn S=>n=r/\S=o::U.set (t+a) (.lst (nmD (ra++[k])))) (i w ha l (by lia) hf ⟨O,O,O⟩) ?_;rintro n S ⟨rfl,rfl⟩;refine ei (λj S=>j=n/\S=o::(U.set (t+a) (.lst (nmD (ra++[k])))).set (t+b) (.lst (nmD (rb++[k])))) (i u hb c p hg ⟨O,O,O⟩) ?_;rintro j S ⟨rfl,rfl⟩;unfold d4 m2 mC gN;rw[z];simp only[oS1,b2];rw[dY,Ep];exact d7.mpr (h rb _ c (u.setRow hb))
theorem Ir{t:Nat}{U:Sto}{P x6 x7 aq N:Option D}{Q:Fl×Ev×Sto->Prop}(w:WN t m T E U)(v:WE m E i i)(ho:fG o n)(hn:n<=2^44)(hi:i+1<m)(hm:m<=8)(he:∀j row,i+1<=j->E[j]?=some row->row=[])(h:∀E' o' U' X R,WN t m T E' U'->WE m E' (i+1) (i+1)->fG o' (n+1)->(∀j row,i+2<=j->E'[j]?=some row->row=[]) ->
   Q (.nx,[Z (.ref 0),P,Z (.int m),Z (.int ((i+1:Nat):Int)),Z (.ref (t+m+1)),Z (.int ((i+1:Nat):Int)),X,R,aq,N],o'::U')):
  W (gA [Z (.ref 0),P,Z (.int m),Z (.int (i:Nat)),Z (.ref (t+m+1)),Z (.int ((i+1:Nat):Int)),x6,x7,aq,N] (o::U)) Q:=by
 have e:∀j,j<m -> ∃row,E[j]?=Z row:=λj l=>⟨_,gG1 (by rw[v.len];exact l)⟩
 let k:Nat->Bool:=λj=>decide ((E.getD j []).length<4)
 unfold gA;have K:(af (i+1)).filter k≠[]:=by
  intro z;have F:∀j row,j<i+1->E[j]?=Z row->4<=row.length:=λj row l hr=>by
   have:=List.filter_eq_nil_iff.mp z j (aC.mpr l);simp only[k,bJ,hr,b7,am]at this;lia
  have:=yN (E:=E) (k:=i+1) (by rw[v.len];lia) F;have:=v.fl;lia
 generalize au:(af (i+1)).filter k=L at K;have V:∀j∈L,j<i+1/\k j=M:=λj l=>by
  rw[<- au,aB]at l;exact⟨aC.mp l.1,l.2⟩
 have hLl:L.length<=8:=by
  rw[<- au];have:=db k (af (i+1));simp at this;lia
 refine ei (λr S=>r=[Z (.ref 0),P,Z (.int m),Z (.int (i:Nat)),Z (.ref (t+m+1)),Z (.int ((i+1:Nat):Int)),Z (.ref (U.length+1)),x7,aq,N]/\S=o::(U++[.lst (nmD L)])) ?_ ?_
 ·walk_at"w";rw[lg,Ra];refine⟨eW (by lia),?_⟩;refine iV k (λj:Nat=>.int j) (λr=>∃x,r=[x,Z (.ref (t+m+1))]) O (af (i+1)) _ ⟨_,O⟩ ?_ ?_
  ·rintro j l r ⟨x,rfl⟩;have p:j<m:=by have:=aC.mp l;lia
   obtain⟨row,c⟩:=e j p;walk_at"w";refine oC w p ?_;walk_at"w";refine eF (xs:=nmD row) (by rw[gC1];exact w.row j row c) ?_;walk_at"w";refine⟨?_,⟨_,O⟩,λ_=>trivial⟩;simp only[k,bJ,c,b7,eG];rw[bS,am,am];lia
  ·rintro r' _;walk_at"w";rw[au];exact⟨d3 (by rw[lM1];lia),O⟩
 rintro r S ⟨rfl,rfl⟩;have hL0:0<L.length:=List.length_pos_iff.mpr K;have gL:∀o:Ob,(o::(U++[Ob.lst (nmD L)]))[U.length+1]?=Z (.lst (nmD L)):=λo=>by rw[gC1,d2];rfl
 refine ei (λr S=>∃j u,j<i+1/\k j=M/\fG u (n+1)/\r=[Z (.ref 0),P,Z (.int m),Z (.int (i:Nat)),Z (.ref (t+m+1)),Z (.int ((i+1:Nat):Int)),Z (.ref (U.length+1)),Z (.int (j:Nat)),aq,N]/\S=u::(U++[.lst (nmD L)])) ?_ ?_
 ·walk_at"w";refine eF (gL _) ?_;walk_at"w";rw[eG];refine fN ho (by lia) (by lia) (by lia) λd u s hd=>?_;have C:d<L.length:=by lia
  refine kl (i:=d) (xs:=nmD L) (x:=.int (L[d]:Nat)) (gL _) (by rw[nmD,gP1,gG1 C];rfl) ?_;obtain⟨ao,g⟩:=V L[d] (bU C);exact⟨L[d],u,ao,g,s,O,O⟩
 rintro r S ⟨j,u,ao,g,s,rfl,rfl⟩;obtain⟨row,c⟩:=e j (by lia);have wq:row.length<4:=by
  simp only[k,bJ,c,b7,am]at g;exact g
 obtain⟨av,q⟩:=e (i+1) hi;have y:=he (i+1) av (nR1 _) q;subst y;have w':=w.app (G:=[Ob.lst (nmD L)]) λo ho=>by rw[cH]at ho;subst ho;exact HH
 refine Hz (a:=i+1) (b:=j) (ra:=[]) w' hi (by lia) q (by simp) (λav hb=>by rw[c]at hb;cases hb;lia) (λ_=>rfl) (λ_=>rfl) O O λav U2 f w2=>?_;have B:i+1≠j:=by lia
 have H:av=row:=by
  rw[gS1 B,c]at f;cases f;rfl
 subst H;refine h _ u U2 _ _ w2 (v.tie q (by simp) f wq (.inr ⟨O,by lia,O⟩)) s λj' I p A=>?_;rw[gS1 (by lia),gS1 (by lia)]at A;exact he j' I (by lia) A
theorem JO{t k:Nat}{U:Sto}{K G ao x7 F x9:Option D}{Q:Fl×Ev×Sto->Prop}(w:WN t m T E U)(v:WE m E k i)(ho:fG o n)(hn:n<=2^44)(hm0:0<m)(hm:m<=8)(h:∀E' k' o' U' P x9',WN t m T E' U'->WE m E' k' i->fG o' (n+2) ->
   Q (.nx,[Z (.ref 0),K,Z (.int m),Z (.int (k':Nat)),Z (.ref (t+m+1)),G,ao,P,F,x9'],o'::U')):
  W (gz [Z (.ref 0),K,Z (.int m),Z (.int (k:Nat)),Z (.ref (t+m+1)),G,ao,x7,F,x9] (o::U)) Q:=by
 have l:∀j,j<m -> ∃row,E[j]?=Z row:=λj hj=>⟨_,gG1 (by rw[v.len];exact hj)⟩;unfold gz;refine ei (λr S=>∃a b g,a<m/\b<m/\fG g (n+2)/\r=[Z (.ref 0),K,Z (.int m),Z (.int (k:Nat)),Z (.ref (t+m+1)),G,ao,Z (.int (b:Nat)),F,Z (.int (a:Nat))]/\S=g::U) ?_ ?_
 ·walk_at"w";refine fN ho (by lia) (by lia) (by lia) λa o1 au B=>?_;walk_at"w";refine fN au (by lia) (by lia) (by lia) λb g q N=>?_;walk_at"w";exact⟨a,b,g,by lia,by lia,q,O,O⟩
 rintro r S ⟨a,b,g,B,N,q,rfl,rfl⟩;obtain⟨ra,u⟩:=l a B;obtain⟨av,s⟩:=l b N;have I:Q (.nx,[Z (.ref 0),K,Z (.int m),Z (.int (k:Nat)),Z (.ref (t+m+1)),G,ao,Z (.int (b:Nat)),F,Z (.int (a:Nat))],g::U):=
  h E k g U _ _ w v q
 unfold fC;rw[dY];have L:W (qw (mB (m2 (b2 gLt) (m2 (b2 gj) (mN (b1 eM) (dR (m2 (b2 dW) (mV 4) (mV 9)) dS)) (mN (b1 pI) (dR (m2 (b2 gEq) (mV 9) (mV 7)) dS))) (mC (D.int (4))))) (mB (m2 (b2 gLt) (mN (b1 eM) (dR (m2 (b2 dW) (mV 4) (mV 7)) dS)) (mC (D.int (4))))) [Z (.ref 0),K,Z (.int m),Z (.int (k:Nat)),Z (.ref (t+m+1)),G,ao,Z (.int (b:Nat)),F,Z (.int (a:Nat))] (g::U)) λp=>p.2=g::U/\(p.1=M->ra.length+(if a=b then 1 else 0)<4/\av.length<4):=by
  walk_at"w";refine oC w B ?_;walk_at"w";refine eF (xs:=nmD ra) (by rw[gC1];exact w.row a ra u) ?_;walk_at"w";rw[eG];have e1:((a:Int) == (b:Int))=decide (a=b):=by
   rw[bS,SV,am];lia
  rw[e1];have rest:W (dW (D.ref (t+m+1)) (D.int (b:Int)) (g::U)) λx=>W (eM x.fst x.snd) λx=>W (gLt x.fst (D.int 4) x.snd) λx=>W (match x.fst with|D.bl b=>some (b,x.snd)|x=>none) λp=>p.snd=g::U/\(p.fst=true->av.length<4):=by
   refine oC w N ?_;walk_at"w";refine eF (xs:=nmD av) (by rw[gC1];exact w.row b av s) ?_;walk_at"w";rw[eG];intro V;rw[am]at V;lia
  by_cases f:a=b
  ·rw[ah f];walk_at"w";split
   ·rename_i A;rw[am]at A;refine rest.mono λx X=>X.mono λy R=>R.mono λz wq=>wq.mono λp H=>⟨H.1,λe=>⟨by first|lia|(rw[ak f];lia),H.2 e⟩⟩
   ·first|(intro z;cases z;done)|(refine⟨_,rfl,?_,λz=>?_⟩<;>first|rfl|cases z)|walk_at"w"
  ·rw[ai f];walk_at"w";split
   ·rename_i A;rw[am]at A;refine rest.mono λx X=>X.mono λy R=>R.mono λz wq=>wq.mono λp H=>⟨H.1,λe=>⟨by first|lia|(rw[aj f];lia),H.2 e⟩⟩
   ·first|(intro z;cases z;done)|(refine⟨_,rfl,?_,λz=>?_⟩<;>first|rfl|cases z)|walk_at"w"
 obtain⟨⟨c,S1⟩,ec,hS,hc⟩:=L;dsimp only at hS hc;subst hS;refine⟨_,ec,?_⟩;dsimp only;cases c with
 |false=>rw[aj (by decide)];exact d7.mpr I
 |true=>
  rw[ak O];obtain⟨h1,h2⟩:=hc O;refine Hz (a:=a) (b:=b) w B N u (by lia) (λC aq=>by rw[s]at aq;cases aq;lia) (λ_=>rfl) (λ_=>rfl) O O λC U2 d w2=>?_;have hl:C.length<4:=by
   by_cases f:a=b
   ·subst f;rw[aJ (by rw[v.len];exact B)]at d;cases d;rw[ak O]at h1;rw[lA1,aY];lia
   ·rw[gS1 f,s]at d;cases d;exact h2
  exact h _ (k+1) g U2 _ _ w2 (v.tie u (by lia) d hl (.inl (nR1 _))) q
abbrev Pl:=List ((Nat×Nat)×Nat)
noncomputable def iF(i:Nat)(row:List Nat):Pl:=row.zipIdx.map λp=>((i,p.2),p.1)
def fz:Nat->jJ->Pl
 |_,[]=>[]
 |i,row::R=>iF i row++fz (i+1) R
noncomputable def ps(A:Pl)(v:Nat):List (Nat×Nat):=(A.filter λx=>x.2 == v).map (·.1)
theorem B4{v:Nat}{row:List Nat}(h:row[j]?=Z v):iF i (row.take (j+1))=iF i (row.take j)++[((i,j),v)]:=by
 have a:=(Tg h).1;unfold iF;rw[cu,h,Option.toList_some,List.zipIdx_append,cr];simp;lia
theorem nl:∀{R:jJ} {i k:Nat} {row:List Nat},R[i]?=Z row->fz k (R.take (i+1))=fz k (R.take i)++iF (k+i) row
 |[],i,k,row,h=>by simp at h
 |r::R,0,k,row,h=>by
  rw[c6]at h;cases h;simp[fz]
 |r::R,i+1,k,row,h=>by
  rw[gC1]at h;rw[List.take_succ_cons,List.take_succ_cons,fz,fz,nl h,bG,show k+1+i=k+(i+1) by lia]
theorem ym{row:List Nat}{x:(Nat×Nat)×Nat}:x∈iF i row↔x.1.1=i/\row[x.1.2]?=Z x.2:=by
 obtain⟨⟨a,b⟩,c⟩:=x;unfold iF;rw[cc];constructor
 ·rintro⟨⟨v,j⟩,h,e⟩;cases e;exact⟨O,cZ.mp h⟩
 ·rintro⟨rfl,h⟩;exact⟨(c,b),cZ.mpr h,O⟩
theorem pp:∀{R:jJ} {k:Nat} {x:(Nat×Nat)×Nat},x∈fz k R ↔ ∃i row,x.1.1=k+i/\R[i]?=Z row/\row[x.1.2]?=Z x.2
 |[],k,x=>by simp[fz]
 |r::R,k,x=>by
  rw[fz,aG,ym,pp (R:=R)];constructor
  ·rintro(⟨h1,h2⟩|⟨i,row,h1,h2,a⟩)
   ·exact⟨0,r,by lia,O,h2⟩
   ·exact⟨i+1,row,by lia,h2,a⟩
  ·rintro⟨i,row,h1,h2,a⟩;cases i with
   |zero=>cases h2;exact .inl ⟨by lia,a⟩
   |succ i=>exact .inr ⟨i,row,by lia,h2,a⟩
theorem Fv{row:List Nat}:(iF i row).map (·.2)=row:=by
 unfold iF;rw[bu];exact List.zipIdx_map_fst 0 row
theorem vv:∀{R:jJ} {k:Nat},(fz k R).map (·.2)=R.flatten
 |[],_=>rfl
 |r::R,k=>by rw[fz,cr,Fv,vv (R:=R),da]
theorem I3{row:List Nat}:((iF i row).map (·.1)).Nodup:=by
 unfold iF;rw[bu];have e:(row.zipIdx.map ((λx:(Nat×Nat)×Nat=>x.1)∘λp=>((i,p.2),p.1)))=(row.zipIdx.map (·.2)).map λj=>(i,j):=by rw[bu];rfl
 rw[e,List.zipIdx_map_snd,<- List.range_eq_range'];exact c5.mpr (List.nodup_range.imp λh z=>h (Prod.mk.inj z).2)
theorem tZ:∀{R:jJ} {k:Nat},((fz k R).map (·.1)).Nodup
 |[],_=>bp
 |r::R,k=>by
  rw[fz,cr,bx];refine⟨I3,tZ,λa d b c e=>?_⟩;obtain⟨x,f,rfl⟩:=cc.mp d;obtain⟨y,g,rfl⟩:=cc.mp c;have h1:=(ym.mp f).1;obtain⟨i,row,h2,_⟩:=pp.mp g;rw[e]at h1;lia
theorem IY{A:Pl}{v:Nat}:(ps A v).length=(A.map (·.2)).count v:=by
 unfold ps;rw[lM1,List.count,List.countP_map,List.countP_eq_length_filter];rfl
theorem ol{A:Pl}{p:Nat×Nat}{v u:Nat}:ps (A++[(p,v)]) u=if v=u then ps A u++[p]else ps A u:=by
 unfold ps;rw[de,cr];by_cases h:v=u
 ·simp[h]
 ·simp[h]
theorem JW{A:Pl}{p:Nat×Nat}{v:Nat}:p∈ps A v↔(p,v)∈A:=by
 unfold ps;rw[cc];constructor
 ·rintro⟨⟨q,u⟩,h,e⟩;obtain⟨h1,h2⟩:=aB.mp h;have h2:u=v:=by simpa using h2
  cases e;cases h2;exact h1
 ·intro h;exact⟨(p,v),aB.mpr ⟨h,by simp⟩,O⟩
theorem L3{A:Pl}{v:Nat}(h:(A.map (·.1)).Nodup):(ps A v).Nodup:=h.sublist (List.filter_sublist.map _)
structure PL (b:Nat)(A:Pl)(kv:List (Key×D))(H:Sto):Prop where
 no:∀v:Nat,ps A v=[]->d6 kv (Sum.inl (v:Int))=none
 yes:∀v:Nat,ps A v≠[] -> ∃h,d6 kv (Sum.inl (v:Int))=some (.ref (b+h))/\H[h]?=some (.lst ((ps A v).map pD))
 inj:∀v u h:Nat,d6 kv (Sum.inl (v:Int))=some (.ref (b+h))->d6 kv (Sum.inl (u:Int))=some (.ref (b+h))->v=u
 few:kv.length<=A.length
theorem pF{v u:Nat}(h:v≠u):(Sum.inl (v:Int):Key)≠Sum.inl (u:Int):=λe=>h (by injection e with e;lia)
theorem PL.old{v h:Nat}{A:Pl}{kv:List (Key×D)}{H:Sto}{p:Nat×Nat}(P:PL b A kv H)(hv:ps A v≠[])(e:d6 kv (Sum.inl (v:Int))=some (.ref (b+h)))(g:H[h]? = some (.lst ((ps A v).map pD))):
  PL b (A++[(p,v)]) kv ((H++[Ob.lst []]).set h (.lst ((ps A v).map pD++[pD p]))):=by
 have i:=(Tg g).1;refine⟨λu a=>?_,λu a=>?_,P.inj,by rw[lA1];have:=P.few;lia⟩
 ·rw[ol]at a;split at a
  ·simp at a
  ·exact P.no u a
 ·rw[ol]at a ⊢;by_cases c:v=u
  ·subst c;rw[ak O,cr];exact⟨h,e,aJ (by rw[lA1];lia)⟩
  ·rw[aj c]at a ⊢;obtain⟨h',d,f⟩:=P.yes u a;refine⟨h',d,?_⟩;rw[gS1 (λz=>c (P.inj v u h e (by rw[z];exact d))),gL1 (Tg f).1];exact f
theorem PL.new{v:Nat}{A:Pl}{kv:List (Key×D)}{H:Sto}{p:Nat×Nat}(P:PL b A kv H)(hv:ps A v=[]):
  PL b (A++[(p,v)]) (hO kv (Sum.inl (v:Int)) (.ref (b+H.length))) (H++[.lst [pD p]]):=by
 refine⟨λu f=>?_,λu f=>?_,λu j h d c=>?_,by rw[lA1,aY];have:=P.few;have:=sV (k:=(Sum.inl (v:Int):Key)) (v:=D.ref (b+H.length)) (a:=kv);lia⟩
 ·rw[ol]at f;split at f
  ·simp at f
  ·rename_i l;rw[fD,aj (pF (Qk l))];exact P.no u f
 ·rw[ol]at f ⊢;by_cases g:v=u
  ·subst g;rw[ak O,hv,fD,ak O];exact⟨H.length,O,by rw[gR1 (nR1 _),cQ];rfl⟩
  ·rw[aj g]at f ⊢;obtain⟨h',d,c⟩:=P.yes u f;refine⟨h',by rw[fD,aj (pF (Qk g))];exact d,?_⟩;rw[gL1 (Tg c).1];exact c
 ·have old:∀ w:Nat,w≠v->d6 kv (Sum.inl (w:Int))=some (.ref (b+h))->h<H.length:=fun w o e=>by
   by_cases m:ps A w=[]
   ·rw[P.no w m]at e;cases e
   ·obtain⟨h',i,n⟩:=P.yes w m;rw[e]at i;have:h=h':=by injection i with i;injection i with i;lia
    rw[this];exact(Tg n).1
  rw[fD]at d c;by_cases h1:u=v
  ·by_cases h2:j=v
   ·rw[h1,h2]
   ·rw[ak (by rw[h1])]at d;rw[aj (pF h2)]at c;have:=old j h2 c;have:h=H.length:=by injection d with d;injection d with d;lia
    lia
  ·rw[aj (pF h1)]at d;by_cases h2:j=v
   ·rw[ak (by rw[h2])]at c;have:=old u h1 d;have:h=H.length:=by injection c with c;injection c with c;lia
    lia
   ·rw[aj (pF h2)]at c;exact P.inj u j h d c
def jH(A:Pl)(v:Nat)(e:Nat×Nat):Nat×Nat:=let l:=ps A v;if l.getD 0 (0,0)=e then l.getD 1 (0,0)else l.getD 0 (0,0)
theorem Bd{A:Pl}{v:Nat}(h2:(ps A v).length=2):∃p q,ps A v=[p,q]:=by
 match hp:ps A v,h2 with
 |[p,q],_=>exact⟨p,q,O⟩
theorem yd{A:Pl}{v:Nat}{e:Nat×Nat}(nd:(A.map (·.1)).Nodup)(h2:(ps A v).length=2)(he:(e,v)∈A):(jH A v e,v)∈A/\jH A v e≠e/\jH A v (jH A v e)=e /\ ∀x,(x,v)∈A->x=e\/x=jH A v e:=by
 obtain⟨p,q,c⟩:=Bd h2;have g:=L3 (v:=v) nd;rw[c]at g;have a:p≠q:=by simpa using g
 have m:∀x,(x,v)∈A↔x=p\/x=q:=λx=>by rw[<- JW,c];simp
 have d:∀x,jH A v x=if p=x then q else p:=λx=>by simp[jH,c]
 rcases(m e).mp he with rfl|rfl
 ·have b:jH A v e=q:=by rw[d,ak O]
  rw[b];exact⟨(m q).mpr (.inr O),Qk a,by rw[d,aj a],λx f=>(m x).mp f⟩
 ·have b:jH A v e=p:=by rw[d,aj a]
  rw[b];exact⟨(m p).mpr (.inl O),a,by rw[d,ak O],λx f=>((m x).mp f).symm⟩
theorem uv{c:FT}{b:FS}{Q:Fl×Ev×Sto->Prop}(I:Nat->Ev->Sto->Prop)(N:Nat)(step:∀k r S,I k r S->W (c r S) fun p=>if p.1=true then k<N/\W (b r p.2) fun q=>q.1 = .nx/\I (k+1) q.2.1 q.2.2 else Q (.nx,r,p.2)):
  ∀(a k:Nat) (r:Ev) (S:Sto),N-k<a->I k r S->W (q9 c b a r S) Q
 |0,k,r,S,hf,_=>by lia
 |a+1,k,r,S,hf,hi=>by
  rw[q9];dsimp only;rw[dY];obtain⟨⟨t,n⟩,e,h⟩:=step k r S hi;refine⟨_,e,?_⟩;dsimp only at h ⊢;cases t with
  |true=>
   rw[ak O]at h ⊢;obtain⟨m,⟨f,j,l⟩,i,g,d⟩:=h;dsimp only at g d;subst g;rw[i,oS1];exact uv I N step a (k+1) j l (by lia) d
  |false=>
   rw[aj (by decide)]at h ⊢;exact d7.mpr h
theorem zh{m:FA}{r:Ev}{xs:List D}{Q:AQ×Sto->Prop}(hm:m r S=Z ([.ref n],S))(hn:S[n]?=Z (.lst xs))(q:Q (⟨vD 0 xs,[(n,xs)]⟩,S)):W (qx m r S) Q:=by
 refine W.of (x:=(⟨vD 0 xs,[(n,xs)]⟩,S)) ?_ q;simp only[qx,hm,oS1,fP hn,oA hn]
theorem pN:∀{xs:List Nat} {i:Nat} (h:i<xs.length),(xs[i]::xs.eraseIdx i).Perm xs
 |x::xs,0,h=>.refl _
 |x::xs,i+1,h=>by
  rw[List.eraseIdx_cons_succ,List.getElem_cons_succ];exact(List.Perm.swap x _ _).trans ((pN (by simpa using h)).cons x)
theorem uQ{xs row:List Nat}{x:Nat}(h:(rs++xs).Perm row)(hx:xs[i]?=Z x):((rs++[x])++xs.eraseIdx i).Perm row:=by
 refine List.Perm.trans ?_ h;rw[bG];refine List.Perm.append_left rs ?_;obtain⟨hi,rfl⟩:=Tg hx;exact pN hi
theorem Cw{xs:List Nat}{x:Nat}(h:xs[i]?=Z x):(nmD xs)[i]?=Z (.int x):=by rw[nmD,gP1,h];rfl
theorem u3{xs:List Nat}:(nmD xs).eraseIdx i=nmD (xs.eraseIdx i):=by
 rw[nmD,nmD,cD,cD,cr,List.map_take,List.map_drop]
theorem ot{xs:List Nat}{x:Nat}:nmD xs++[D.int (x:Int)]=nmD (xs++[x]):=by simp[nmD]
theorem IH{V:Sto}{row:List Nat}{s j t m p h v:Option D}{Q:Fl×Ev×Sto->Prop}(ho:fG o n)(hn:n<=2^44)(hr:row.length<=4)(q:∀o' rs G,fG o' (n+4)->rs.Perm row->Q (.nx,[some (.ref 0),s,j,t,some (.ref (V.length+1)),some (.ref (V.length+2)),m,p,h,v],o'::(V ++ .lst [] :: .lst (nmD rs)::G))):
  W (q9 im il 100000 [Z (.ref 0),s,j,t,Z (.ref (V.length+1)),Z (.ref (V.length+2)),m,p,h,v] (o::(V++[.lst (nmD row),.lst []]))) Q:=by
 refine uv (λk r S=>∃o' a rs G,fG o' (n+k)/\(rs++a).Perm row/\rs.length=k/\S=o'::(V ++ .lst (nmD a) :: .lst (nmD rs)::G)/\r=[Z (.ref 0),s,j,t,Z (.ref (V.length+1)),Z (.ref (V.length+2)),m,p,h,v]) 4 ?_ 100000 0 _ _ (by lia) ⟨o,row,[],[],ho,.refl _,O,O,O⟩;rintro k r S ⟨o',a,rs,G,c,f,z,rfl,rfl⟩;have b:=f.length_eq;rw[lA1]at b;have g:∀(o:Ob) (X:Ob) (au:Sto),(o::(V++X::au))[V.length+1]?=Z X:=λo X au=>by rw[gC1,d2];rfl
 have w:∀(o:Ob) (X wq:Ob) (au:Sto),(o::(V++X::wq::au))[V.length+2]?=Z wq:=λo X wq au=>by rw[gC1,eZ];rfl
 refine W.of (x:=(!(nmD a).isEmpty,o'::(V ++ .lst (nmD a) :: .lst (nmD rs)::(G++[.lst []])))) ?_ ?_
 ·have e:(o'::(V++Ob.lst (nmD a)::Ob.lst (nmD rs)::G))++[Ob.lst []]=o'::(V ++ .lst (nmD a) :: .lst (nmD rs)::(G++[.lst []])):=by simp
  unfold im mB m2 mV hZ dS b2;simp only[gC1,c6,c9,oP1,oS1];rw[ak (show([]:List D).length<=dI by decide),oS1,e,yH (xs:=nmD a) (g _ _ _) (by rw[<- e,d2];rfl)];rfl
 dsimp only;cases a with
 |nil=>
  rw[show(nmD ([]:List Nat)).isEmpty=M from rfl,aj (by decide)];rw[aN]at f;exact q o' rs _ (c.more (by simp at b;lia)) f
 |cons l a=>
  rw[show(!(nmD (l::a)).isEmpty)=M from rfl,ak O];refine⟨by rw[lC1]at b;lia,?_⟩;unfold il;walk_at"w";refine jp ?_;walk_at"w";refine⟨V.length+2,nmD rs,O,w _ _ _ _,?_⟩;refine jp ?_;walk_at"w";refine⟨V.length+1,nmD (l::a),O,g _ _ _,?_⟩;refine eF (g _ _ _) ?_;walk_at"w";rw[eG];rw[lC1]at b;refine fN c (by lia) (by rw[lC1];lia) (by rw[lC1];lia) λd u i A=>?_;obtain⟨x,y⟩:∃x,(l::a)[d]?=some x:=⟨_,gG1 (by lia)⟩;walk_at"w";refine Ej (g _ _ _) (Cw y) (by rw[lC1]at A;lia) ?_;have es:∀X,(u::(V++Ob.lst (nmD (l::a))::Ob.lst (nmD rs)::(G++[Ob.lst []]))).set (V.length+1) X=u::(V++X :: .lst (nmD rs)::(G++[.lst []])):=λX=>by
   rw[cO,df _ _ (nR1 _),cQ];rfl
  rw[es];walk_at"w";refine(lx (w _ _ _ _)).mpr ⟨d3 (by rw[eG];lia),?_⟩;refine⟨u,(l::a).eraseIdx d,rs++[x],G++[.lst []],i.more (by lia),uQ f y,by rw[lA1,z];rfl,?_,trivial⟩;rw[cO,df _ _ (by lia),show V.length+1-V.length=1 by lia,ot,u3];rfl
noncomputable def rk(u:Nat)(ks:List Nat):List D:=ks.map λk=>D.ref (u+2+k)
structure RS (R:jJ)(ks:List Nat)(G:Sto):Prop where
 len:ks.length=R.length
 row:∀(j k:Nat) (row:List Nat),ks[j]?=some k->R[j]?=some row->G[k]?=some (.lst (nmD row))
theorem RS.app{R:jJ}{G H:Sto}(r:RS R ks G):RS R ks (G++H):=
 ⟨r.len,λj k row h1 h2=>by have:=r.row j k row h1 h2;rw[gL1 (Tg this).1];exact this⟩
theorem RS.snoc{R:jJ}{G:Sto}{k:Nat}{row:List Nat}(r:RS R ks G)(h:G[k]?=Z (.lst (nmD row))):RS (R++[row]) (ks++[k]) G:=by
 refine⟨by rw[lA1,lA1,r.len];rfl,λj c a h1 h2=>?_⟩;by_cases b:j<ks.length
 ·rw[gL1 b]at h1;rw[gL1 (by rw[<- r.len];exact b)]at h2;exact r.row j c a h1 h2
 ·have:=(Tg h1).1;rw[lA1,aY]at this;have e:j=ks.length:=by lia
  subst e;rw[dg]at h1;rw[r.len,dg]at h2;cases h1;cases h2;exact h
theorem Ii{U G:Sto}{e:Nat}{row:List Nat}{z w c f b g:Option D}{Q:Fl×Ev×Sto->Prop}(hi:U[i]? = some (.lst (nmD row)))(ho:fG o n)(hn:n<=2^44)(hr:row.length<=4)(hk:ks.length<=100)(q:∀o' rs u k j p,fG o' (n+4)->rs.Perm row->(G++u)[k]?=some (.lst (nmD rs))->Q (.nx,[some (.ref 0),some (.ref e),some (.ref (U.length+1)),some (.ref (i+1)),j,p,c,f,b,g],o'::(U ++ .lst (rk U.length (ks++[k]))::(G++u)))):
  W (ik [Z (.ref 0),Z (.ref e),Z (.ref (U.length+1)),Z (.ref (i+1)),z,w,c,f,b,g] (o::(U ++ .lst (rk U.length ks)::G))) Q:=by
 generalize d:U ++ .lst (rk U.length ks)::G=V;have l:V.length=U.length+1+G.length:=by rw[<- d];simp;lia
 have m:V[i]?=Z (.lst (nmD row)):=by rw[<- d,gL1 (Tg hi).1];exact hi
 have t:V[U.length]?=Z (.lst (rk U.length ks)):=by rw[<- d,d2];rfl
 unfold ik;refine ei (λr S=>S=o::(V++[.lst (nmD row),.lst []])/\r=[Z (.ref 0),Z (.ref e),Z (.ref (U.length+1)),Z (.ref (i+1)),Z (.ref (V.length+1)),Z (.ref (V.length+2)),c,f,b,g]) ?_ ?_
 ·have v:∀S:Sto,S[i+1]?=Z (.lst (nmD row))->GT (.ref (i+1)) S=Z (.ref S.length,S++[.lst (nmD row)]):=λS h=>by unfold GT;rw[fP h];rfl
  ((try walk_at"w");repeat(simp only[v (o::V) (by rw[gC1];exact m)];try walk_at"w"))
 rintro r S ⟨rfl,rfl⟩;refine ei (λr S=>∃o' rs G2,fG o' (n+4)/\rs.Perm row/\S=o'::(V ++ .lst [] :: .lst (nmD rs)::G2)/\r=[Z (.ref 0),Z (.ref e),Z (.ref (U.length+1)),Z (.ref (i+1)),Z (.ref (V.length+1)),Z (.ref (V.length+2)),c,f,b,g]) ?_ ?_
 ·refine IH ho hn hr λo' rs G2 h1 h2=>⟨O,o',rs,G2,h1,h2,O,O⟩
 rintro r S ⟨o',rs,G2,s,y,rfl,rfl⟩;have a:(o'::(V++Ob.lst []::Ob.lst (nmD rs)::G2))[U.length+1]?=Z (.lst (rk U.length ks)):=by
  rw[gC1,gL1 (by lia)];exact t
 walk_at"w";refine jp ?_;walk_at"w";refine⟨U.length+1,_,O,a,?_⟩;refine(lx a).mpr ⟨d3 (by unfold rk;rw[lM1];lia),?_⟩;have es:(o'::(V++Ob.lst []::Ob.lst (nmD rs)::G2)).set (U.length+1) (.lst (rk U.length ks++[.ref (V.length+2)]))=o'::(U ++ .lst (rk U.length (ks++[G.length+1]))::(G++Ob.lst []::Ob.lst (nmD rs)::G2)):=by
  have x:rk U.length ks++[.ref (V.length+2)]=rk U.length (ks++[G.length+1]):=by
   unfold rk;rw[cr,l,show U.length+1+G.length+2=U.length+2+(G.length+1) by lia];rfl
  rw[x,<- d,cO,bG,df _ _ (nR1 _),cQ];rfl
 rw[es];exact q o' rs _ (G.length+1) _ _ s y (by rw[eZ];rfl)
theorem Ng{m a b:FE}{r:Ev}{v:Nat}{kv:List (Key×D)}(hm:m r S=Z (.ref n,S))(ha:a r S=Z (.int v,S))(hb:b r S=Z (.ref S.length,S++[.lst []]))(hn:S[n]? = Z (.dct kv))(e:kv.length<1000)(h1:∀z,d6 kv (Sum.inl (v:Int))=Z z->Q (z,S++[.lst []]))(h2:d6 kv (Sum.inl (v:Int))=Y->Q (.ref S.length,(S++[Ob.lst []]).set n (.dct (hO kv (Sum.inl (v:Int)) (.ref S.length))))):W (pv m a b r S) Q:=by
 have c:(S++[Ob.lst []])[n]?=Z (.dct kv):=by rw[gL1 (Tg hn).1];exact hn
 have d:kv.length<dI:=nL1 e (by decide);cases hk:d6 kv (Sum.inl (v:Int))with
 |some z=>
  refine W.of ?_ (h1 z hk);simp only[pv,hm,oS1,hn,ha,hb,c,n6,ak d,hk]
 |none=>
  refine W.of ?_ (h2 hk);simp only[pv,hm,oS1,hn,ha,hb,c,n6,ak d,hk]
theorem Fz{X H:Sto}{A:Pl}{kv:List (Key×D)}{v:Nat}{t r k l m:Option D}{Q:Fl×Ev×Sto->Prop}(P:PL (X.length+2) A kv H)(G:A.length<100)(q:∀a H',PL (X.length+2) (A++[((i,j),v)]) a H'->Q (.nx,[some (.ref 0),t,r,k,l,m,some (.ref (X.length+1)),some (.int (i:Nat)),some (.int (j:Nat)),some (.int (v:Nat))],o::(X ++ .dct a::H'))):
  W (ij [Z (.ref 0),t,r,k,l,m,Z (.ref (X.length+1)),Z (.int (i:Nat)),Z (.int (j:Nat)),Z (.int (v:Nat))] (o::(X ++ .dct kv::H))) Q:=by
 have I:=P.few;have B:∀(o:Ob) (wq:Ob) (au:Sto),(o::(X++wq::au))[X.length+1]?=Z wq:=λo wq au=>by rw[gC1,d2];rfl
 have F:∀(o:Ob) (wq:Ob) (au:Sto) (h:Nat),(o::(X++wq::au))[X.length+2+h]?=au[h]?:=λo wq au h=>by rw[show X.length+2+h=X.length+(h+1)+1 by lia,gC1,eZ];rfl
 have C:(o::(X++Ob.dct kv::H)).length=X.length+2+H.length:=by simp;lia
 have y:(o::(X++Ob.dct kv::H))++[Ob.lst []]=o::(X ++ .dct kv::(H++[.lst []])):=by simp
 have st:∀(wq:Ob) (au:Sto) (h:Nat) (V:Ob),(o::(X++wq::au)).set (X.length+2+h) V=o::(X++wq::au.set h V):=λwq au h V=>by
  rw[show X.length+2+h=X.length+(h+1)+1 by lia,cO,df _ _ (by lia),show X.length+(h+1)-X.length=h+1 by lia];rfl
 have f:∀ (a:List (Key×D)) (H1:Sto) (h:Nat) (ys:List (Nat×Nat)) (u:Sto),u=o::(X ++ .dct a::H1)->H1[h]? = some (.lst (ys.map pD))->ys.length<200->PL (X.length+2) (A++[((i,j),v)]) a (H1.set h (.lst (ys.map pD++[pD (i,j)]))) ->
   ∃n xs,D.ref (X.length+2+h) = .ref n/\u[n]?=Z (.lst xs)/\W (dR (eQ (dR (mV 7) (dR (mV 8) dS))) dS [Z (.ref 0),t,r,k,l,m,Z (.ref (X.length+1)),Z (.int (i:Nat)),Z (.int (j:Nat)),Z (.int (v:Nat))] u) λq=>W (b2 iX (.ref n::q.1) q.2) λp=>W (Z (Fl.nx,[Z (.ref 0),t,r,k,l,m,Z (.ref (X.length+1)),Z (.int (i:Nat)),Z (.int (j:Nat)),Z (.int (v:Nat))],p.2)) Q:=by
  rintro a H1 h ys u rfl e w E;have b:=F o (.dct a) H1 h;rw[e]at b;refine⟨X.length+2+h,_,O,b,?_⟩;walk_at"w";refine(lx b).mpr ⟨d3 (by rw[lM1];lia),?_⟩;have:=q a _ E;rw[<- st]at this;exact this
 unfold ij;unfold fR;rw[dY];refine jp ?_;refine Ng (n:=X.length+1) (v:=v) (kv:=kv) O O ?_ (B _ _ _) (by lia) (λz c=>?_) (λc=>?_)
 ·unfold hZ dS;rw[oS1];rfl
 ·by_cases d:ps A v=[]
  ·rw[P.no v d]at c;cases c
  ·obtain⟨h,s,b⟩:=P.yes v d;rw[s]at c;cases c;have w:=(Tg b).1;refine f kv (H++[.lst []]) h (ps A v) _ y (by rw[gL1 w];exact b) ?_ (P.old d s b);unfold ps;rw[lM1];have:=db (λx=>x.2 == v) A;lia
 ·by_cases d:ps A v=[]
  ·have g:=P.new (p:=(i,j)) d;rw[C];refine f (hO kv (Sum.inl (v:Int)) (.ref (X.length+2+H.length))) (H++[.lst []]) H.length [] _ ?_ (by rw[gR1 (nR1 _),cQ];rfl) (by simp) ?_
   ·rw[y,cO,df _ _ (nR1 _),cQ];rfl
   ·rw[df _ _ (nR1 _),cQ];exact g
  ·obtain⟨h,s,b⟩:=P.yes v d;rw[s]at c;cases c
abbrev dV:=List (List (Nat×Nat))
def webD(w:dV):D:=.tup (w.map λrow=>.tup (row.map pD))
theorem eL(w:dV):(webD w).und 0=M:=by
 unfold webD;rw[D.und];exact eN λrow _=>by rw[D.und];exact eN λ_ _=>rfl
def wy(A:Pl)(i:Nat)(row:List Nat):List (Nat×Nat):=row.zipIdx.map λq=>jH A q.1 (i,q.2)
def lB(R:jJ):dV:=R.zipIdx.map λp=>wy (fz 0 R) p.2 p.1
theorem sD{R:jJ}:(lB R)[i]?=(R[i]?).map (wy (fz 0 R) i):=by
 unfold lB;rw[gP1,di];cases R[i]? <;> simp
structure v6 (E R:jJ):Prop where
 len:R.length=E.length
 row:∀(i:Nat) (r e:List Nat),R[i]?=some r->E[i]?=some e->r.Perm e
theorem v6.snoc{R:jJ}{r e:List Nat}(h:v6 (E.take i) R)(he:E[i]?=Z e)(p:r.Perm e):v6 (E.take (i+1)) (R++[r]):=by
 have hi:=(Tg he).1;have a:R.length=i:=by have:=h.len;rw[aR]at this;lia
 refine⟨by rw[lA1,aR,a,aY];lia,λj b d h1 h2=>?_⟩;by_cases c:j<i
 ·rw[gL1 (by lia)]at h1;rw[aT (by lia)]at h2;exact h.row j b d h1 (by rw[aT c];exact h2)
 ·have:=(Tg h1).1;rw[lA1,aY]at this;have e:j=i:=by lia
  subst e;rw[aT (by lia),he]at h2;rw[<- a,dg]at h1;cases h1;cases h2;exact p
theorem mY:∀{E R:jJ},v6 E R->R.flatten.Perm E.flatten
 |[],[],_=>.refl _
 |[],_::_,h=>by have:=h.len;simp at this
 |_::_,[],h=>by have:=h.len;simp at this
 |e::E,r::R,h=>(h.row 0 r e O O).append (mY ⟨by simpa using h.len,λi a b h1 h2=>h.row (i+1) a b h1 h2⟩)
theorem wB{k l:Nat}{R:jJ}{row:List Nat}(v:WE m E k l)(sh:v6 E R)(hr:R[i]?=Z row)(ha:row[j]?=Z a):(ps (fz 0 R) a).length=2:=by
 rw[IY,vv,(mY sh).count_eq,v.ct a];have b:a∈R.flatten:=List.mem_flatten.mpr ⟨row,gM1 hr,gM1 ha⟩;have:=List.count_pos_iff.mpr b;rw[(mY sh).count_eq,v.ct a]at this;split at this
 ·rename_i h;rw[ak h]
 ·lia
theorem HC{u k:Nat}(h:ks[j]?=Z k):(rk u ks)[j]?=Z (.ref (u+2+k)):=by unfold rk;rw[gP1,h];rfl
theorem sS{u:Nat}:(rk u ks).length=ks.length:=by unfold rk;rw[lM1]
theorem yJ{v:Nat}{F:List (Key×D)}{d:D}(h:S[n]?=Z (.dct F))(a:d6 F (Sum.inl (v:Int))=Z d)(q:Q (d,S)):W (dW (.ref n) (.int (v:Nat)) S) Q:=by
 refine W.of ?_ q;simp only[dW,nj,h,n6,oS1,a,oP1]
theorem MQ{a:Nat×Nat}:gEq (pD a) (.tup [.int i,.int j]) S=Z (.bl (a == (i,j)),S):=by
 have:=w5 (S:=S) (n:=58) (a:=a) (b:=(i,j));show(jm S eu (pD a) (pD (i,j))).map _=_;unfold eu;rw[this];rfl
inductive DI (E:jJ)(U:Sto)(t m n:Nat):Nat->Ev->Sto->Prop
 |mk (i:Nat) (R:jJ) (ks:List Nat) (G:Sto) (o':Ob) (x3 x4 x5:Option D) (hi:i<=m) (sh:v6 (E.take i) R) (rs:RS R ks G) (ho:fG o' (n+4*i)):DI E U t m n i [some (.ref 0),some (.ref (t+m+1)),some (.ref (U.length+1)),x3,x4,x5,none,none,none,none] (o'::(U ++ .lst (rk U.length ks)::G))
inductive DJ (R:jJ)(X:Sto)(o':Ob)(a b:Nat)(x3 x4:Option D)(m:Nat):Nat->Ev->Sto->Prop
 |mk (i:Nat) (kv:List (Key×D)) (H:Sto) (x5 x7 x8 x9:Option D) (hi:i<=m) (P:PL (X.length+2) (fz 0 (R.take i)) kv H):DJ R X o' a b x3 x4 m i [some (.ref 0),some (.ref a),some (.ref b),x3,x4,x5,some (.ref (X.length+1)),x7,x8,x9] (o'::(X ++ .dct kv::H))
inductive DK (R:jJ)(X:Sto)(o':Ob)(a b:Nat)(x3 x4:Option D)(x5:Nat)(i:Nat)(row:List Nat):Nat->Ev->Sto->Prop
 |mk (j:Nat) (kv:List (Key×D)) (H:Sto) (x8 x9:Option D) (hj:j<=row.length) (P:PL (X.length+2) (fz 0 (R.take i)++iF i (row.take j)) kv H):DK R X o' a b x3 x4 x5 i row j [some (.ref 0),some (.ref a),some (.ref b),x3,x4,some (.ref x5),some (.ref (X.length+1)),some (.int (i:Nat)),x8,x9] (o'::(X ++ .dct kv::H))
theorem DE{t k:Nat}{U:Sto}(w:WN t m T E U)(v:WE m E k (m-1))(ho:fG o n)(hn:n<=2^43)(hm:m<=8)(q:∀R o',v6 E R->fG o' (n+40)->Q (webD (lB R),o'::U)):W (dU 2 gr [.ref 0,.ref (t+m+1)] (o::U)) Q:=by
 refine mF O O (bB.mpr w.cl) ?_;unfold gr;refine jl ?_;unfold ls;have hlE:=w.el;refine ei (λr S=>S=o::(U ++ .lst (rk U.length [])::[])/\r=[Z (.ref 0),Z (.ref (t+m+1)),Z (.ref (U.length+1)),Y,Y,Y,Y,Y,Y,Y]) ?_ ?_
 ·walk_at"w";exact⟨O,trivial⟩
 rintro r S ⟨rfl,rfl⟩;refine ei (DI E U t m n m) ?_ ?_
 ·have y:∀(o:Ob) (au:Sto),(o::(U++au))[t+m+1]?=Z (.lst (jV (t+1) m)):=λo au=>by rw[gC1,gL1 (Tg w.ends).1];exact w.ends
  walk_at"w";refine eF (y _ _) ?_;refine eY (DI E U t m n) _ 0 _ _ (.mk 0 [] [] [] o Y Y Y (bi _) ⟨O,λi r e h=>by simp at h⟩ ⟨O,λj k row h=>by simp at h⟩ ho) ?_ ?_ ?_
  ·rintro i r S ⟨R,ks,G,o',L,aq,N,_,_,_,_⟩;exact fQ (y _ _)
  ·rintro i d g r S ⟨R,ks,G,o',L,aq,N,hi,sh,rs,F⟩;have c:=(Tg g).1;dsimp only at c g;rw[l0]at c;rw[bO]at *
   rw[sT c]at g;cases g;obtain⟨row,b⟩:∃row,E[i]?=some row:=⟨_,gG1 (by lia)⟩;have hks:ks.length=i:=by rw[rs.len,sh.len,aR];lia
   walk_at"w";rw[show t+1+i=t+i+1 by lia];refine Ii (i:=t+i) (w.row i row b) F (by lia) (v.le i row b) (by lia) λo2 rs2 G2 k2 x4' x5' h1 h2 h3=>?_;exact⟨O,.mk _ (R++[rs2]) (ks++[k2]) (G++G2) o2 _ _ _ c (sh.snoc b h2) (rs.app.snoc h3) (h1.more (nR1 _))⟩
  ·intro r S h;rw[l0,bO]at h;exact⟨O,h⟩
 rintro r S ⟨R,ks,G,o',L,aq,N,_,sh,rs,F⟩;rw[cm (Nat.le_of_eq hlE)]at sh;generalize hX:U ++ .lst (rk U.length ks)::G=X;have C:R.length=m:=by rw[sh.len];exact hlE
 have ao:∀(i:Nat) (row:List Nat),R[i]?=Z row->row.length<=4:=λi row h=>by
  obtain⟨e,he⟩:∃e,E[i]?=some e:=⟨_,gG1 (by have:=(Tg h).1;lia)⟩;rw[(sh.row i row e h he).length_eq];exact v.le i e he
 have gk:∀(o:Ob) (au:Sto),(o::(X++au))[U.length+1]?=Z (.lst (rk U.length ks)):=λo au=>by
  rw[<- hX,gC1,bG,d2];rfl
 have s:∀(o:Ob) (au:Sto) (i k:Nat) (row:List Nat),ks[i]?=Z k->R[i]?=Z row->(o::(X++au))[U.length+2+k]?=Z (.lst (nmD row)):=λo au i k row h1 h2=>by
  have e:=rs.row i k row h1 h2;rw[<- hX,show U.length+2+k=U.length+(k+1)+1 by lia,gC1,bG,eZ,bj,gC1,gL1 (Tg e).1];exact e
 refine ei (λr S=>S=o'::(X ++ .dct []::[])/\r=[Z (.ref 0),Z (.ref (t+m+1)),Z (.ref (U.length+1)),L,aq,N,Z (.ref (X.length+1)),Y,Y,Y]) ?_ ?_
 ·wp_walk using pu
 rintro r S ⟨rfl,rfl⟩;have lenA:∀i,i<=m->(fz 0 (R.take i)).length<=4*i:=by
  intro i
  induction i with
  |zero=>intro _;simp[fz]
  |succ i ih=>
   intro hi;obtain⟨row,b⟩:∃row,R[i]?=some row:=⟨_,gG1 (by lia)⟩;rw[nl b,lA1];have:=ih (by lia);have:=ao i row b;simp[iF];lia
 refine ei (DJ R X o' (t+m+1) (U.length+1) L aq m m) ?_ ?_
 ·unfold fO;rw[dY];refine zh (n:=U.length+1) O (gk _ _) ?_;refine eY (DJ R X o' (t+m+1) (U.length+1) L aq m) _ 0 _ _ (.mk 0 [] [] _ _ _ _ (bi _) ⟨λv _=>rfl,λv h=>(h O).elim,λv u h e=>by simp[d6]at e,by simp⟩) ?_ ?_ ?_
  ·rintro i r S ⟨A,H,N,x7,x8,x9,_,_⟩;exact fQ (gk _ _)
  ·rintro i d g r S ⟨A,H,N,x7,x8,x9,hi,P⟩;dsimp only at g;rw[gR]at g;obtain⟨z,B,rfl⟩:=Ti g;have c:=(Tg B).1;rw[sS]at c;obtain⟨k2,l⟩:∃k2,ks[i]?=some k2:=⟨_,gG1 c⟩;rw[HC l]at B;cases B;have hil:i<m:=by rw[<- C,<- rs.len];exact c
   obtain⟨row,b⟩:∃row,R[i]?=some row:=⟨_,gG1 (by lia)⟩;rw[bO]at *
   walk_at"w";unfold jD fO;rw[dY];refine zh (n:=U.length+2+k2) O (s _ _ i k2 row l b) ?_;refine eY (DK R X o' (t+m+1) (U.length+1) L aq (U.length+2+k2) i row) _ 0 _ _ (.mk 0 A H _ _ (bi _) (by simpa[iF]using P)) ?_ ?_ ?_
   ·rintro j r S ⟨A,H,x8,x9,_,_⟩;exact fQ (s _ _ i k2 row l b)
   ·rintro j d g r S ⟨A,H,x8,x9,hj,P⟩;dsimp only at g;rw[gR]at g;obtain⟨z,B,rfl⟩:=Ti g;rw[nmD,gP1]at B;obtain⟨way,I,rfl⟩:=Ti B;have hjl:=(Tg I).1;rw[bO]at *
    have:=lenA i (by lia);have:=ao i row b;walk_at"w";refine Fz P (by rw[lA1];simp[iF];lia) λkv' H' P'=>?_;rw[bG,<- B4 I]at P';exact⟨O,.mk _ kv' H' _ _ hjl P'⟩
   ·rintro r S ⟨A,H,x8,x9,hj,P⟩;rw[hC,eG,bO,bY]at P;refine⟨O,.mk _ A H _ _ _ _ hil ?_⟩;rw[nl b,bO];exact P
  ·intro r S h;rw[hC,sS,rs.len,bO,C]at h;exact⟨O,h⟩
 rintro r S ⟨A,H,N,x7,x8,x9,_,P⟩;rw[cm (Nat.le_of_eq C)]at P;obtain⟨au,hY⟩:∃au,au=Ob.dct A::H:=⟨_,O⟩;rw[<- hY];have cnt:∀(i j a:Nat) (row:List Nat),R[i]?=Z row->row[j]?=Z a -> ∃p av h,ps (fz 0 R) a=[p,av]/\d6 A (Sum.inl (a:Int))=Z (.ref (X.length+2+h))/\H[h]?=Z (.lst [pD p,pD av]):=by
  intro i j a row hr ha;have h2:=wB v sh hr ha;obtain⟨p,av,e⟩:=Bd h2;obtain⟨h,e1,e2⟩:=P.yes a (by rw[e];simp);rw[e]at e2;exact⟨p,av,h,e,e1,e2⟩
 have gY:∀(o:Ob) (wq:Sto) (h:Nat) (x:Ob),H[h]?=Z x->(o::(X++(au++wq)))[X.length+2+h]?=Z x:=λo wq h x e=>by
  rw[hY,show X.length+2+h=X.length+(h+1)+1 by lia,gC1,eZ,bj,gC1,gL1 (Tg e).1];exact e
 have gd:∀(o:Ob) (wq:Sto),(o::(X++(au++wq)))[X.length+1]?=Z (.dct A):=λo wq=>by rw[hY,gC1,d2];rfl
 walk_at"w";refine zh (n:=U.length+1) O (gk _ _) ?_;refine iS (λi K r S=>∃wq V x1,S=o'::(X++(au++wq))/\r=[V,x1,Z (.ref (X.length+1))]/\K=(((lB R).take i).map λrow=>.tup (row.map pD))) _ 0 [] _ _ ⟨[],Y,Y,by rw[aN],O,O⟩ ?_ ?_ ?_
 ·rintro i K r S ⟨wq,V,x1,rfl,_⟩;exact fQ (gk _ _)
 ·rintro i d g K r S ⟨wq,V,x1,rfl,rfl,rfl⟩;dsimp only at g;rw[gR]at g;obtain⟨z,B,rfl⟩:=Ti g;have c:=(Tg B).1;rw[sS]at c;obtain⟨k2,l⟩:∃k2,ks[i]?=some k2:=⟨_,gG1 c⟩;rw[HC l]at B;cases B;obtain⟨row,b⟩:∃row,R[i]?=some row:=⟨_,gG1 (by rw[<- rs.len];exact c)⟩;rw[bO]at *
  have hl:=ao i row b;walk_at"w";refine zh (n:=U.length+2+k2) O (s _ _ i k2 row l b) ?_;dsimp only;rw[nmD,w9];refine jI (f:=λp:Nat×Nat=>D.tup [.int p.2,.int p.1]) (λp=>pD (jH (fz 0 R) p.1 (i,p.2))) (λr=>∃V x1,r=[V,x1,Z (.ref (X.length+1)),Z (.int (i:Nat))]) (fQ (s _ _ i k2 row l b)) row.zipIdx _ ⟨_,_,O⟩ ?_ ?_
  ·rintro⟨a,j⟩ ha r ⟨y0,y1,rfl⟩;obtain⟨p,av,h,c1,c2,c3⟩:=cnt i j a row b (qT ha);have c4:=gY o' wq h _ c3;walk_at"w";refine yJ (gd _ _) c2 ?_;refine yJ (gd _ _) c2 ?_;refine kl (i:=0) (x:=pD p) c4 O ?_
   wp_walk using MQ
   by_cases hp:p=(i,j)
   ·rw[show(p == (i,j))=M by rw[hp];simp];walk_at"w";refine kl (i:=1) (x:=pD av) c4 O ?_;refine⟨?_,O,_,_,O⟩;simp[jH,c1,hp]
   ·rw[show(p == (i,j))=J by simp[hp]];walk_at"w";refine kl (i:=0) (x:=pD p) c4 O ?_;refine⟨?_,O,_,_,O⟩;simp[jH,c1,hp]
  ·rintro r' _;walk_at"w";refine⟨d3 (by rw[lM1,List.length_zipIdx];lia),?_⟩;refine eF (xs:=row.zipIdx.map λp=>pD (jH (fz 0 R) p.1 (i,p.2))) (by rw[gC1];simp only[<- lA1,<- bm,<- bG];rw[d2];rfl) ?_;refine⟨wq++[Ob.lst (row.zipIdx.map λp=>pD (jH (fz 0 R) p.1 (i,p.2)))],_,_,O,O,?_⟩;rw[cu,sD,b];simp[wy,Function.comp_def]
 ·rintro xs r S ⟨wq,V,x1,rfl,rfl,e⟩;dsimp only at e;have hwl:(lB R).length=m:=by unfold lB;simp[C]
  rw[cY,bO,hC,sS,rs.len,cm (by lia)]at e;subst e;walk_at"w";refine⟨d3 (by rw[lM1];lia),?_⟩;refine eF (xs:=(lB R).map λrow=>.tup (row.map pD)) (by rw[gC1];simp only[<- lA1,<- bm,<- bG];rw[d2];rfl) ?_;refine⟨webD (lB R),o',(.lst (rk U.length ks)::G)++(au++(wq++[Ob.lst ((lB R).map λrow=>.tup (row.map pD))])),?_,eL _,F.und,q R o' sh (F.more (by lia))⟩;rw[<- hX];simp only[bG];rfl
def At(w:dV)(r d:Nat)(e:Nat×Nat):Prop:=∃row,w[r]?=Z row/\row[d]?=Z e
structure WebJ (m:Nat)(w:dV):Prop where
 len:w.length=m
 le:∀(i:Nat) (row:List (Nat×Nat)),w[i]?=some row->row.length<=4
 to:∀(r d:Nat) (e:Nat×Nat),At w r d e->e.1<m
 jn:∀j,1<=j->j<m -> ∃a d e,a<j/\At w a d e/\e.1=j
structure Ef (m:Nat)(w:dV):Prop extends WebJ m w where
 bk:∀(r d:Nat) (e:Nat×Nat),At w r d e->At w e.1 e.2 (r,d)
theorem kj{w:dV}{d:Nat}{e e':Nat×Nat}(h:At w r d e)(h':At w r d e'):e=e':=by
 obtain⟨g,f,c⟩:=h;obtain⟨r2,b,a⟩:=h';rw[f]at b;cases b;rw[c]at a;cases a;rfl
structure ui (m:Nat)(w:dV):Prop extends WebJ m w where
 back:∀(r d:Nat) (e:Nat×Nat),At w r d e->At w e.1 e.2 (r,d)/\e≠(r,d)
theorem K8{R:jJ}{e:Nat×Nat}:At (lB R) i j e ↔ ∃row a,R[i]?=Z row/\row[j]?=Z a/\e=jH (fz 0 R) a (i,j):=by
 unfold At;rw[sD];constructor
 ·rintro⟨row,h1,h2⟩;obtain⟨b,d,rfl⟩:=Ti h1;unfold wy at h2;rw[gP1,di]at h2;obtain⟨x,f,rfl⟩:=Ti h2;obtain⟨a,c,rfl⟩:=Ti f;exact⟨b,a,d,c,by simp⟩
 ·rintro⟨row,a,h1,h2,rfl⟩;refine⟨wy (fz 0 R) i row,by rw[h1];rfl,?_⟩;unfold wy;rw[gP1,di,h2];simp
theorem oy{R:jJ}:((i,j),a)∈fz 0 R ↔ ∃row,R[i]?=Z row/\row[j]?=Z a:=by
 rw[pp];constructor
 ·rintro⟨c,row,h1,h2,b⟩;rw[bO]at h1;dsimp only at h1;subst h1;exact⟨row,h2,b⟩
 ·rintro⟨row,h2,b⟩;exact⟨i,row,(bO i).symm,h2,b⟩
theorem ET{k:Nat}{R:jJ}(v:WE m E k (m-1))(sh:v6 E R):ui m (lB R):=by
 have t:R.length=m:=by rw[sh.len];exact v.len
 have K:∀(i:Nat) (row:List Nat),R[i]?=Z row -> ∃e,E[i]?=Z e/\row.Perm e:=λi row h=>by
  obtain⟨e,o⟩:∃e,E[i]?=some e:=⟨_,gG1 (by have:=(Tg h).1;rw[v.len];lia)⟩;exact⟨e,o,sh.row i row e h o⟩
 have f:∀(r d:Nat) (e:Nat×Nat),At (lB R) r d e->At (lB R) e.1 e.2 (r,d)/\e≠(r,d)/\e.1<m:=λr d e h=>by
  obtain⟨row,a,h1,h2,rfl⟩:=K8.mp h;obtain⟨ao,p2,C,_⟩:=yd tZ (wB v sh h1 h2) (oy.mpr ⟨row,h1,h2⟩);generalize jH (fz 0 R) a (r,d)=g at *
  obtain⟨b,n,I⟩:=(oy (i:=g.1) (j:=g.2)).mp ao;refine⟨K8.mpr ⟨b,a,n,I,C.symm⟩,p2,?_⟩;have:=(Tg n).1;lia
 refine⟨⟨by unfold lB;simp[t],λi row h=>?_,λr d e h=>(f r d e h).2.2,λj h1 h2=>?_⟩,λr d e h=>⟨(f r d e h).1,(f r d e h).2.1⟩⟩
 ·rw[sD]at h;obtain⟨b,n,rfl⟩:=Ti h;obtain⟨e,o,p⟩:=K i b n;unfold wy;rw[lM1,List.length_zipIdx,p.length_eq];exact v.le i e o
 ·obtain⟨a,N,L,x,aq,D,G,F,H⟩:=v.jn j h1 (by lia);obtain⟨w,c⟩:∃s,R[a]?=some s:=⟨_,gG1 (by lia)⟩;obtain⟨y,l⟩:∃s,R[j]?=some s:=⟨_,gG1 (by lia)⟩;obtain⟨d,q⟩:=bq ((sh.row a w N c D).mem_iff.mpr F);obtain⟨B,u⟩:=bq ((sh.row j y L l G).mem_iff.mpr H);obtain⟨_,_,_,A⟩:=yd tZ (wB v sh c q) (oy.mpr ⟨w,c,q⟩);rcases A (j,B) (oy.mpr ⟨y,l,u⟩)with z|z
  ·injection z with P av;lia
  ·exact⟨a,d,_,aq,K8.mpr ⟨w,x,c,q,O⟩,by rw[<- z]⟩
theorem Fy(ho:fG o n)(hn:n<=2^40)(V:T.all (Ob.und (T.length+1))=M)(h0:1<=a)(h8:a<=8)(h:∀m w o',0<m->m<=a->ui m w->fG o' (n+100)->Q (webD w,o'::T)):W (dU 2 fB [.ref 0,.int a] (o::T)) Q:=by
 refine mF O O V ?_;unfold fB;refine jl ?_;unfold jo;generalize P:T.length=t;refine ei (λr S=>∃(m:Nat) (u:Ob),0<m/\m<=a/\fG u (n+1)/\r=[Z (.ref 0),Z (.int a),Z (.int m),Z (.int ((0:Nat):Int)),Y,Y,Y,Y,Y,Y]/\S=u::T) ?_ ?_
 ·walk_at"w";refine fN ho (by lia) (by lia) (by lia) λc u y hc=>?_;walk_at"w";exact⟨c+1,u,by lia,by lia,y,by simp[Int.add_comm],O⟩
 rintro r S ⟨m,u,F,au,y,rfl,rfl⟩;refine ei (λr S=>∃U,WN t m T (aP m []) U/\r=[Z (.ref 0),Z (.int a),Z (.int m),Z (.int ((0:Nat):Int)),Z (.ref (t+m+1)),Y,Y,Y,Y,Y]/\S=u::U) ?_ ?_
 ·walk_at"w";refine⟨eW (by lia),?_⟩;rw[Ra];refine iS (λi C r S=>C=jV (t+1) i/\S=u::(T++aP i (.lst [])) /\ ∃x,r=[x]) (gi 0 m) 0 [] _ _ ⟨O,by simp,_,O⟩ (λ_ _ _ _ _=>rfl) ?_ ?_
  ·rintro i d z C r S ⟨rfl,rfl,x,rfl⟩;walk_at"w";rw[bO];refine⟨?_,?_,_,O⟩
   ·rw[rl,P,lR1]
    congr 3
    lia
   ·rw[List.replicate_succ']
  ·rintro xs r S ⟨e,rfl,_⟩;rw[cY,bO,eH]at e;subst e;rw[bO,eH];walk_at"w";rw[l0];refine⟨d3 (by lia),_,A5 P V,?_,O⟩;simp[P]
 rintro r S ⟨U0,w0,rfl,rfl⟩;refine ei (λr S=>∃E k f U g p l,WN t m T E U/\WE m E k (m-1)/\fG f (n+20)/\r=[Z (.ref 0),Z (.int a),Z (.int m),Z (.int (k:Nat)),Z (.ref (t+m+1)),g,p,l,Y,Y]/\S=f::U) ?_ ?_
 ·walk_at"w";refine⟨D0 (by decide) (by decide),eW (by lia),?_⟩;refine eY (λi r S=>i<=m-1 /\ ∃E f U g p l,WN t m T E U/\WE m E i i/\(∀j row,i+1<=j->E[j]?=Z row->row=[])/\fG f (n+1+i)/\r=[Z (.ref 0),Z (.int a),Z (.int m),Z (.int (i:Nat)),Z (.ref (t+m+1)),g,p,l,Y,Y]/\S=f::U) _ 0 _ _ ?_ (λ_ _ _ _=>rfl) ?_ ?_
  ·refine⟨by lia,_,u,U0,Y,Y,Y,w0,A8 m,λj row _ G=>?_,y,O,O⟩;rw[aS]at G;split at G
   ·cases G;rfl
   ·cases G
  ·rintro i d z r S ⟨hi,E,f,U,g,p,l,w,v,X,b,rfl,rfl⟩;have q:=(Tg z).1;rw [eH] at q;have N:d = .int ((i+1:Nat):Int):=by
    rw[oo,gP1,cE q]at z;simp at z;rw[<- z]
    push_cast
    congr 1
    lia
   subst N;rw[bO]at *
   walk_at"w";refine Ir w v b (by lia) (by lia) (by lia) X λav o' ao x6' I K aq s L=>?_;exact⟨O,by lia,av,o',ao,_,_,_,K,aq,L,s.more (by lia),O,O⟩
  ·rintro r S ⟨hi,E,f,U,g,p,l,w,v,X,b,rfl,rfl⟩;rw[eH,bO]at *
   have e:((m:Int)-1).toNat=m-1:=by lia
   rw[e]at v b ⊢;exact⟨O,E,m-1,f,U,g,p,l,w,v,b.more (by lia),O,O⟩
 rintro r S ⟨E,k,f,U,g,p,l,w,v,b,rfl,rfl⟩;refine ei (λr S=>∃E k f U g p l A B,WN t m T E U/\WE m E k (m-1)/\fG f (n+50)/\r=[Z (.ref 0),Z (.int a),Z (.int m),Z (.int (k:Nat)),Z (.ref (t+m+1)),g,p,l,A,B]/\S=f::U) ?_ ?_
 ·walk_at"w";refine fN b (by lia) (by lia) (by lia) λc wq H hc=>?_;walk_at"w";refine⟨eW (by lia),?_⟩;rw[Ra];refine eY (λi r S=>i<=c /\ ∃E k f U g p l A B,WN t m T E U/\WE m E k (m-1)/\fG f (n+21+2*i)/\r=[Z (.ref 0),Z (.int a),Z (.int m),Z (.int (k:Nat)),Z (.ref (t+m+1)),g,p,l,A,B]/\S=f::U) _ 0 _ _ ⟨by lia,E,k,wq,U,g,p,l,Y,Y,w,v,H,O,O⟩ (λ_ _ _ _=>rfl) ?_ ?_
  ·rintro i d z r S ⟨hi,E,k,f,U,g,p,l,A,B,w,v,b,rfl,rfl⟩;have q:=(Tg z).1;rw[eH]at q;rw[bO]at *
   walk_at"w";refine JO w v b (by lia) F (by lia) λav k' o' ao I x9' K aq s=>?_;exact⟨O,by lia,av,k',o',ao,_,_,_,_,_,K,aq,s.more (by lia),O,O⟩
  ·rintro r S ⟨hi,E,k,f,U,g,p,l,A,B,w,v,b,rfl,rfl⟩;rw[eH,bO]at b;exact⟨O,E,k,f,U,_,_,_,_,_,w,v,b.more (by lia),O,O⟩
 rintro r S ⟨E,k,f,U,g,p,l,A,B,w,v,b,rfl,rfl⟩;walk_at"w";refine DE w v b (by lia) (by lia) λR o' sh s=>?_;exact⟨webD (lB R),o',U.drop t,by rw[<- w.split],eL _,s.und,h m _ o' F au (ET v sh) (s.more (by lia))⟩
theorem Ni{m:FA}{r:Ev}{S1:Sto}{k:Nat}(h:m r S=Z ([.int k],S1))(hk:k<=1000)(q:Q (.ref S1.length,S1++[.lst (gi 0 k)])):W (Aa m r S) Q:=by
 refine W.of ?_ q;unfold Aa;rw[h,oS1];dsimp only;have:uK 0 (k:Int)=M:=by
  unfold uK;simp only[bA1,am];lia
 rw[ak this,Ra]
theorem FP(ho:fG o n)(hn:n<=2^42)(hc:b<=8)(q:∀s o',s.Perm (af b)->fG o' (n+b)->Q (.ref (T.length+2),o'::(T++[.lst [],.lst (nmD s)]))):W (dU 2 gf [.ref 0,.int b] (o::T)) Q:=by
 refine vT O O ?_;unfold gf;refine jl ?_;unfold mI;have l:∀(o:Ob) (X:Ob) (au:Sto),(o::(T++X::au))[T.length+1]?=Z X:=λo X au=>by rw[gC1,d2];rfl
 refine ei (λr S=>S=o::(T++[.lst (nmD (af b))])/\r=[Z (.ref 0),Z (.int b),Z (.ref (T.length+1))]) ?_ ?_
 ·unfold d4;rw[dY];refine Ni (k:=b) (S1:=o::T) O (by lia) ?_;rw[lg];walk_at"w";exact⟨O,trivial⟩
 rintro r S ⟨rfl,rfl⟩;walk_at"w";refine⟨eW (by lia),?_⟩;rw[Ra];refine iS (λi h r S=>∃o' rs c x,i<=b/\(rs++c).Perm (af b)/\rs.length=i/\h=nmD rs/\fG o' (n+i)/\S=o'::(T++[.lst (nmD c)])/\r=[x,Z (.ref (T.length+1)),Z (.ref 0)]) (gi 0 b) 0 [] _ _ ⟨o,[],af b,_,by lia,.refl _,O,O,ho,O,O⟩ (λ_ _ _ _ _=>rfl) ?_ ?_
 ·rintro i d u h r S ⟨o',rs,c,x,hi,g,p,rfl,f,rfl,rfl⟩;have m:=(Tg u).1;rw[eH]at m;have a:=g.length_eq;rw[lA1,cM]at a;rw[bO]at *
  walk_at"w";refine jp ?_;walk_at"w";refine⟨T.length+1,nmD c,O,l _ _ _,?_⟩;refine eF (l _ _ _) ?_;walk_at"w";rw[eG];refine fN f (by lia) (by lia) (by lia) λd v j u=>?_;obtain⟨y,t⟩:∃y,c[d]?=some y:=⟨_,gG1 (by lia)⟩;walk_at"w";refine Ej (l _ _ _) (Cw t) (by lia) ?_;refine⟨v,rs++[y],c.eraseIdx d,_,by lia,uQ g t,by rw[lA1,p];rfl,ot,j.more (by lia),?_,O⟩;rw[cO,df _ _ (nR1 _),cQ,u3];rfl
 ·rintro xs r S ⟨o',rs,c,x,hi,g,p,e,f,rfl,rfl⟩;rw[eH,bO]at *
  rw[cY]at e;subst e;have a:=g.length_eq;rw[lA1,cM]at a;have:c=[]:=List.eq_nil_of_length_eq_zero (by lia);subst this;rw[aN]at g;walk_at"w";refine⟨d3 (by rw[eG];lia),?_⟩;unfold gc;rw[aj (by simp[D.und])];exact q rs o' g f
noncomputable def tk3(r k d:Nat):TK:=.tup [.int r,.int k,.int d]
noncomputable def sH(r k d:Nat):D:=.tup [.int r,.int k,.int d]
theorem Kv{k d:Nat}:keyT (sH r k d)=Z (tk3 r k d):=rfl
theorem lR{k d k' d':Nat}(h:tk3 r k d=tk3 a k' d'):r=a/\k=k'/\d=d':=by
 simp[tk3]at h;lia
def Ew(w:dV)(cp:Nat)(F:List (TK×D))(r k d:Nat):Prop:=∃e k',At w r d e/\k'<cp/\d6 F (tk3 r k d)=Z (sH e.1 k' e.2)/\d6 F (tk3 e.1 k' e.2)=Z (sH r k d)
def Hv(F F':List (TK×D))(p e:Nat×Nat):Prop:=∀a k b,(a,b)≠p->(a,b)≠e->d6 F' (tk3 a k b)=d6 F (tk3 a k b)
theorem Ew.keep{w:dV}{k d:Nat}{p e:Nat×Nat}{j:List (TK×D)}(h:Ew w i F r k d)(hk:Hv F j p e)(h1:(r,d)≠p)(h2:(r,d)≠e)(m:∀f,At w r d f->f≠p/\f≠e):Ew w i j r k d:=by
 obtain⟨f,g,a,b,c,l⟩:=h;have:=m f a;exact⟨f,g,a,b,by rw[hk r k d h1 h2];exact c,by rw[hk f.1 g f.2 this.1 this.2];exact l⟩
theorem Nf{m:FA}{r:Ev}{Q:AQ×Sto->Prop}(h:W (m r S) λp=>∃n xs,p.1=[.ref n]/\p.2[n]?=Z (.lst xs)/\Q (⟨vD 0 xs,[(n,xs)]⟩,p.2)):W (qx m r S) Q:=by
 obtain⟨⟨a,b⟩,e,n,xs,h1,h2,q⟩:=h;dsimp only at h1 h2 q;subst h1;refine W.of (x:=(⟨vD 0 xs,[(n,xs)]⟩,b)) ?_ q;simp only[qx,e,oS1,fP h2,oA h2]
theorem E2{G:Sto}{cp d:Nat}{w:dV}{e:Nat×Nat}{R aq x9 x10 m l j p:Option D}{Q:Fl×Ev×Sto->Prop}(ho:fG o n)(hn:n<=2^42)(hc:cp<=4)(ha:At w r d e)(hb:At w e.1 e.2 (r,d))(hne:e≠(r,d))(hF:F.length<900)(q:∀f G' o' x9' B,fG o' (n+4)->Hv F f (r,d) e->(∀k,k<cp->Ew w cp f r k d/\Ew w cp f e.1 k e.2)->f.length<=F.length+8 ->
   Q (.nx,[Z (.ref 0),R,Z (.int cp),Z (.ref (T.length+1)),Z (.int r),aq,Z (.int d),Z (.int e.1),Z (.int e.2),x9',B,m,l,j,p],o'::(T++dO f::G'))):
  W (fO (qx (dR (mN (dU 2 gf) (dR (mV 0) (dR (mV 2) dS))) dS)) (gT 2 (gCs (gN 9) (gCs (gN 10) gNl))) iK [Z (.ref 0),R,Z (.int cp),Z (.ref (T.length+1)),Z (.int r),aq,Z (.int d),Z (.int e.1),Z (.int e.2),x9,x10,m,l,j,p] (o::(T++dO F::G))) Q:=by
 unfold fO;rw[dY];refine Nf ?_;simp(implicitDefEqProofs:=J) only[dR,mN,mV,c6,gC1,dS,oS1,dY,d7];refine FP ho hn (by lia) λg o' N ho'=>?_;have ao:=N.length_eq;rw[cM]at ao;have E:∀c x:Nat,g[c]?=Z x->x<cp:=λc x h=>aC.mp (N.mem_iff.mp (gM1 h));walk_at"w";have eS:o'::(T++dO F::(G++[Ob.lst [],Ob.lst (nmD g)]))=o'::((T++dO F::G)++[Ob.lst [],Ob.lst (nmD g)]):=by simp
 have gO:∀(f:List (TK×D)),(o'::(T++dO f::(G++[Ob.lst [],Ob.lst (nmD g)])))[T.length+(G.length+1)+2]?=Z (.lst (nmD g)):=λf=>by
  rw[show T.length+(G.length+1)+2=T.length+(G.length+1+1)+1 by lia,gC1,eZ,gC1,eZ];rfl
 refine⟨T.length+(G.length+1)+2,nmD g,by first|rfl|(congr 3;lia),by first|exact gO F|(rw[<- gO F];congr 1;lia),?_⟩;have gd:∀(wq:Ob) (au:Sto),(o'::(T++wq::au))[T.length+1]?=Z wq:=λwq au=>by rw[gC1,d2];rfl
 have sd:∀(wq V:Ob) (au:Sto),(o'::(T++wq::au)).set (T.length+1) V=o'::(T++V::au):=λwq V au=>by
  rw[cO,df _ _ (nR1 _),cQ];rfl
 refine eY (λi u S=>∃f av s,i<=cp/\Hv F f (r,d) e/\(∀c x:Nat,c<i->g[c]?=Z x->d6 f (tk3 r c d)=Z (sH e.1 x e.2)/\d6 f (tk3 e.1 x e.2)=Z (sH r c d))/\f.length<=F.length+2*i/\S=o'::(T++dO f::(G++[Ob.lst [],Ob.lst (nmD g)]))/\u=[Z (.ref 0),R,Z (.int cp),Z (.ref (T.length+1)),Z (.int r),aq,Z (.int d),Z (.int e.1),Z (.int e.2),av,s,m,l,j,p]) _ 0 _ _ ⟨F,_,_,by lia,λ_ _ _ _ _=>rfl,λc x h=>by lia,by lia,O,O⟩ ?_ ?_ ?_
 ·rintro i u S ⟨f,av,s,_,_,_,_,rfl,_⟩;exact fQ (gO f)
 ·rintro i dd hd u S ⟨f,av,s,hi,X,P,hl,rfl,rfl⟩;rw[gR,nmD,gP1,Option.map_map]at hd;obtain⟨x,t,rfl⟩:=Ti hd;have hlt:=(Tg t).1;have hxc:=E i x t;rw[bO]at *
  unfold Function.comp;walk_at"w";unfold iK;refine ei (λu S=>S=o'::(T++dO (hO f (tk3 r i d) (sH e.1 x e.2))::(G++[Ob.lst [],Ob.lst (nmD g)]))/\u=[Z (.ref 0),R,Z (.int cp),Z (.ref (T.length+1)),Z (.int r),aq,Z (.int d),Z (.int e.1),Z (.int e.2),Z (.int (i:Nat)),Z (.int (x:Nat)),m,l,j,p]) ?_ ?_
  ·walk_at"w";refine xm (key:=sH r i d) (v:=sH e.1 x e.2) (F:=f) (gd _ _) Kv (by lia) ?_;walk_at"w";exact⟨sd _ _ _,trivial⟩
  rintro u S ⟨rfl,rfl⟩;have pl:=sV (k:=tk3 r i d) (v:=sH e.1 x e.2) (a:=f);have pl2:=sV (k:=tk3 e.1 x e.2) (v:=sH r i d) (a:=hO f (tk3 r i d) (sH e.1 x e.2));walk_at"w";refine xm (key:=sH e.1 x e.2) (v:=sH r i d) (F:=hO f (tk3 r i d) (sH e.1 x e.2)) (gd _ _) Kv (by lia) ?_;have A:∀a b:Nat,tk3 r a d≠tk3 e.1 b e.2:=λa b z=>by
   obtain⟨C,_,H⟩:=lR z;exact hne (by rw[C,H])
  refine⟨_,_,_,by lia,λa k b h h'=>?_,λc y h L=>?_,by lia,sd _ _ _,O⟩
  ·rw[fD,fD,aj,aj]
   ·exact X a k b h h'
   ·intro z;obtain⟨C,_,H⟩:=lR z;exact h (by rw[C,H])
   ·intro z;obtain⟨C,_,H⟩:=lR z;exact h' (by rw[C,H])
  ·rcases dj.mp h with h|rfl
   ·have nx:y≠x:=fun z=>by
     subst z;have nd:=N.nodup_iff.mpr cK;obtain⟨l1,g1⟩:=Tg L;obtain⟨l2,g2⟩:=Tg t;have:=(aI nd).mp (g1.trans g2.symm);lia
    obtain⟨I,K⟩:=P c y h L;refine⟨?_,?_⟩
    ·rw[fD,fD,aj (A c x),aj,I];intro z;have:=(lR z).2.1;lia
    ·rw[fD,fD,aj,aj (Qk (A i y)),K];intro z;exact nx (lR z).2.1
   ·rw[t]at L;cases L;refine⟨?_,?_⟩
    ·rw[fD,fD,aj (A c x),ak O]
    ·rw[fD,ak O]
 ·rintro u S ⟨f,av,s,hi,X,P,hl,rfl,rfl⟩;rw[hC,eG,bO]at *
  refine q f _ o' _ _ (ho'.more (by lia)) X (λk hk=>⟨?_,?_⟩) (by lia)
  ·obtain⟨x,t⟩:∃x,g[k]?=some x:=⟨_,gG1 (by lia)⟩;obtain⟨I,K⟩:=P k x (by lia) t;exact⟨e,x,ha,E k x t,I,K⟩
  ·obtain⟨c,hc⟩:=bq (N.mem_iff.mpr (aC.mpr hk));have U:=(Tg hc).1;obtain⟨I,K⟩:=P c k U hc;exact⟨(r,d),c,hb,by lia,K,I⟩
noncomputable def Ac(a b:Nat×Nat):Bool:=decide (a.1<b.1)||(decide (a.1=b.1)&&decide (a.2<b.2))
theorem KI{a b:Nat×Nat}:gLt (pD a) (pD b) S=Z (.bl (Ac a b),S):=by
 have c:∀(n x y:Nat),jm S (n+1) (.int x) (.int y)=Z (decide (x=y)):=λn x y=>by
  show Z ((x:Int) == (y:Int))=_
  congr 1
  rw[bS,SV,am];lia
 have d:∀(n x y:Nat),HJ S (n+1) (.int x) (.int y)=Z (decide (x<y)):=λn x y=>by
  show Z (decide ((x:Int)<(y:Int)))=_
  congr 1
  rw[bS,am,am];lia
 unfold gLt eu;rw[show(60:Nat)=58+1+1 from rfl,HJ];simp only[pD,Od,ee,Rf,Mt,c,d,oS1];unfold Ac;by_cases h1:a.1=b.1
 ·by_cases h2:a.2=b.2
  ·simp[h1,h2]
  ·simp[h1,h2]
 ·simp[h1]
theorem Gu{a b:Nat×Nat}(h:Ac a b=J)(c:b≠a):Ac b a=M:=by
 unfold Ac at *
 obtain⟨a1,a2⟩:=a;obtain⟨b1,b2⟩:=b;simp at *
 lia
theorem few:∀{N:Nat} {l:List Nat},l.Nodup->(∀x∈l,x<N)->l.length<=N
 |0,l,_,h=>by
  cases l with
  |nil=>simp
  |cons a l=>have:=h a mS1;lia
 |N+1,l,n,h=>by
  by_cases d:N∈l
  ·have h1:=few (N:=N) (l:=l.erase N) (n.erase N) fun x c=>by
    have b:=(List.Nodup.mem_erase_iff n).mp c;have:=h x b.2;have:=b.1;lia
   have:=List.length_erase_of_mem d;lia
  ·have:=few (N:=N) (l:=l) n fun x c=>by
    have h1:=h x c;have:x≠N:=λz=>d (z ▸ c);lia
   lia
theorem Oq{A B:Nat}{l:List (Nat×Nat)}(n:l.Nodup)(h:∀x∈l,x.1<A/\x.2<B):l.length<=A*B:=by
 have h1:=few (N:=A*B) (l:=l.map λx=>x.1*B+x.2) ?_ ?_
 ·simpa using h1
 ·rw[List.nodup_iff_pairwise_ne,c5];refine List.Pairwise.imp_of_mem ?_ n;intro x y b f a e;apply a;have h1:=h x b;have h2:=h y f;have ex:x.1=(x.1*B+x.2)/B:=by rw[Nat.mul_comm,Nat.mul_add_div (by lia),Nat.div_eq_of_lt h1.2,Nat.add_zero]
  have g:y.1=(y.1*B+y.2)/B:=by rw[Nat.mul_comm,Nat.mul_add_div (by lia),Nat.div_eq_of_lt h2.2,Nat.add_zero]
  have c:x.1=y.1:=by rw[ex,g,e]
  rw[c]at e;exact Prod.ext c (by lia)
 ·intro z d;obtain⟨x,b,rfl⟩:=cc.mp d;have h1:=h x b;have:(x.1+1)*B<=A*B:=dk B h1.1;rw[Nat.add_mul]at this;lia
theorem Ap{α:Type}[BEq α][LawfulBEq α]{l:List α}{x:α}(h:x∈l):∃j,l.findIdx? (· == x)=Z j/\l[j]?=Z x:=by
 cases e:l.findIdx? (· == x)with
 |none=>
  rw[List.findIdx?_eq_none_iff]at e;have:=e x h;simp at this
 |some j=>
  obtain⟨a,h1,_⟩:=b6.mp e;exact⟨j,O,by rw[gG1 a];simp at h1;rw[h1]⟩
theorem Dc{S:Sto}{n:Nat}{x:Nat×Nat}:∀row:List (Nat×Nat),Ez (jm S (n+2)) (pD x) (row.map pD)=Z (row.contains x)
 |[]=>rfl
 |y::row=>by
  rw[mP1,Ez,w5,Dc row,b9,show(y == x)=(x == y)from Bool.beq_comm];rfl
theorem Hr{row:List (Nat×Nat)}{x:Nat×Nat}(h:S[n]?=Z (.lst (row.map pD)))(q:Q (.bl (!row.contains x),S)):W (gh (pD x) (.ref n) S) Q:=by
 refine W.of ?_ q;simp only[gh,h,jz,nh,fP h,oS1,eu,show(60:Nat)=58+2 from rfl,Dc,oP1]
theorem HY{m:FE}{lo hi:FO}{r:Ev}{xs:List D}{a b:Option Int}(hm:m r S=Z (.tup xs,S))(c:lo r S=Z (a,S))(d:hi r S=Z (b,S))(q:Q (.tup (Mi.mD xs a b),S)):W (kT m lo hi r S) Q:=by
 refine W.of ?_ q;unfold kT;rw[hm,oS1];dsimp only;rw[c,oS1];dsimp only;rw[d,oS1];simp only[sL,iQ,oP1,bF1,Rc]
def NG(w:dV)(cp i j:Nat)(F:List (TK×D)):Prop:=∀r d e,At w r d e->Ac (r,d) e=M->(r<i\/(r=i/\d<j)) -> ∀k,k<cp->Ew w cp F r k d/\Ew w cp F e.1 k e.2
inductive AI (w:dV)(cp m n:Nat)(T:Sto):Nat->Ev->Sto->Prop
 |mk (i:Nat) (F:List (TK×D)) (G:Sto) (o':Ob) (x4 x5 x6 x7 x8 x9 x10:Option D) (hi:i<=m) (don:NG w cp i 0 F) (hF:F.length<=32*i) (ho:fG o' (n+16*i)):AI w cp m n T i [some (.ref 0),some (webD w),some (.int cp),some (.ref (T.length+1)),x4,x5,x6,x7,x8,x9,x10,none,none,none,none] (o'::(T++dO F::G))
inductive AJ (w:dV)(cp n:Nat)(T:Sto)(i:Nat)(row:List (Nat×Nat)):Nat->Ev->Sto->Prop
 |mk (j:Nat) (F:List (TK×D)) (G:Sto) (o':Ob) (x6 x7 x8 x9 x10:Option D) (hj:j<=row.length) (don:NG w cp i j F) (hF:F.length<=32*i+8*j) (ho:fG o' (n+16*i+4*j)):AJ w cp n T i row j [some (.ref 0),some (webD w),some (.int cp),some (.ref (T.length+1)),some (.int (i:Nat)),some (.tup (row.map pD)),x6,x7,x8,x9,x10,none,none,none,none] (o'::(T++dO F::G))
theorem xi{l:Nat}{w:dV}{Q:Fl×Ev×Sto->Prop}(hw:ui m w)(hm:m<=8)(hc:l<=4)(ho:fG o n)(hn:n<=2^41)(q:∀F G o' av P L C B K p,fG o' (n+128)->(∀r d e k,At w r d e->k<l->Ew w l F r k d) ->
   Q (.nx,[Z (.ref 0),Z (webD w),Z (.int l),Z (.ref (T.length+1)),av,P,L,C,B,K,p,Y,Y,Y,Y],o'::(T++dO F::G))):
  W (fO (qx (dR (mV 1) dS)) (gT 2 (gCs (gN 4) (gCs (gN 5) gNl))) iJ [Z (.ref 0),Z (webD w),Z (.int l),Z (.ref (T.length+1)),Y,Y,Y,Y,Y,Y,Y,Y,Y,Y,Y] (o::(T++dO []::[]))) Q:=by
 unfold fO;rw[dY];refine sy (xs:=w.map λrow=>.tup (row.map pD)) O ?_;refine eY (AI w l m n T) _ 0 _ _ (.mk 0 [] [] o _ _ _ _ _ _ _ (bi _) (λr d e h1 h2 E=>by lia) (by simp) ho) (λ_ _ _ _=>rfl) ?_ ?_
 ·rintro i dd H r S ⟨F,G,o',av,P,L,C,B,K,p,hi,c,X,f⟩;rw[gR,gP1,Option.map_map]at H;obtain⟨row,g,rfl⟩:=Ti H;have ao:=(Tg g).1;rw[hw.len]at ao;have hr4:=hw.le i row g;rw[bO]at *
  unfold Function.comp;walk_at"w";unfold iJ fO;rw[dY];refine sy (xs:=row.map pD) O ?_;refine eY (AJ w l n T i row) _ 0 _ _ (.mk 0 F G o' _ _ _ _ _ (bi _) c (by lia) (f.more (by lia))) (λ_ _ _ _=>rfl) ?_ ?_
  ·rintro j dd H r S ⟨F,G,o',L,C,B,K,p,hj,c,X,f⟩;rw[gR,gP1,Option.map_map]at H;obtain⟨e,he,rfl⟩:=Ti H;have I:=(Tg he).1;have y:At w i j e:=⟨row,g,he⟩;have u:=hw.back i j e y;rw[bO]at *
   unfold Function.comp pD;walk_at"w";unfold jY;have el:∀S,gLt (D.tup [D.int (i:Int),D.int (j:Int)]) (D.tup [D.int (e.1:Int),D.int (e.2:Int)]) S=Z (.bl (Ac (i,j) e),S):=λS=>KI (a:=(i,j)) (b:=e);unfold fC;rw[dY];refine W.of (x:=(Ac (i,j) e,o'::(T++dO F::G))) ?_ ?_
   ·simp only[mB,m2,eQ,dR,dS,mV,gC1,c6,c9,oP1,oS1,lC1,bf,b2,el,c8,ak (show 2<=dI by decide)]
   dsimp only;have up:∀F',Ac (i,j) e=M->Hv F F' (i,j) e->(∀k,k<l->Ew w l F' i k j/\Ew w l F' e.1 k e.2)->NG w l i (j+1) F':=λF' s wq new r d v h1 h2 E k t=>by
    by_cases R:r=i/\d=j
    ·obtain⟨rfl,rfl⟩:=R;obtain rfl:=kj y h1;exact new k t
    ·have N:r<i\/(r=i/\d<j):=by lia
     have U:(r,d)≠(i,j):=λz=>by injection z with z1 z2;lia
     have V:(r,d)≠e:=λz=>by
      rw[<- z]at s;unfold Ac at s;simp at s;lia
     have b1:=(hw.back r d v h1).1;have n3:v≠(i,j):=λz=>by
      rw[z]at b1;exact V (kj b1 y)
     have n4:v≠e:=λz=>by
      rw[z]at b1;exact U (kj b1 u.1)
     have:=c r d v h1 h2 N k t;refine⟨this.1.keep wq U V λe2 h=>?_,this.2.keep wq n3 n4 λe2 h=>?_⟩
     ·rw[<- kj h1 h];exact⟨n3,n4⟩
     ·rw[<- kj b1 h];exact⟨U,V⟩
   have au:Ac (i,j) e=J->NG w l i (j+1) F:=λs r d v h1 h2 E k t=>by
    by_cases R:r=i/\d=j
    ·obtain⟨rfl,rfl⟩:=R;obtain rfl:=kj y h1;rw[s]at h2;cases h2
    ·exact c r d v h1 h2 (by lia) k t
   cases hl:Ac (i,j) e with
   |false=>
    rw[aj (by decide)];exact d7.mpr ⟨O,.mk _ F G o' _ _ _ _ _ I (au hl) (by lia) (f.more (by lia))⟩
   |true=>
    rw[ak O];refine E2 (w:=w) f (by lia) hc y u.1 u.2 (by lia) λF' G' o2 x9' x10' h1 h2 E h4=>?_;exact⟨O,.mk _ F' G' o2 _ _ _ _ _ I (up F' hl h2 E) (by lia) (h1.more (by lia))⟩
  ·rintro r S ⟨F,G,o',L,C,B,K,p,hj,c,X,f⟩;rw[hC,lM1,bO]at *
   refine⟨O,.mk _ F G o' _ _ _ _ _ _ _ ao (λr d e h1 h2 E=>c r d e h1 h2 ?_) (by lia) (f.more (by lia))⟩;rcases(show r<i\/r=i by lia)with h|rfl
   ·exact .inl h
   ·obtain⟨row',aq,g2⟩:=h1;rw[g]at aq;cases aq;exact .inr ⟨O,(Tg g2).1⟩
 ·rintro r S ⟨F,G,o',av,P,L,C,B,K,p,hi,c,X,f⟩;rw[hC,lM1,bO,hw.len]at *
  refine q F G o' _ _ _ _ _ _ _ (f.more (by lia)) λr d e k h t=>?_;have A:∀r d e,At w r d e->r<m:=λr d e h=>by
   obtain⟨row,aq,_⟩:=h;rw[<- hw.len];exact(Tg aq).1
  have u:=hw.back r d e h;cases hl:Ac (r,d) e with
  |true=>exact(c r d e h hl (.inl (A r d e h)) k t).1
  |false=>exact(c e.1 e.2 (r,d) u.1 (Gu hl u.2) (.inl (A _ _ _ u.1)) k t).2
def hA(F:List (TK×D))(x:Nat×Nat)(d:Nat):(Nat×Nat)×Nat:=match d6 F (tk3 x.1 x.2 d)with
 |some (.tup [.int a,.int b,.int c])=>((a.toNat,b.toNat),c.toNat)
 |_=>((0,0),0)
noncomputable def deg(w:dV)(r:Nat):Nat:=(w.getD r []).length
def F3(p:(Nat×Nat)×Nat):D:=sH p.1.1 p.1.2 p.2
structure MI (m cp:Nat)(met:List (Nat×Nat)):Prop where
 nd:met.Nodup
 inn:∀x∈met,x.1<m/\x.2<cp
theorem MI.few(i:MI m a met)(h:m*a<=8):met.length<=8:=aD (Oq i.nd i.inn) h
def All(w:dV)(cp:Nat)(F:List (TK×D)):Prop:=∀r d e k,At w r d e->k<cp->Ew w cp F r k d
theorem wN{w:dV}{c d:Nat}{x:Nat×Nat}(hw:ui m w)(all:All w c F)(hx:x.1<m/\x.2<c)(hd:d<deg w x.1):
  d6 F (tk3 x.1 x.2 d)=Z (F3 (hA F x d))/\((hA F x d).1.1<m/\(hA F x d).1.2<c)/\hA F (hA F x d).1 (hA F x d).2=(x,d)/\(hA F x d).2<deg w (hA F x d).1.1:=by
 obtain⟨row,a⟩:∃row,w[x.1]?=some row:=⟨_,gG1 (by rw[hw.len];exact hx.1)⟩;have b:d<row.length:=by
  unfold deg at hd;rw[bJ,a,b7]at hd;exact hd
 obtain⟨e,g,h1,h2,h,j⟩:=all x.1 d row[d] x.2 ⟨row,a,gG1 b⟩ hx.2;have l:hA F x d=((e.1,g),e.2):=by
  unfold hA;rw[h];simp[sH]
 rw[l];have eb:hA F (e.1,g) e.2=(x,d):=by
  unfold hA;rw[j];simp[sH]
 refine⟨h,⟨hw.to x.1 d e h1,h2⟩,eb,?_⟩;obtain⟨f,k,i⟩:=(hw.back x.1 d e h1).1;unfold deg;rw[bJ,k];exact(Tg i).1
def Cl(w:dV)(F:List (TK×D))(met:List (Nat×Nat))(i j:Nat):Prop:=∀a d x,met[a]?=Z x->d<deg w x.1->(a<i\/(a=i/\d<j))->(hA F x d).1∈met
def Jn(w:dV)(F:List (TK×D))(met:List (Nat×Nat)):Prop:=∀b y,1<=b->met[b]?=Z y -> ∃a d x,a<b/\met[a]?=Z x/\d<deg w x.1/\(hA F x d).1=y
theorem Jn.snoc{w:dV}{d:Nat}{x:Nat×Nat}(j:Jn w F met)(ha:met[a]?=Z x)(hd:d<deg w x.1):Jn w F (met++[(hA F x d).1]):=by
 have c:=(Tg ha).1;intro b y h f;by_cases g:b<met.length
 ·rw[gL1 g]at f;obtain⟨o,m,l,p,i,n,k⟩:=j b y h f;exact⟨o,m,l,p,by rw[gL1 (by lia)];exact i,n,k⟩
 ·have:=(Tg f).1;rw[lA1,aY]at this;have e:b=met.length:=by lia
  subst e;rw[dg]at f;cases f;exact⟨a,d,x,c,by rw[gL1 c];exact ha,hd,O⟩
theorem MF{x:Nat×Nat}{d:Nat}(h:S[n]?=Z (dO F))(a:d6 F (tk3 x.1 x.2 d)=Z (F3 (hA F x d))):dW (.ref n) (sH x.1 x.2 d) S=Z (F3 (hA F x d),S):=by
 obtain⟨p,e,rfl⟩:=En (Q:=λp=>p=(F3 (hA F x d),S)) h Kv a O;exact e
theorem OF{f:FN}{a b:FE}{r:Ev}(h:W (a r S) λp=>W (b r p.2) λq=>W (f [p.1,q.1] q.2) Q):W (m2 f a b r S) Q:=by
 unfold m2;rw[dY];exact h.mono λp c=>by rw[dY];exact c
theorem Ov{p:(Nat×Nat)×Nat}:D.tup (Mi.mD [.int p.1.1,.int p.1.2,.int p.2] Y (Z 2))=pD p.1:=rfl
theorem Mm{V:Sto}{v:Nat}{w:dV}{x4 aq x6 N L x9 u s t:Option D}{Q:Fl×Ev×Sto->Prop}(hw:ui m w)(hm0:0<m)(hc0:0<v)(h8:m*v<=8)(all:All w v F)(hV:V[n]? = some (dO F))(q:∀met T I wq y12,MI m v met->0<met.length->Cl w F met met.length 0->Jn w F met->Q (.nx,[some (.ref 0),some (webD w),some (.int v),some (.ref (n+1)),T,aq,I,N,L,wq,u,some (.ref (V.length+1)),y12,s,t],o::(V++[.lst (met.map pD)]))):
  W (q9 iI iH 100000 [Z (.ref 0),Z (webD w),Z (.int v),Z (.ref (n+1)),x4,aq,x6,N,L,x9,u,Z (.ref (V.length+1)),Z (.int ((0:Nat):Int)),s,t] (o::(V++[.lst ([(0,0)].map pD)]))) Q:=by
 have R:∀(X:Ob),(o::(V++[X]))[V.length+1]?=Z X:=λX=>by rw[gC1,d2];rfl
 have gs:∀(au:Sto),(o::(V++au))[n+1]?=Z (dO F):=λau=>by rw[gC1,gL1 (Tg hV).1];exact hV
 refine uv (λk r S=>∃met T I wq,MI m v met/\k<=met.length/\0<met.length/\Cl w F met k 0/\Jn w F met/\S=o::(V++[.lst (met.map pD)])/\r=[Z (.ref 0),Z (webD w),Z (.int v),Z (.ref (n+1)),T,aq,I,N,L,wq,u,Z (.ref (V.length+1)),Z (.int (k:Nat)),s,t]) 8 ?_ 100000 0 _ _ (by lia) ⟨[(0,0)],_,_,_,⟨by simp,λx K=>by simp at K;subst K;exact⟨hm0,hc0⟩⟩,by lia,by simp,λa d x _ _ h=>by lia,λb y h1 h2=>by have:=(Tg h2).1;simp at this;lia,O,O⟩;rintro k r S ⟨met,T,I,wq,U,hk,hp,cl,jn,rfl,rfl⟩;have hf:=U.few h8;unfold iI;walk_at"w";refine eF (R _) ?_;walk_at"w";rw[lM1];by_cases hlt:k<met.length
 ·rw[ak (by rw[am];lia)];refine⟨by lia,?_⟩;obtain⟨x,K⟩:∃x,met[k]?=some x:=⟨_,gG1 hlt⟩;have av:=U.inn x (gM1 K);obtain⟨row,E⟩:∃row,w[x.1]?=some row:=⟨_,gG1 (by rw[hw.len];exact av.1)⟩;have B:deg w x.1=row.length:=by unfold deg;rw[bJ,E];rfl
  have hr4:=hw.le _ row E;unfold iH;refine ei (λr S=>S=o::(V++[.lst (met.map pD)])/\r=[Z (.ref 0),Z (webD w),Z (.int v),Z (.ref (n+1)),Z (.int (x.1:Nat)),aq,I,N,L,Z (.int (x.2:Nat)),u,Z (.ref (V.length+1)),Z (.int (k:Nat)),s,t]) ?_ ?_
  ·walk_at"w";refine kl (i:=k) (xs:=met.map pD) (x:=pD x) (R _) (by rw[gP1,K];rfl) ?_;rw[pD];walk_at"w"
  rintro r S ⟨rfl,rfl⟩;refine ei (λr S=>∃c I,c[k]?=Z x/\MI m v c/\Cl w F c k row.length/\Jn w F c/\S=o::(V++[.lst (c.map pD)])/\r=[Z (.ref 0),Z (webD w),Z (.int v),Z (.ref (n+1)),Z (.int (x.1:Nat)),aq,I,N,L,Z (.int (x.2:Nat)),u,Z (.ref (V.length+1)),Z (.int (k:Nat)),s,t]) ?_ ?_
  ·walk_at"w";unfold webD;refine ip (i:=x.1) (x:=.tup (row.map pD)) (by rw[gP1,E];rfl) ?_;walk_at"w";rw[lM1];refine⟨eW (by lia),?_⟩;rw[lg,Ra];refine eY (λj r S=>∃c I,j<=row.length/\c[k]?=Z x/\MI m v c/\Cl w F c k j/\Jn w F c/\S=o::(V++[.lst (c.map pD)])/\r=[Z (.ref 0),Z (webD w),Z (.int v),Z (.ref (n+1)),Z (.int (x.1:Nat)),aq,I,N,L,Z (.int (x.2:Nat)),u,Z (.ref (V.length+1)),Z (.int (k:Nat)),s,t]) _ 0 _ _ ⟨met,_,by lia,K,U,cl,jn,O,O⟩ (λ_ _ _ _=>rfl) ?_ ?_
   ·rintro j dd hd r S ⟨c,z6,hj,f,g,C,A,rfl,rfl⟩;have G:=(Tg hd).1;rw[lM1,cM]at G;rw[gP1,cE G]at hd;cases hd;rw[bO]at *
    have hf':=g.few h8;obtain⟨n1,⟨n2,n3⟩,_⟩:=wN hw all av (d:=j) (by rw[B];exact G);have sl:∀(r:Ev) (S:Sto) (P:D×Sto->Prop),S[n+1]?=Z (dO F)->r[3]?=Z (Z (.ref (n+1)))->r[4]?=Z (Z (.int (x.1:Nat)))->r[9]?=Z (Z (.int (x.2:Nat)))->r[6]?=Z (Z (.int (j:Nat)))->P (pD (hA F x j).1,S)->W (kT (m2 (b2 dW) (mV 3) (eQ (dR (mV 4) (dR (mV 9) (dR (mV 6) dS))))) jf (jE (mC (D.int (2)))) r S) P:=by
     intro r S P hS h3 h4 h9 h6 p;refine HY (xs:=[.int (hA F x j).1.1,.int (hA F x j).1.2,.int (hA F x j).2]) (a:=Y) (b:=Z 2) ?_ O O p;have:=MF hS n1;simp only[m2,eQ,dR,dS,mV,h3,h4,h9,h6,c9,oP1,oS1,lC1,bf,b2,c8,ak (show 3<=dI by decide)];exact this
    walk_at"w";unfold jX fC mB;rw[dY,dY];refine OF ?_;refine sl _ _ _ (gs _) O O O O ?_;walk_at"w";refine Hr (R _) ?_;walk_at"w";have step:∀l:List (Nat×Nat),(∀a,a<=k->l[a]?=c[a]?)->(∀z∈c,z∈l)->(hA F x j).1∈l->Cl w F l k (j+1):=λl hg hs hm a d y h1 h2 h3=>by
     rw[hg a (by lia)]at h1;by_cases hz:a=k/\d=j
     ·obtain⟨rfl,rfl⟩:=hz;rw[f]at h1;cases h1;exact hm
     ·exact hs _ (C a d y h1 h2 (by lia))
    have hkl:=(Tg f).1;by_cases H:(hA F x j).1∈c
    ·rw[aj (by simpa using H)];exact⟨c,_,by lia,f,g,step c (λ_ _=>rfl) (λ_ h=>h) H,A,O,O⟩
    ·rw[ak (by simpa using H)];refine jp ?_;walk_at"w";refine⟨V.length+1,c.map pD,O,R _,?_⟩;refine sl _ _ _ (gs _) O O O O ?_;walk_at"w";refine(lx (R _)).mpr ⟨d3 (by rw[lM1];lia),?_⟩;refine⟨c++[(hA F x j).1],_,by lia,by rw[gL1 hkl];exact f,⟨?_,?_⟩,step _ (λa ha=>gL1 (by lia)) (λz h=>aH _ h) (by simp),A.snoc f (by rw[B];exact G),?_,O⟩
     ·refine bx.mpr ⟨g.nd,by simp,λa ha b hb e=>?_⟩;rw[cH]at hb;exact H (by rw[<- hb,<- e];exact ha)
     ·intro y ao;rcases aG.mp ao with ao|ao
      ·exact g.inn y ao
      ·rw[cH]at ao;subst ao;exact⟨n2,n3⟩
     ·rw[cO,df _ _ (nR1 _),cQ,cr];rfl
   ·rintro r S ⟨c,z6,hj,f,g,C,A,rfl,rfl⟩;rw[lM1,cM,bO]at *
    exact⟨O,c,_,f,g,C,A,O,O⟩
  rintro r S ⟨c,z6,f,g,C,A,rfl,rfl⟩;have hlt':=(Tg f).1;walk_at"w";refine⟨c,_,_,_,g,by lia,by lia,λa d y h1 h2 h3=>C a d y h1 h2 ?_,A,O,by push_cast;rfl⟩;rcases(show a<k\/a=k by lia)with h|rfl
  ·exact .inl h
  ·rw[f]at h1;cases h1;exact .inr ⟨O,by rw[<- B];exact h2⟩
 ·rw[aj (by rw[am];lia)];have e:k=met.length:=by lia
  subst e;exact q met _ _ _ _ U hp cl jn
noncomputable def EA(met:List (Nat×Nat))(y:Nat×Nat):Nat:=(met.findIdx? (· == y)).getD 0
def sR(w:dV)(F:List (TK×D))(met:List (Nat×Nat))(x:Nat×Nat):List (Nat×Nat):=(af (deg w x.1)).map λd=>(EA met (hA F x d).1,(hA F x d).2)
def ut(w:dV)(F:List (TK×D))(met:List (Nat×Nat)):dV:=met.map (sR w F met)
theorem ng{y:Nat×Nat}(h:y∈met):met.findIdx? (· == y)=Z (EA met y)/\met[EA met y]?=Z y:=by
 obtain⟨j,h1,h2⟩:=Ap h;unfold EA;rw[h1];exact⟨O,h2⟩
theorem qa{w:dV}{d:Nat}{e:Nat×Nat}:At (ut w F met) r d e ↔ ∃x,met[r]?=Z x/\d<deg w x.1/\e=(EA met (hA F x d).1,(hA F x d).2):=by
 unfold At ut;rw[gP1];constructor
 ·rintro⟨row,h1,h2⟩;obtain⟨x,c,rfl⟩:=Ti h1;unfold sR at h2;rw[gP1]at h2;obtain⟨f,b,rfl⟩:=Ti h2;have a:=(Tg b).1;rw[cM]at a;rw[cE a]at b;cases b;exact⟨x,c,a,O⟩
 ·rintro⟨x,h1,h2,rfl⟩;refine⟨sR w F met x,by rw[h1];rfl,?_⟩;unfold sR;rw[gP1,cE h2];rfl
theorem KQ{w:dV}(hw:ui m w)(r:Nat):deg w r<=4:=by
 unfold deg;rw[bJ];cases h:w[r]? with
 |none=>simp
 |some row=>exact hw.le r row h
theorem A7{l:Nat}{w:dV}(hw:ui m w)(all:All w l F)(u:MI m l met)(nd:met.Nodup)(k:Cl w F met met.length 0)(B:Jn w F met):Ef met.length (ut w F met):=by
 refine⟨⟨by unfold ut;rw[lM1],λi row h=>?_,λr d e h=>?_,λj h1 h2=>?_⟩,λr d e h=>?_⟩
 ·unfold ut at h;rw[gP1]at h;obtain⟨x,_,rfl⟩:=Ti h;unfold sR;rw[lM1,cM];exact KQ hw _
 ·obtain⟨x,h1,h2,rfl⟩:=qa.mp h;have:=(ng (k r d x h1 h2 (.inl (Tg h1).1))).2;exact(Tg this).1
 ·obtain⟨y,f⟩:∃y,met[j]?=some y:=⟨_,gG1 h2⟩;obtain⟨a,d,x,v,n,t,p⟩:=B j y h1 f;refine⟨a,d,_,v,qa.mpr ⟨x,n,t,O⟩,?_⟩;dsimp only;rw[p];have g:=(ng (gM1 f)).2;obtain⟨z,b⟩:=Tg g;obtain⟨A,c⟩:=Tg f;exact(aI nd).mp (by rw[b,c])
 ·obtain⟨x,h1,h2,rfl⟩:=qa.mp h;have C:=u.inn x (gM1 h1);obtain⟨_,_,s,o⟩:=wN hw all C h2;have q:=(ng (k r d x h1 h2 (.inl (Tg h1).1))).2;refine qa.mpr ⟨_,q,o,?_⟩;rw[s];dsimp only;have g:=(ng (gM1 h1)).2;obtain⟨z,b⟩:=Tg g;obtain⟨A,c⟩:=Tg h1;rw[(aI nd).mp (b.trans c.symm)]
structure Fb (w cw:dV)(rs:List Nat):Prop where
 at_:∀(i d:Nat) (e:Nat×Nat),At cw i d e->At w (rs.getD i 0) d (rs.getD e.1 0,e.2)
 deg:∀(i:Nat) (row:List (Nat×Nat)),cw[i]?=some row -> ∃row0,w[rs.getD i 0]?=some row0/\row0.length=row.length
theorem KJ{k:Nat}{w:dV}(hw:ui m w)(all:All w k F)(j:MI m k met)(o:Cl w F met met.length 0):Fb w (ut w F met) (met.map (·.1)):=by
 have b:∀{i:Nat} {x:Nat×Nat},met[i]?=Z x->(met.map (·.1)).getD i 0=x.1:=λ{i x} h=>by
  rw[bJ,gP1,h];rfl
 refine⟨λi d e h=>?_,λi row h=>?_⟩
 ·obtain ⟨x,h1,h2,rfl⟩:=qa.mp h;have f:=j.inn x (gM1 h1);have g:=(ng (o i d x h1 h2 (.inl (Tg h1).1))).2;obtain ⟨row,a⟩:∃ row,w[x.1]? = some row:=⟨_,gG1 (by rw [hw.len];exact f.1)⟩;have c:d<row.length:=by
   unfold deg at h2;rw[bJ,a,b7]at h2;exact h2
  obtain⟨e,n,l,r,p,t⟩:=all x.1 d row[d] x.2 ⟨row,a,gG1 c⟩ f.2;have q:hA F x d=((e.1,n),e.2):=by
   unfold hA;rw[p];simp[sH]
  have s:e=row[d]:=by
   obtain⟨u,a1,a2⟩:=l;rw[a]at a1;cases a1;rw[gG1 c]at a2;exact(Option.some.inj a2).symm
  rw[q]at g ⊢;dsimp only at g ⊢;rw[b h1,b g];exact l
 ·unfold ut at h;rw[gP1]at h;obtain⟨x,h1,rfl⟩:=Ti h;have f:=j.inn x (gM1 h1);obtain⟨row,a⟩:∃row,w[x.1]?=some row:=⟨_,gG1 (by rw[hw.len];exact f.1)⟩;refine⟨row,by rw[b h1];exact a,?_⟩;unfold sR Law.deg;rw[lM1,cM,bJ,a];rfl
theorem yj{a b X:Ob}{V G:Sto}:(o::(V++a::b::(G++[X])))[V.length+(G.length+2)+1]?=Z X:=by
 rw[gC1,eZ,gC1,gC1,d2];rfl
inductive CI (w:dV)(cp n:Nat)(T:Sto):Ev->Sto->Prop
 |mk (F:List (TK×D)) (G:Sto) (o':Ob) (x4 x5 x6 x7 x8 x9 x10:Option D) (ho:fG o' (n+128)) (all:All w cp F):CI w cp n T [some (.ref 0),some (webD w),some (.int cp),some (.ref (T.length+1)),x4,x5,x6,x7,x8,x9,x10,none,none,none,none] (o'::(T++dO F::G))
inductive CJ (w:dV)(m cp:Nat)(T V:Sto)(F:List (TK×D))(o':Ob)(x5 x7 x8 x10:Option D):Ev->Sto->Prop
 |mk (met:List (Nat×Nat)) (y4 y6 y9 y12:Option D) (mi:MI m cp met) (hp:0<met.length) (cl:Cl w F met met.length 0) (jn:Jn w F met):CJ w m cp T V F o' x5 x7 x8 x10 [some (.ref 0),some (webD w),some (.int cp),some (.ref (T.length+1)),y4,x5,y6,x7,x8,y9,x10,some (.ref (V.length+1)),y12,none,none] (o'::(V++[.lst (met.map pD)]))
theorem G7{g:Nat}{w:dV}(hw:ui m w)(hm0:0<m)(K:0<g)(hc:g<=4)(h8:m*g<=8)(ho:fG o n)(hn:n<=2^40)(hT:T.all (Ob.und (T.length+1))=M)(q:∀N cw rs o',0<N->N<=8->Ef N cw->rs.length=N->Fb w cw rs->fG o' (n+128)->Q (.tup [webD cw,.tup (nmD rs)],o'::T)):W (dU 3 gQ [.ref 0,webD w,.int g] (o::T)) Q:=by
 have P:m<=8:=aD (Nat.le_mul_of_pos_right m K) h8;refine mF O O hT ?_;unfold gQ;refine jl ?_;unfold mJ;refine ei (λr S=>S=o::(T++dO []::[])/\r=[Z (.ref 0),Z (webD w),Z (.int g),Z (.ref (T.length+1)),Y,Y,Y,Y,Y,Y,Y,Y,Y,Y,Y]) ?_ ?_
 ·have d0:dO [] = .dct []:=ak O;rw[d0]
  wp_walk using pu
 rintro r S ⟨rfl,rfl⟩;refine ei (CI w g n T) ?_ ?_
 ·exact xi hw P hc ho (by lia) λF G o' x4 p x6 s l x9 c h1 h2=>⟨O,.mk F G o' _ _ _ _ _ _ _ h1 h2⟩
 rintro r S ⟨F,G,o',x4,p,x6,s,l,x9,c,aq,all⟩;generalize hV:T++dO F::G=V;have u:V[T.length]?=Z (dO F):=by rw[<- hV,d2];rfl
 refine ei (λr S=>S=o'::(V++[.lst ([(0,0)].map pD)])/\r=[Z (.ref 0),Z (webD w),Z (.int g),Z (.ref (T.length+1)),x4,p,x6,s,l,x9,c,Z (.ref (V.length+1)),Z (.int ((0:Nat):Int)),Y,Y]) ?_ ?_
 ·walk_at"w";exact⟨O,O⟩
 rintro r S ⟨rfl,rfl⟩;refine ei (CJ w m g T V F o' p s l c) ?_ ?_
 ·exact Mm hw hm0 K h8 all u λmet z L B k h1 h2 h3 h4=>⟨O,.mk met _ _ _ _ h1 h2 h3 h4⟩
 rintro r S ⟨met,z,L,B,k,E,hp,av,jn⟩;have hf:=E.few h8;refine ei (λr S=>S=o'::(V ++ .lst (met.map pD) :: .lst []::[])/\r=[Z (.ref 0),Z (webD w),Z (.int g),Z (.ref (T.length+1)),z,p,L,s,l,B,c,Z (.ref (V.length+1)),k,Z (.ref (V.length+2)),Y]) ?_ ?_
 ·walk_at"w"
 rintro r S ⟨rfl,rfl⟩;have A:∀(X:Ob) (au:Sto),(o'::(V++X::au))[V.length+1]?=Z X:=λX au=>by rw[gC1,d2];rfl
 have R:∀(X wq:Ob) (au:Sto),(o'::(V++X::wq::au))[V.length+2]?=Z wq:=λX wq au=>by rw[gC1,eZ];rfl
 have gs:∀(au:Sto),(o'::(V++au))[T.length+1]?=Z (dO F):=λau=>by rw[gC1,gL1 (Tg u).1];exact u
 let rD:List (Nat×Nat)->D:=λrow=>.tup (row.map pD)
 refine ei (λr S=>∃G2 z B v,S=o'::(V ++ .lst (met.map pD) :: .lst ((ut w F met).map rD)::G2)/\r=[Z (.ref 0),Z (webD w),Z (.int g),Z (.ref (T.length+1)),z,p,L,s,l,B,c,Z (.ref (V.length+1)),k,Z (.ref (V.length+2)),v]) ?_ ?_
 ·walk_at"w";refine eF (A _ _) ?_;refine eY (λi r S=>∃G2 z B v,i<=met.length/\S=o'::(V ++ .lst (met.map pD) :: .lst (((ut w F met).take i).map rD)::G2)/\r=[Z (.ref 0),Z (webD w),Z (.int g),Z (.ref (T.length+1)),z,p,L,s,l,B,c,Z (.ref (V.length+1)),k,Z (.ref (V.length+2)),v]) _ 0 _ _ ⟨[],_,_,_,by lia,O,O⟩ ?_ ?_ ?_
  ·rintro i r S ⟨G2,_,_,_,_,rfl,_⟩;exact fQ (A _ _)
  ·rintro i dd t r S ⟨G2,z4,z9,ao,hi,rfl,rfl⟩;dsimp only at t;rw[gP1]at t;obtain⟨x,I,rfl⟩:=Ti t;have U:=(Tg I).1;have H:=E.inn x (gM1 I);obtain⟨row,h⟩:∃row,w[x.1]?=some row:=⟨_,gG1 (by rw[hw.len];exact H.1)⟩;have C:deg w x.1=row.length:=by unfold deg;rw[bJ,h];rfl
   have hr4:=hw.le _ row h;rw[bO]at *
   rw[pD];walk_at"w";unfold jW;refine ei (λr S=>S=o'::(V ++ .lst (met.map pD) :: .lst (((ut w F met).take i).map rD)::(G2++[.lst ((af (deg w x.1)).map λd=>F3 (hA F x d))]))/\r=[Z (.ref 0),Z (webD w),Z (.int g),Z (.ref (T.length+1)),Z (.int (x.1:Nat)),p,L,s,l,Z (.int (x.2:Nat)),c,Z (.ref (V.length+1)),k,Z (.ref (V.length+2)),Z (.ref (V.length+(G2.length+2)+1))]) ?_ ?_
   ·walk_at"w";rw[show webD w = .tup (w.map λrow=>.tup (row.map pD))from rfl];refine ip (i:=x.1) (x:=.tup (row.map pD)) (by rw[gP1,h];rfl) ?_;walk_at"w";rw[lM1];refine⟨eW (by lia),?_⟩;rw[lg,Ra,<- C];refine jI (f:=λj:Nat=>D.int j) (λd=>F3 (hA F x d)) (λr=>∃y,r=[y,Z (.ref (T.length+1)),Z (.int (x.1:Nat)),Z (.int (x.2:Nat))]) O (af (deg w x.1)) _ ⟨_,O⟩ ?_ ?_
    ·rintro d t r ⟨y,rfl⟩;have n1:=(wN hw all H (aC.mp t)).1;walk_at"w";refine W.of (MF (gs _) n1) ⟨O,O,_,O⟩
    ·rintro r' _;refine⟨d3 (by rw[lM1,cM];lia),?_⟩;walk_at"w"
   rintro r S ⟨rfl,rfl⟩;walk_at"w";refine jp ?_;walk_at"w";refine⟨V.length+2,_,O,R _ _ _,?_⟩;refine eF yj ?_;refine jI (f:=λd=>F3 (hA F x d)) (λd=>pD (EA met (hA F x d).1,(hA F x d).2)) (λr=>∃y,r=[y,Z (.ref (V.length+1))]) (fQ yj) (af (deg w x.1)) _ ⟨_,O⟩ ?_ ?_
   ·rintro d t r ⟨y,rfl⟩;have hin:=av i d x I (aC.mp t) (.inl U);walk_at"w";refine jp ?_;walk_at"w";refine⟨V.length+1,_,O,A _ _,?_⟩;refine HY (xs:=[.int (hA F x d).1.1,.int (hA F x d).1.2,.int (hA F x d).2]) (a:=Y) (b:=Z 2) O O O ?_;rw[Ov];walk_at"w";refine Lb (e:=(hA F x d).1) (A _ _) (by lia) (ng hin).1 ?_;refine ip (i:=2) (xs:=[.int (hA F x d).1.1,.int (hA F x d).1.2,.int (hA F x d).2]) (x:=.int (hA F x d).2) O ?_;walk_at"w";exact⟨O,_,O⟩
   ·rintro r' _;refine⟨d3 (by rw[lM1,cM];lia),?_⟩;walk_at"w";refine eF (xs:=(af (deg w x.1)).map λd=>pD (EA met (hA F x d).1,(hA F x d).2)) ?_ ?_
    ·rw[show∀(a b:Ob),G2++[a,b]=(G2++[a])++[b]from λa b=>by simp];have:=yj (o:=o') (a:=.lst (met.map pD)) (b:=.lst (((ut w F met).take i).map rD)) (V:=V) (G:=G2++[.lst ((af (deg w x.1)).map λd=>F3 (hA F x d))]) (X:=.lst ((af (deg w x.1)).map λd=>pD (EA met (hA F x d).1,(hA F x d).2)));rw[<- this]
     congr 1
     simp
     try lia
    refine(lx (R _ _ _)).mpr ⟨d3 (by rw[lM1,aR];lia),?_⟩;refine⟨G2++[.lst ((af (deg w x.1)).map λd=>F3 (hA F x d)),.lst ((af (deg w x.1)).map λd=>pD (EA met (hA F x d).1,(hA F x d).2))],_,_,_,by lia,?_,O⟩
    ·rw[cO,df _ _ (by lia),show V.length+1-V.length=1 by lia,cu];rw[show(ut w F met)[i]?=Z (sR w F met x) by unfold ut;rw[gP1,I];rfl];rw[Option.toList_some,cr];rw[show[sR w F met x].map rD=[.tup ((af (deg w x.1)).map λd=>pD (EA met (hA F x d).1,(hA F x d).2))] by simp[rD,sR,Function.comp_def]];rfl
  ·rintro r S ⟨G2,z4,z9,ao,hi,rfl,rfl⟩;rw[lM1,bO,cm (by unfold ut;rw[lM1];exact nR1 _)];exact⟨O,G2,_,_,_,O,O⟩
 rintro r S ⟨G2,z4,z9,ao,rfl,rfl⟩;have hcl:(ut w F met).length=met.length:=by unfold ut;rw[lM1]
 walk_at"w";refine eF (R _ _ _) ?_;refine eF (A _ _) ?_;refine jI (f:=pD) (λx:Nat×Nat=>D.int (x.1:Nat)) (λr=>∃y0 y1,r=[y0,y1]) (fQ (A _ _)) met _ ⟨_,_,O⟩ ?_ ?_
 ·rintro x I r ⟨y0,y1,rfl⟩;rw[pD];walk_at"w";exact⟨_,_,O⟩
 ·rintro r' _;refine⟨d3 (by rw[lM1];lia),?_⟩;walk_at"w";refine eF (xs:=met.map λx:Nat×Nat=>D.int (x.1:Nat)) yj ?_;walk_at"w";have e:met.map (λx:Nat×Nat=>D.int (x.1:Nat))=nmD (met.map (·.1)):=by rw[nmD,bu];rfl
  rw[e];refine⟨.tup [webD (ut w F met),.tup (nmD (met.map (·.1)))],o',(dO F::G)++(.lst (met.map pD) :: .lst ((ut w F met).map rD)::(G2++[.lst (nmD (met.map (·.1)))])),?_,?_,aq.und,q met.length _ _ o' hp hf (A7 hw all E E.nd av jn) (by rw[lM1]) (KJ hw all E av) aq⟩
  ·rw[<- hV,bG];rfl
  ·rw[D.und,D.unds,eL,D.unds,D.unds,D.und,fH];rfl
theorem Os(h1:1<=a)(b:a<=4):oe (.int 8) (.int a) S=Z (.int ((8/a:Nat):Int),S):=by
 match a,h1,b with
 |1,_,_=>rfl
 |2,_,_=>rfl
 |3,_,_=>rfl
 |4,_,_=>rfl
theorem kJ{w:dV}:eM (webD w) S=Z (.int w.length,S):=by
 unfold webD;rw[iu,lM1]
theorem Op{d:Nat}(h:d<4):∃a:Nat,([.int 2,.int 2,.int 3,.int 4]:List D)[d]?=Z (.int a)/\1<=a/\a<=4:=by
 match d,h with
 |0,_=>exact⟨2,O,by decide,by decide⟩
 |1,_=>exact⟨2,O,by decide,by decide⟩
 |2,_=>exact⟨3,O,by decide,by decide⟩
 |3,_=>exact⟨4,O,by decide,by decide⟩
theorem Oa(h:m<=8/a):m*a<=8:=aD (dk a h) (Nat.div_mul_le_self 8 a)
structure AW (m:Nat)(w:dV)(rs:List Nat):Prop where
 web:Ef m w
 len:rs.length=m
 fb:∃w0,Fb w0 w rs
theorem DM(ho:fG o n)(hn:n<=2^39)(v:T.all (Ob.und (T.length+1))=M)(q:∀m w rs o',0<m->m<=8->AW m w rs->fG o' (n+300)->Q (.tup [webD w,.tup (nmD rs)],o'::T)):W (dU 1 gu [.ref 0] (o::T)) Q:=by
 refine mF O O v ?_;unfold gu;refine jl ?_;unfold lu;generalize t:T++[Ob.lst [.int 2,.int 2,.int 3,.int 4]]=X;have e:X.all (Ob.und (X.length+1))=M:=by rw[<- t];exact Na v O
 refine ei (λr S=>∃(cp:Nat) (f:Ob),1<=cp/\cp<=4/\fG f (n+1)/\S=f::X/\r=[Z (.ref 0),Z (.int cp)]) ?_ ?_
 ·walk_at"w";refine fN ho (by lia) (by lia) (by lia) λd f a G=>?_;obtain⟨cp,h1,h2,C⟩:=Op (d:=d) (by lia);walk_at"w";refine kl (i:=d) (xs:=[.int 2,.int 2,.int 3,.int 4]) (x:=.int cp) (by rw[gC1,d2];rfl) h1 ?_;exact⟨cp,f,h2,C,a,by rw[t],O⟩
 rintro r S ⟨cp,f,h1,y,a,rfl,rfl⟩
 wp_walk using Os h1 y
 have E:1<=8/cp:=Nat.div_pos (by lia) (by lia);refine Fy a (by lia) e E (Nat.div_le_self 8 cp) λm w F s z B j=>?_;walk_at"w";refine G7 B s (by lia) y (Oa z) (j.more (k:=n+101) (by lia)) (by lia) e λA cw rs u c g p h l b=>?_;refine⟨.tup [webD cw,.tup (nmD rs)],u,[Ob.lst [.int 2,.int 2,.int 3,.int 4]],by rw[t],?_,b.und,q A cw rs u c g ⟨p,h,_,l⟩ (b.more (by lia))⟩;rw[D.und,D.unds,eL,D.unds,D.unds,D.und,fH];rfl
open Classical in
def tf(P:Prop):Bool:=decide P
theorem zt{P:Prop}:tf P=M↔P:=by unfold tf;exact @decide_eq_true_iff P (Classical.propDecidable P)
theorem mT{P:Prop}(h:P):tf P=M:=zt.mpr h
theorem zu{P:Prop}{b:Bool}(h:b=M↔P):b=tf P:=by rw[bS,zt];exact h
theorem zr{P:Prop}(h:¬ P):tf P=J:=(zu ⟨λz=>(by cases z),λz=>(h z).elim⟩).symm
theorem NJ{P Q:Prop}(h:P↔Q):tf P=tf Q:=zu (zt.trans h)
section
variable{α β:Type}
def isF(k:Nat->α)(r:Nat):Prop:=∀s,s<r->k s≠k r
theorem yK(k:Nat->α)(r:Nat):∃s,s<=r/\k s=k r/\isF k s:=by
 induction r using Nat.strongRecOn with
 |ind r ih=>
  by_cases h:isF k r
  ·exact⟨r,nR1 _,O,h⟩
  ·obtain⟨s,h1,h2⟩:∃s,s<r/\k s=k r:=Sh λz=>h λs a e=>z ⟨s,a,e⟩;obtain⟨u,d,b,c⟩:=ih s h1;exact⟨u,by lia,b.trans h2,c⟩
noncomputable def fs(k:Nat->α)(r:Nat):Nat:=Classical.choose (yK k r)
theorem vq(k:Nat->α)(r:Nat):fs k r<=r:=(Te (yK k r)).1
theorem vr(k:Nat->α)(r:Nat):k (fs k r)=k r:=(Te (yK k r)).2.1
theorem wY(k:Nat->α)(r:Nat):isF k (fs k r):=(Te (yK k r)).2.2
theorem yL{k:Nat->α}{s:Nat}(h:k s=k r)(hf:isF k s):s=fs k r:=by
 rcases cj s (fs k r)with z|z|z
 ·exact(wY k r s z (h.trans (vr k r).symm)).elim
 ·exact z
 ·exact(hf _ z ((vr k r).trans h.symm)).elim
theorem pJ{k:Nat->α}{s:Nat}:fs k r=fs k s↔k r=k s:=by
 constructor
 ·intro h;rw[<- vr k r,h];exact vr k s
 ·intro h;exact yL ((vr k r).trans h) (wY k r)
noncomputable def cnt(k:Nat->α)(n:Nat):Nat:=((af n).filter λs=>tf (isF k s)).length
def cn(k:Nat->α)(r:Nat):Nat:=cnt k (fs k r)
theorem vP{k:Nat->α}:cnt k (n+1)=cnt k n+if tf (isF k n)=M then 1 else 0:=by
 unfold cnt;rw[dn,de,lA1]
 congr 1
 cases h:tf (isF k n)with
 |true=>rw[dq (by exact h)];rfl
 |false=>rw[dr (by rw[h];decide)];rfl
theorem vQ{k:Nat->α}(h:a<=b):cnt k a<=cnt k b:=by
 induction b with
 |zero=>rw[show a=0 by lia];exact nR1 _
 |succ b ih=>
  rcases dj.mp (Nat.lt_succ_of_le h)with z|z
  ·rw[vP];have:=ih (by lia);lia
  ·rw[z];exact nR1 _
theorem xb{k:Nat->α}(h:a<b)(hf:isF k a):cnt k a<cnt k b:=by
 have h1:=vQ (k:=k) (show a+1<=b from h);rw[vP,mT hf,ak O]at h1;lia
theorem DO{k:Nat->α}{s:Nat}:cn k r=cn k s↔k r=k s:=by
 constructor
 ·intro h;rw[<- pJ];rcases cj (fs k r) (fs k s)with z|z|z
  ·have:=xb z (wY k r);unfold cn at h;lia
  ·exact z
  ·have:=xb z (wY k s);unfold cn at h;lia
 ·intro h;unfold cn;rw[pJ.mpr h]
theorem rL{k:Nat->α}{k':Nat->β}(h:∀a b,a<m->b<m->(k a=k b↔k' a=k' b))(hr:r<m):isF k r↔isF k' r:=
 ⟨λf s c e=>f s c ((h s r (by lia) hr).mpr e),λf s c e=>f s c ((h s r (by lia) hr).mp e)⟩
theorem Dq{k:Nat->α}{k':Nat->β}(h:∀a b,a<m->b<m->(k a=k b↔k' a=k' b))(hr:r<m):fs k r=fs k' r:=by
 have h1:=vq k r;exact yL ((h _ _ (by lia) hr).mp (vr k r)) ((rL h (by lia)).mp (wY k r))
theorem Az{k:Nat->α}{k':Nat->β}(h:∀a b,a<m->b<m->(k a=k b↔k' a=k' b))(hn:n<=m):cnt k n=cnt k' n:=by
 unfold cnt
 congr 1
 refine List.filter_congr λs c=>?_;exact NJ (rL h (by have:=aC.mp c;lia))
theorem vR{k:Nat->α}{k':Nat->β}(h:∀a b,a<m->b<m->(k a=k b↔k' a=k' b))(hr:r<m):cn k r=cn k' r:=by
 unfold cn;have h1:=vq k r;rw[<- Dq h hr];exact Az h (by lia)
theorem M0{k:Nat->α}:cn (cn k) r=cn k r:=vR (m:=r+1) (λ_ _ _ _=>DO) (bC r)
end
noncomputable def gX(w:dV)(r:Nat):List (Nat×Nat):=w[r]?.getD []
theorem kB{w:dV}{row:List (Nat×Nat)}(h:w[r]?=Z row):gX w r=row:=by unfold gX;rw[h];rfl
noncomputable def i8(sg:List Int)(r:Nat):Int:=sg.getD r 0
noncomputable def JF(c:Nat->Nat)(e:Nat×Nat):Nat×Nat:=(c e.1,e.2)
def lk(w:dV)(sg:List Int)(c:Nat->Nat)(r:Nat):Nat×Int×List (Nat×Nat):=(c r,i8 sg r,(gX w r).map (JF c))
def col(w:dV)(sg:List Int):Nat->Nat->Nat
 |0=>λ_=>0
 |n+1=>cn (lk w sg (col w sg n))
def Dr(w:dV)(R:Nat->Nat->Prop)(r s:Nat):Prop:=(gX w r).length=(gX w s).length /\ ∀(d:Nat) (e e':Nat×Nat),(gX w r)[d]?=Z e->(gX w s)[d]?=Z e'->R e.1 e'.1/\e.2=e'.2
theorem Dr.imp{w:dV}{R c:Nat->Nat->Prop}{s:Nat}(h:Dr w R r s)(i:∀a b,R a b->c a b):Dr w c r s:=⟨h.1,λd e f h1 h2=>⟨i _ _ (h.2 d e f h1 h2).1,(h.2 d e f h1 h2).2⟩⟩
theorem Kd{γ:Type}{w:dV}{c:Nat->γ}{s:Nat}:(gX w r).map (λe=>(c e.1,e.2))=(gX w s).map (λe=>(c e.1,e.2))↔Dr w (λa b=>c a=c b) r s:=by
 constructor
 ·intro h;refine⟨by have:=congrArg List.length h;rwa [lM1,lM1]at this,λd e e' h1 h2=>?_⟩;have:=congrArg (λl:List (γ×Nat)=>l[d]?) h;simp only[gP1,h1,h2,oP1,Option.some.injEq,Tf]at this;exact this
 ·rintro⟨h1,h2⟩;refine b0 λd=>?_;rw[gP1,gP1];cases he:(gX w r)[d]? with
  |none=>
   rw[List.getElem?_eq_none_iff]at he;rw[b4 (by lia)]
  |some e=>
   have j:=(Tg he).1;obtain⟨e',f⟩:∃e',(gX w s)[d]?=some e':=⟨_,gG1 (by lia)⟩;rw[f];obtain⟨i,g⟩:=h2 d e e' he f;simp only[oP1,i,g]
def RA(w:dV)(sg:List Int):Nat->Nat->Nat->Prop
 |0=>λ_ _=>True
 |n+1=>λr s=>RA w sg n r s/\i8 sg r=i8 sg s/\Dr w (RA w sg n) r s
theorem hD{w:dV}{sg:List Int}:∀{n r s:Nat},col w sg n r=col w sg n s↔RA w sg n r s
 |0,r,s=>⟨λ_=>trivial,λ_=>rfl⟩
 |n+1,r,s=>by
  have ih:=@hD w sg n;rw[col,DO,lk,lk,Tf,Tf,RA,ih];refine and_congr_right λ_=>and_congr_right λ_=>?_;exact Kd.trans ⟨λh=>h.imp λa b=>ih.mp,λh=>h.imp λa b=>ih.mpr⟩
theorem DN{w:dV}{sg:List Int}:∀{n r:Nat},col w sg n r=cn (col w sg n) r
 |0,r=>by
  have:fs (col w sg 0) r=0:=(yL (k:=col w sg 0) (s:=0) (r:=r) O λs a=>absurd a (bw s)).symm;unfold cn;rw[this];rfl
 |n+1,r=>by rw[col,M0]
def EB(w:dV)(sg:List Int):Nat->Nat->Nat->Prop
 |0=>λr s=>(gX w r).length=(gX w s).length/\i8 sg r=i8 sg s
 |n+1=>λr s=>EB w sg n r s/\Dr w (EB w sg n) r s
theorem RA.eb{w:dV}{sg:List Int}:∀{n r s:Nat},RA w sg (n+1) r s->EB w sg n r s
 |0,r,s,h=>⟨h.2.2.1,h.2.1⟩
 |n+1,r,s,h=>⟨RA.eb h.1,h.2.2.imp λa b=>RA.eb⟩
def Stl(m:Nat)(w:dV)(sg:List Int)(n:Nat):Prop:=∀r s,r<m->s<m->RA w sg n r s->RA w sg (n+1) r s
theorem Dr.lt{w:dV}{R f:Nat->Nat->Prop}{s:Nat}(hw:WebJ m w)(h:Dr w R r s)(i:∀a b,a<m->b<m->R a b->f a b):Dr w f r s:=by
 have at_:∀{r d:Nat} {e:Nat×Nat},(gX w r)[d]?=Z e->e.1<m:=λ{r d e} c=>by
  unfold gX at c;cases hr:w[r]? with
  |none=>rw[hr]at c;simp at c
  |some row=>rw[hr]at c;exact hw.to r d e ⟨row,hr,c⟩
 exact⟨h.1,λd e g h1 h2=>⟨i _ _ (at_ h1) (at_ h2) (h.2 d e g h1 h2).1,(h.2 d e g h1 h2).2⟩⟩
theorem Stl.next{w:dV}{sg:List Int}(hw:WebJ m w)(h:Stl m w sg n):Stl m w sg (n+1):=λr s b a q=>
 ⟨q,q.2.1,q.2.2.lt hw h⟩
theorem Stl.on{m n:Nat}{w:dV}{sg:List Int}(hw:WebJ m w)(h:Stl m w sg n):∀k,Stl m w sg (n+k)
 |0=>h
 |k+1=>(h.on hw k).next hw
theorem Stl.up{m n:Nat}{w:dV}{sg:List Int}(hw:WebJ m w)(h:Stl m w sg n):∀k r s,r<m->s<m->(RA w sg n r s↔RA w sg (n+k) r s)
 |0,r,s,_,_=>Iff.rfl
 |k+1,r,s,hr,hs=>(h.up hw k r s hr hs).trans ⟨λq=>h.on hw k r s hr hs q,λq=>q.1⟩
theorem vN{k:Nat}{w:dV}{sg:List Int}(h:∀r s,r<m->s<m->(RA w sg n r s↔RA w sg k r s))(hr:r<m):col w sg n r=col w sg k r:=by
 rw[DN (n:=n),DN (n:=k)];exact vR (m:=m) (λa b d c=>by rw[hD,hD];exact h a b d c) hr
theorem EZ{w:dV}{sg:List Int}:(∀r,r<m->col w sg (n+1) r=col w sg n r)↔Stl m w sg n:=by
 constructor
 ·intro h r s a b q;rw[<- hD]at q ⊢;rw[h r a,h s b,q]
 ·intro h r a;exact(vN (λr s a b=>⟨λq=>h r s a b q,λq=>q.1⟩) a).symm
theorem yP{p q:Nat->Bool}(h:∀x,p x=M->q x=M):∀l:List Nat,(l.filter p).length<=(l.filter q).length/\((l.filter p).length=(l.filter q).length -> ∀x∈l,q x=M->p x=M)
 |[]=>⟨nR1 _,λ_ x b=>by cases b⟩
 |a::l=>by
  obtain⟨h1,h2⟩:=yP h l;cases hp:p a with
  |true=>
   rw[dq hp,dq (h a hp),lC1,lC1];refine⟨by lia,λe x b d=>?_⟩;rcases aF.mp b with rfl|b
   ·exact hp
   ·exact h2 (by lia) x b d
  |false=>
   rw[dr (by rw[hp];decide)];cases d:q a with
   |true=>
    rw[dq d,lC1];exact⟨by lia,λe=>by lia⟩
   |false=>
    rw[dr (by rw[d];decide)];refine⟨h1,λe x b c=>?_⟩;rcases aF.mp b with rfl|b
    ·rw[d]at c;cases c
    ·exact h2 e x b c
theorem more{w:dV}{sg:List Int}(h:¬ Stl m w sg n):cnt (col w sg n) m<cnt (col w sg (n+1)) m:=by
 have d:∀r,isF (col w sg n) r->isF (col w sg (n+1)) r:=λr b s c e=>b s c (by rw[hD]at e ⊢;exact e.1);obtain⟨h1,h2⟩:=yP (p:=λs=>tf (isF (col w sg n) s)) (q:=λs=>tf (isF (col w sg (n+1)) s)) (λx a=>mT (d x (zt.mp a))) (af m);refine Nat.lt_of_le_of_ne h1 λe=>h λr s f c q=>?_;have back:∀x,x<m->isF (col w sg (n+1)) x->isF (col w sg n) x:=λx a b=>zt.mp (h2 e x (aC.mpr a) (mT b))
 -- both have one first place
 have one:∀x,x<m->fs (col w sg (n+1)) x=fs (col w sg n) x:=λx a=>by
  have g:=vq (col w sg (n+1)) x;refine yL ?_ (back _ (by lia) (wY _ x));have:=vr (col w sg (n+1)) x;rw[hD]at this ⊢;exact this.1
 rw[<- hD]at q ⊢;rw[<- pJ,one r f,one s c,pJ];exact q
theorem KX(k:Nat->Nat)(m:Nat):cnt k m<=m:=by
 unfold cnt;exact aD (db ..) (by rw[cM];exact nR1 _)
theorem wz{w:dV}{sg:List Int}(hm:0<m)(h:∀k,k<n -> ¬ Stl m w sg k):n<m:=by
 have:∀k,k<=n->k+1<=cnt (col w sg k) m:=λk=>by
  induction k with
  |zero=>
   intro _;have:=xb (k:=col w sg 0) hm (λs a=>by lia);lia
  |succ k ih=>
   intro b;have h1:=ih (by lia);have h2:=more (h k (by lia));lia
 have h1:=this n (nR1 _);have h2:=KX (col w sg n) m;lia
def gG(m:Nat)(w:dV)(sg:List Int):List Nat:=(af m).map (col w sg m)
theorem E1{w:dV}{sg:List Int}(hw:WebJ m w)(h:Stl m w sg n)(hn:n<=m):(af m).map (col w sg n)=gG m w sg:=by
 refine cV λr e=>?_;refine vN (λa b d c=>?_) (aC.mp e);have:=h.up hw (m-n) a b d c
 rwa [show n+(m-n)=m by lia]at this
theorem IA{w:dV}{sg:List Int}(hm:0<m):∃n,n<m/\Stl m w sg n:=by
 refine Sh λz=>?_;have:=wz (w:=w) (sg:=sg) (n:=m) hm λk b a=>z ⟨k,b,a⟩;lia
theorem sO{w:dV}(hw:WebJ m w)(hr:r<m):∃row,w[r]?=Z row:=⟨_,gG1 (by rw[hw.len];exact hr)⟩
theorem Cq(h:o.und 0=M):o.sh n=o:=by
 have a:∀{κ:Type} (l:List (κ×D)),D.unds 0 (l.map (·.2))=M->(l.map λp=>(p.1,p.2.sh n))=l:=λl=>by
  induction l with
  |nil=>intro _;rfl
  |cons x l ih=>
   intro h;rw[mP1,D.unds,bA1]at h;rw[mP1,ih h.2,BI h.1]
 cases o with
 |lst xs=>rw[Ob.und]at h;rw[Ob.sh,lT h]
 |dct l=>rw[Ob.und]at h;rw[Ob.sh,a l h]
 |dcT l=>rw[Ob.und]at h;rw[Ob.sh,a l h]
 |dcF l=>rw[Ob.und]at h;rw[Ob.sh,a l h]
 |iset l=>rfl
 |tst l=>rfl
theorem Bu(h:S.all (Ob.und 0)=M):S.map (Ob.sh n)=S:=by
 have:S.map (Ob.sh n)=S.map id:=cV λo a=>Cq (bB.mp h o a);rw[this,List.map_id]
theorem HX{f:FN}{ds:List D}(hn:ds.length=n)(c:D.unds 0 ds=M)(h:W (f ds []) λp=>∃k xs,p.1 = .ref k/\p.2[k]?=Z (.lst xs)/\p.2.all (Ob.und 0)=M /\ ∀G j,(S++G)[j]?=Z (.lst xs)->G.all (Ob.und 0)=M->S.length<=j->Q (.ref j,S++G)):W (dU n f ds S) Q:=by
 obtain⟨⟨d,G⟩,e,k,xs,rfl,b,a,q⟩:=h;refine⟨_,pX e hn c O,?_⟩;dsimp only at b a;rw[Bu a];exact q G _ (by rw[eZ];exact b) a (br _ _)
theorem Oy(h:S.all (Ob.und 0)=M):S.all (Ob.und S.length)=M:=by
 rw[bB]at *
 exact λo a=>hR (bi _) (h o a)
abbrev iN(sg:List Int):D:=.tup (sg.map D.int)
theorem gK(sg:List Int):(iN sg).und 0=M:=by rw[D.und];exact eN λ_ _=>rfl
abbrev HW(m:Nat)(c:Nat->Nat):List Nat:=(af m).map c
abbrev ub(m:Nat)(c:Nat->Nat):D:=.tup (nmD (HW m c))
theorem Nh{c:Nat->Nat}(hr:r<m)(q:Q (.int (c r:Nat),S)):W (dW (ub m c) (.int r) S) Q:=
 ip (i:=r) (x:=.int (c r:Nat)) (by rw[nmD,gP1,gP1,cE hr];rfl) q
theorem Ei{sg:List Int}(a:sg.length=m)(hr:r<m)(q:Q (.int (i8 sg r),S)):W (dW (iN sg) (.int r) S) Q:=
 ip (i:=r) (x:=.int (i8 sg r)) (by rw[gP1,gG1 (by lia)];unfold i8;rw[bJ,gG1 (by lia)];rfl) q
abbrev Lk:=Nat×Int×List (Nat×Nat)
def tL(x:Lk):D:=.tup [.int (x.1:Nat),.int x.2.1,.tup (x.2.2.map pD)]
theorem Gr(x:Lk):(tL x).und 0=M:=by
 unfold tL;rw[D.und,D.unds,D.unds,D.unds,D.und,eN (λ_ _=>rfl)];rfl
theorem Gn{w:dV}{sg:List Int}{c:Nat->Nat}(hw:WebJ m w)(hm:m<=8)(hs:sg.length=m):W (gP [webD w,iN sg,ub m c] []) λp=>∃k,p.1 = .ref k/\p.2[k]?=Z (.lst ((af m).map λr=>tL (lk w sg c r)))/\p.2.all (Ob.und 0)=M:=by
 unfold gP;refine jl ?_;unfold uh;refine ei (λr V=>V=[.lst []]/\r=[Z (webD w),Z (iN sg),Z (ub m c),Z (.ref 0),Y,Y,Y]) ?_ ?_
 ·walk_at"w"
  try exact⟨O,trivial⟩
 rintro r V ⟨rfl,rfl⟩;refine ei (λr V=>∃G h g b,G.all (Ob.und 0)=M/\V = .lst ((af m).map λr=>tL (lk w sg c r))::G/\r=[Z (webD w),Z (iN sg),Z (ub m c),Z (.ref 0),h,g,b]) ?_ ?_
 ·unfold fO;rw[dY];refine sy (xs:=w.map λrow=>.tup (row.map pD)) O ?_;refine eY (λi r V=>∃G h g b,i<=m/\G.all (Ob.und 0)=M/\V = .lst ((af i).map λr=>tL (lk w sg c r))::G/\r=[Z (webD w),Z (iN sg),Z (ub m c),Z (.ref 0),h,g,b]) _ 0 _ _ ⟨[],_,_,_,by lia,O,O,O⟩ (λ_ _ _ _=>rfl) ?_ ?_
  ·rintro i A j r V ⟨G,h,g,b,hi,l,rfl,rfl⟩;rw[gR,gP1]at j;obtain⟨z,x,rfl⟩:=Ti j;obtain⟨row,a,rfl⟩:=Ti x;have o:i<m:=by rw[<- hw.len];exact(Tg a).1
   have v:=hw.le i row a;rw[bO]at *
   walk_at"w";unfold mZ;refine ei (λr V=>V = .lst ((af i).map λr=>tL (lk w sg c r))::(G++[.lst (row.map λe=>pD (JF c e))])/\r=[Z (webD w),Z (iN sg),Z (ub m c),Z (.ref 0),Z (.int (i:Nat)),Z (.tup (row.map pD)),Z (.tup (row.map λe=>pD (JF c e)))]) ?_ ?_
   ·walk_at"w";rw[iD];refine jI (f:=pD) (λe=>pD (JF c e)) (λq=>∃s t,q=[s,t,Z (ub m c)]) O row _ ⟨_,_,O⟩ ?_ ?_
    ·rintro e u q ⟨s,t,rfl⟩;obtain⟨d,y⟩:=bq u;have:=hw.to i d e ⟨row,a,y⟩;rw[pD];walk_at"w";refine Nh this ?_;walk_at"w";exact⟨O,_,_,O⟩
    ·rintro q _;refine⟨d3 (by rw[lM1];lia),?_⟩;walk_at"w";refine eF (xs:=row.map λe=>pD (JF c e)) (by rw[gC1,d2];rfl) ?_
     first|exact⟨rfl,rfl⟩|exact⟨rfl,trivial⟩|rfl
   rintro r V ⟨rfl,rfl⟩;unfold fR;rw[dY];refine jp ?_;walk_at"w";refine⟨0,(af i).map λr=>tL (lk w sg c r),O,O,?_⟩;refine Nh o ?_;walk_at"w";refine Ei hs o ?_;walk_at"w";refine(lx (n:=0) (xs:=(af i).map λr=>tL (lk w sg c r)) O).mpr ⟨d3 (by rw[lM1,cM];lia),?_⟩;refine⟨G++[.lst (row.map λe=>pD (JF c e))],_,_,_,by lia,?_,?_,O⟩
   ·rw[cW,l,bQ,Ob.und,eN (λ_ _=>rfl)];rfl
   ·have e:tL (lk w sg c i)=D.tup [D.int (c i:Nat),D.int (i8 sg i),D.tup (row.map fun e=>pD (JF c e))]:=by
     unfold lk;rw[kB a,tL,bu];rfl
    rw[dn,cr,mP1,e];rfl
  ·rintro r V ⟨G,h,g,b,hi,l,rfl,rfl⟩;rw[hC,lM1,bO,hw.len];exact⟨O,G,_,_,_,l,O,O⟩
 rintro r V ⟨G,h,g,b,l,rfl,rfl⟩;walk_at"w";refine⟨0,O,O,?_⟩;rw[bQ,l,Ob.und,eN (λ_ _=>Gr _)];rfl
def Gq(x:Lk):TK:=.tup [.int (x.1:Nat),.int x.2.1,.tup (x.2.2.map Lo)]
theorem HL:∀l:List (Nat×Nat),Af (l.map pD)=Z (l.map Lo)
 |[]=>rfl
 |e::l=>by
  rw[mP1,Af,HL l];rfl
theorem HV:∀l:List (Nat×Nat),TK.depAll (l.map Lo)<=2
 |[]=>by simp[TK.depAll]
 |e::l=>by
  have:=HV l;rw[mP1,TK.depAll];have:(Lo e).dep<=2:=by simp[Lo,TK.dep,TK.depAll]
  lia
theorem pz(x:Lk):keyT (tL x)=Z (Gq x):=by
 have e:Af [.int (x.1:Nat),.int x.2.1,.tup (x.2.2.map pD)]=Z [.int (x.1:Nat),.int x.2.1,.tup (x.2.2.map Lo)]:=by
  simp only[Af,kD,HL,oP1,oS1]
 unfold tL;rw[keyT,e,oS1,ak]
 ·rfl
 ·have:=HV x.2.2;simp[TK.dep,TK.depAll];lia
theorem Gs{x y:Lk}(h:tL x=tL y):x=y:=by
 obtain⟨a,b,l⟩:=x;obtain⟨g,i,l'⟩:=y;unfold tL at h;injection h with h;injection h with h1 h;injection h with h2 h;injection h with c h;injection h1 with h1;injection h2 with h2;injection c with c;have:l=l':=(List.map_inj_right λx y e=>by
  unfold pD at e;injection e with e;injection e with d e;injection e with f e;injection d with d;injection f with f;exact Prod.ext (by lia) (by lia)).mp c
 dsimp only at h1 h2;rw[this,h2,show a=g by lia]
theorem yt{x y:Lk}(h:Gq x=Gq y):x=y:=by
 have h1:=(mn (pz x)).1;have h2:=(mn (pz y)).1;exact Gs (by rw[<- h1,<- h2,h])
def nF(k:Nat->Lk)(i:Nat):List (TK×D):=((af i).filter λf=>tf (isF k f)).map λf=>(Gq (k f),.int (cnt k f:Nat))
theorem nF_len{k:Nat->Lk}:(nF k i).length=cnt k i:=by unfold nF cnt;rw[lM1]
theorem tF{k:Nat->Lk}:nF k (i+1)=nF k i++if tf (isF k i)=M then[(Gq (k i),.int (cnt k i:Nat))]else[]:=by
 unfold nF;rw[dn,de,cr]
 congr 1
 cases h:tf (isF k i)with
 |true=>rw[dq (by exact h)];rfl
 |false=>rw[dr (by rw[h];decide)];rfl
theorem tG{k:Nat->Lk}:∀{i r:Nat},fs k r<i->d6 (nF k i) (Gq (k r))=Z (.int (cn k r:Nat))
 |0,r,h=>by lia
 |i+1,r,h=>by
  rw[tF,px];by_cases hi:fs k r<i
  ·rw[tG hi];rfl
  ·have e:fs k r=i:=by lia
   have b:=wY k r;have c:=vr k r;rw[e]at b c;rw[mT b,ak O];have g:d6 (nF k i) (Gq (k r))=Y:=by
    refine kI ?_;rw[cX];intro z;obtain⟨p,l,j⟩:=bT.mp z;obtain⟨f,d,rfl⟩:=cc.mp l;have a:=aC.mp (aB.mp d).1;have:=yt (RJ j);exact b f a (by rw[c];exact this)
   rw[g,Option.none_or,gg,ak (by rw[c])];unfold cn;rw[e]
theorem CC{k:Nat->Lk}(h:isF k i):((nF k i).any λp=>decide (p.1=Gq (k i)))=J:=by
 rw[cX];intro z;obtain⟨p,c,d⟩:=bT.mp z;obtain⟨f,b,rfl⟩:=cc.mp c;have a:=aC.mp (aB.mp b).1;exact h f a (yt (RJ d))
theorem JA{d:D}{k:TK}(h:S[n]?=Z (dO F))(hk:keyT d=Z k):kN d (.ref n) S=Z (.bl (!(d6 F k).isSome),S):=by
 unfold dO at h;by_cases a:F=[]
 ·subst a;rw[ak O]at h;simp only[kN,h,hk];rfl
 ·rw[aj a]at h;simp only[kN,gh,h,hk,oP1]
theorem Of(h:S[n]?=Z (dO F)):rR (.ref n) S=Z (.int (F.length:Nat),S):=by
 unfold dO at h;by_cases a:F=[]
 ·subst a;rw[ak O]at h;simp only[rR,pH,h];rfl
 ·rw[aj a]at h;simp only[rR,h]
theorem Jz{k:Nat->Lk}(v:S.all (Ob.und 0)=M)(hn:S[n]?=Z (.lst ((af m).map λr=>tL (k r))))(hm:m<=8)(q:Q (ub m (cn k),S)):W (dU 1 gB [.ref n] S) Q:=by
 refine vT O O ?_;unfold gB;refine jl ?_;unfold p0;have gn:∀(X:Ob),(S++[X])[n]?=Z (.lst ((af m).map λr=>tL (k r))):=λX=>by rw[gL1 (Tg hn).1];exact hn
 have h:∀(X:Ob),(S++[X])[S.length]?=Z X:=λX=>by rw[d2];rfl
 have st:∀(X au:Ob),(S++[X]).set S.length au=S++[au]:=λX au=>by rw[df _ _ (nR1 _),cQ];rfl
 refine ei (λr V=>V=S++[dO (nF k 0)]/\r=[Z (.ref n),Z (.ref S.length),Y]) ?_ ?_
 ·have w:dO (nF k 0) = .dct []:=ak O;rw[w]
  wp_walk using pu
 rintro r V ⟨rfl,rfl⟩;refine ei (λr V=>∃c,V=S++[dO (nF k m)]/\r=[Z (.ref n),Z (.ref S.length),c]) ?_ ?_
 ·walk_at"w";refine eF (gn _) ?_;refine eY (λi r V=>∃c,i<=m/\V=S++[dO (nF k i)]/\r=[Z (.ref n),Z (.ref S.length),c]) _ 0 _ _ ⟨_,by lia,O,O⟩ ?_ ?_ ?_
  ·rintro i r V ⟨_,_,rfl,_⟩;exact fQ (gn _)
  ·rintro i d j r V ⟨c,hi,rfl,rfl⟩;dsimp only at j;have a:=(Tg j).1;rw[lM1,cM]at a;rw[gP1,cE a]at j;cases j;rw[bO]at *
   walk_at"w";unfold l7;have t:=JA (S:=S++[dO (nF k i)]) (d:=tL (k i)) (h _) (pz _)
   wp_walk using t
   by_cases g:isF k i
   ·have b:d6 (nF k i) (Gq (k i))=Y:=kI (CC g);rw[b,ak (by rfl)];have u:=Of (S:=S++[dO (nF k i)]) (h _)
    wp_walk using u
    refine xm (F:=nF k i) (h _) (pz _) (by rw[nF_len];have:=vQ (k:=k) hi;have A:cnt k m<=m:=(by unfold cnt;exact aD (db ..) (by rw[cM];exact nR1 _));lia) ?_;rw[st];refine⟨_,a,?_,O⟩;rw[tF,mT g,ak O,nF_len];unfold hO;rw[CC g,aj (by decide)]
   ·obtain⟨s,o,p⟩:∃s,s<i/\k s=k i:=Sh λz=>g λs o e=>z ⟨s,o,e⟩;have l:fs k i<i:=bH (by rw[<- pJ.mpr p];exact vq k s) o;rw[tG l,aj (by simp)];refine⟨_,a,?_,O⟩;rw[tF,zr g,aj (by decide),aN]
  ·rintro r V ⟨c,hi,rfl,rfl⟩;rw[lM1,cM,bO];exact⟨O,_,O,O⟩
 rintro r V ⟨c,rfl,rfl⟩;walk_at"w";refine eF (gn _) ?_;refine jI (f:=λr=>tL (k r)) (λr=>D.int (cn k r:Nat)) (λr=>∃x,r=[x,Z (.ref S.length)]) (fQ (gn _)) (af m) _ ⟨_,O⟩ ?_ ?_
 ·rintro i hi r ⟨x,rfl⟩;walk_at"w";refine En (h _) (pz _) (tG (by have:=vq k i;have:=aC.mp hi;lia)) ?_;exact⟨O,O,_,O⟩
 ·rintro y _;refine⟨d3 (by rw[lM1,cM];lia),?_⟩;walk_at"w";refine eF (xs:=nmD (HW m (cn k))) (by first|(rw[eZ,nmD,bu];rfl)|simp[nmD]) ?_;have:=Dl (d:=ub m (cn k)) (S:=S) (G:=[dO (nF k m),.lst ((af m).map λr=>D.int (cn k r:Nat))]) (by rw[D.und];exact fH _) (Oy v)
  first|(rw[this];exact q)|(show Q (gc _ _);rw[this];exact q)
theorem Dz{S:Sto}{n:Nat}:∀a b:List Nat,w8 (jm S (n+1)) (nmD a) (nmD b)=Z (tf (a=b))
 |[],[]=>by rw[mT O];rfl
 |[],_::_=>by rw[zr (by simp)];rfl
 |_::_,[]=>by rw[zr (by simp)];rfl
 |x::a,y::b=>by
  have c:jm S (n+1) (.int x) (.int y)=Z ((x:Int) == (y:Int)):=rfl;show w8 _ (.int x::nmD a) (.int y::nmD b)=_;rw[w8,c,Dz a b,oS1];refine congrArg Z (zu ?_);rw[bA1,SV,zt,List.cons.injEq];constructor
  ·rintro⟨h1,h2⟩;exact⟨by lia,h2⟩
  ·rintro⟨h1,h2⟩;exact⟨by lia,h2⟩
theorem KM{a b:List Nat}:jm S (n+2) (.tup (nmD a)) (.tup (nmD b))=Z (tf (a=b)):=by
 rw[show n+2=n+1+1 from rfl,jm];simp only[iQ,Dz (S:=S) (n:=n) a b];simp
theorem CA{a b:List Nat}:wV (.tup (nmD a)) (.tup (nmD b)) S=Z (.bl (!tf (a=b)),S):=by
 show(jm S eu _ _).map _=_;rw[show eu=58+2 from rfl,KM];rfl
theorem M1{c c':Nat->Nat}:HW m c=HW m c' ↔ ∀r,r<m->c r=c' r:=by
 unfold HW;rw[List.map_inj_left];exact⟨λh r a=>h r (aC.mpr a),λh r a=>h r (aC.mp a)⟩
theorem La{x:Str}{g:FN}{a:FA}{r:Ev}(h:r[i]?=Z (Z (.fn x)))(q:W (mN g a r S) Q):W (va i x g a r S) Q:=by
 unfold va;rw[h];dsimp only;rw[ak O];exact q
theorem xY{n:Nat}{w:dV}{sg:List Int}{c:Nat->Nat}{h:Option D}(hw:WebJ m w)(hm:m<=8)(hs:sg.length=m)(b:S.all (Ob.und 0)=M)(q:∀G,(S++G).all (Ob.und 0)=M->Q (ub m (cn (lk w sg c)),S++G)):W (va 2 "numbered" (dU 1 gB) (dR (mN (dU 3 gP) (dR (mV 0) (dR (mV 1) (dR (mV 3) dS)))) dS) [Z (webD w),Z (iN sg),Z (.fn "numbered"),Z (ub m c),h] S) Q:=by
 refine La O ?_;simp(implicitDefEqProofs:=J) only[mN,dR,mV,dS,c6,gC1,oS1,dY,d7];refine HX O (by rw[D.unds,eL,D.unds,gK,D.unds,D.und,fH];rfl) ((Gn (c:=c) hw hm hs).mono ?_);rintro p ⟨k,h1,h2,f⟩;refine⟨k,_,h1,h2,f,λG j d e g=>?_⟩;have a:(S++G).all (Ob.und 0)=M:=by rw[cW,b,e];rfl
 exact Jz a d hm (q G a)
theorem zK{w:dV}{sg:List Int}(hw:WebJ m w)(l:0<m)(hm:m<=8)(hs:sg.length=m)(q:Q (.tup (nmD (gG m w sg)),S)):W (dU 3 jh [webD w,iN sg,.fn "numbered"] S) Q:=by
 refine fM O (by rw[D.unds,eL,D.unds,gK];rfl) ?_;unfold jh;refine jl ?_;unfold ss;refine ei (λr V=>V.all (Ob.und 0)=M/\r=[Z (webD w),Z (iN sg),Z (.fn "numbered"),Z (ub m (col w sg 0)),Y]) ?_ ?_
 ·walk_at"w";rw[show webD w = .tup (w.map λrow=>.tup (row.map pD))from rfl,iD];refine jI (f:=λrow:List (Nat×Nat)=>D.tup (row.map pD)) (λ_=>.int 0) (λr=>∃x,r=[x]) O w _ ⟨_,O⟩ ?_ ?_
  ·rintro row z r ⟨x,rfl⟩;walk_at"w";exact⟨_,O⟩
  ·rintro p _;refine ⟨d3 (by rw [lM1,hw.len];lia),?_⟩;walk_at"w";refine eF (xs:=w.map fun _=>D.int 0) rfl ?_;have e:(w.map fun _=>D.int 0)=nmD (HW m (col w sg 0)):=by
    have h1:(w.map λ_=>D.int 0)=aP m (D.int 0):=by rw[List.map_const',hw.len]
    have h2:nmD (HW m (col w sg 0))=aP m (D.int 0):=by
     unfold nmD HW;rw[bu];have:((λi:Nat=>D.int i)∘col w sg 0)=λ_=>D.int 0:=rfl;rw[this,List.map_const',cM]
    rw[h1,h2]
   rw[e];refine⟨?_,O⟩;rw[bQ,Ob.und,fH];rfl
 rintro r V ⟨d,rfl⟩;refine ei (λr V=>V.all (Ob.und 0)=M/\r=[Z (webD w),Z (iN sg),Z (.fn "numbered"),Z (ub m (col w sg 0)),Z (ub m (col w sg 1))]) ?_ ?_
 ·unfold d4;rw[dY];refine xY (n:=0) hw hm hs d λG s=>?_;exact W.of O ⟨O,s,O⟩
 rintro r V ⟨d,rfl⟩;refine ei (λr V=>r[3]?=Z (Z (.tup (nmD (gG m w sg))))) ?_ ?_
 ·refine uv (λk r V=>(∀j,j<k -> ¬ Stl m w sg j)/\V.all (Ob.und 0)=M/\r=[Z (webD w),Z (iN sg),Z (.fn "numbered"),Z (ub m (col w sg k)),Z (ub m (col w sg (k+1)))]) 8 ?_ 100000 0 _ _ (by lia) ⟨λj h=>by lia,d,O⟩;rintro k r V ⟨g,d,rfl⟩;unfold nE
  wp_walk using CA
  have o:=(M1 (m:=m) (c:=col w sg (k+1)) (c':=col w sg k)).trans EZ;by_cases a:Stl m w sg k
  ·rw[mT (o.mpr a),aj (by decide)];have v:=wz l g;show Z (Z (ub m (col w sg k)))=_;rw[<- E1 hw a (by lia)]
  ·rw [zr (fun h=>a (o.mp h)),if_pos (show (!false)=true from rfl)];have b:∀ j,j<k+1 -> ¬ Stl m w sg j:=fun j u=>by
    rcases dj.mp u with h|rfl
    ·exact g j h
    ·exact a
   have v:=wz l b;refine⟨by lia,?_⟩;unfold nD;refine ei (λp t=>t=V/\p=[Z (webD w),Z (iN sg),Z (.fn "numbered"),Z (ub m (col w sg (k+1))),Z (ub m (col w sg (k+1)))]) ?_ ?_
   ·walk_at"w"
   rintro p t ⟨rfl,rfl⟩;unfold d4;rw[dY];refine xY (n:=0) hw hm hs d λG s=>?_;exact W.of O ⟨O,b,s,O⟩
 rintro r V y;unfold eD;rw[dY];unfold mV;rw[y,d7];exact d7.mpr ⟨by rw[D.und];exact fH _,q⟩
theorem nO{w:dV}{sg:List Int}(hw:WebJ m w)(a:0<m)(hm:m<=8)(hs:sg.length=m)(q:Q (.tup (nmD (gG m w sg)),S)):W (dU 2 fV [webD w,iN sg] S) Q:=by
 refine fM O (by rw[D.unds,eL,D.unds,gK];rfl) ?_;unfold fV;refine jl ?_;unfold nQ;walk_at"w";refine zK hw a hm hs ?_;exact⟨by rw[D.und];exact fH _,q⟩
noncomputable def BK(ws cs:List Nat)(b:Bool)(r:Nat):Int:=(if cs.contains r then 1 else 0)+(if(b&&ws.contains r)=M then 2 else 0)
def sgL(m:Nat)(ws cs:List Nat)(b:Bool):List Int:=(af m).map (BK ws cs b)
theorem oj{b:Bool}:(sgL m ws cs b).length=m:=by unfold sgL;rw[lM1,cM]
def oN(ws cs:List Nat):D:=.tup [.tup (nmD ws),.tup (nmD cs)]
theorem mU:(oN ws cs).und 0=M:=by unfold oN;rw[D.und,D.unds,D.unds,D.und,D.und,fH,fH];rfl
theorem uc{w:dV}(hw:WebJ m w)(hm:m<=8)(q:Q (iN (sgL m ws cs J),S)):W (dU 2 eU [webD w,.tup (nmD cs)] S) Q:=by
 refine fM O (by rw[D.unds,eL,D.unds,D.und,fH];rfl) ?_;unfold eU;refine jl ?_;unfold lr
 wp_walk using kJ
 rw[hw.len];refine⟨eW (by lia),?_⟩;rw[lg,Ra];refine jI (f:=λi:Nat=>D.int i) (λr=>D.int (BK ws cs J r)) (λr=>∃x,r=[x,Z (.tup (nmD cs))]) O (af m) _ ⟨_,O⟩ ?_ ?_
 ·rintro r b a ⟨x,rfl⟩
  wp_walk using C9
  unfold BK;cases cs.contains r with
  |true=>exact⟨O,_,O⟩
  |false=>exact⟨O,_,O⟩
 ·rintro a _;refine⟨d3 (by rw[lM1,cM];lia),?_⟩;walk_at"w";have e:((af m).map λr=>D.int (BK ws cs J r))=(sgL m ws cs J).map D.int:=by unfold sgL;rw[bu];rfl
  rw[e];refine eF (xs:=(sgL m ws cs J).map D.int) O ?_;exact⟨gK _,q⟩
theorem D6{w:dV}(hw:WebJ m w)(hm:m<=8)(q:Q (iN (sgL m ws cs M),S)):W (dU 2 fW [webD w,oN ws cs] S) Q:=by
 refine fM O (by rw[D.unds,eL,D.unds,mU];rfl) ?_;unfold fW;refine jl ?_;unfold nR;refine ei (λr V=>V=[]/\r=[Z (webD w),Z (oN ws cs),Z (.tup (nmD ws)),Z (.tup (nmD cs)),Y]) ?_ ?_
 ·unfold oN;walk_at"w"
 rintro r V ⟨rfl,rfl⟩;refine ei (λr V=>V=[]/\r=[Z (webD w),Z (oN ws cs),Z (.tup (nmD ws)),Z (.tup (nmD cs)),Z (iN (sgL m ws cs J))]) ?_ ?_
 ·walk_at"w";refine uc (ws:=ws) hw hm ?_
  first|exact⟨rfl,rfl⟩|exact⟨rfl,trivial⟩|rfl
 rintro r V ⟨rfl,rfl⟩;walk_at"w";refine sy (xs:=(sgL m ws cs J).map D.int) O ?_;have d:vD 0 ((sgL m ws cs J).map D.int)=(af m).map λr=>D.tup [.int (r:Nat),.int (BK ws cs J r)]:=by
  refine b0 λi=>?_;rw[gR,gP1,gP1];unfold sgL;rw[gP1];by_cases h:i<m
  ·rw[cE h,bO];rfl
  ·rw[b4 (by rw[cM];lia)];rfl
 rw[d];refine jI (f:=λr:Nat=>D.tup [.int (r:Nat),.int (BK ws cs J r)]) (λr=>D.int (BK ws cs M r)) (λr=>∃a b,r=[a,b,Z (.tup (nmD ws))]) O (af m) _ ⟨_,_,O⟩ ?_ ?_
 ·rintro r g c ⟨a,b,rfl⟩
  wp_walk using C9
  unfold BK;cases ws.contains r with
  |true=>
   cases cs.contains r with
   |true=>exact⟨O,_,_,O⟩
   |false=>exact⟨O,_,_,O⟩
  |false=>exact⟨O,_,_,O⟩
 ·rintro c _;refine⟨d3 (by rw[lM1,cM];lia),?_⟩;walk_at"w";have e:((af m).map λr=>D.int (BK ws cs M r))=(sgL m ws cs M).map D.int:=by unfold sgL;rw[bu];rfl
  rw[e];refine eF (xs:=(sgL m ws cs M).map D.int) O ?_;exact⟨gK _,q⟩
theorem pS:∀(ns acc:List Int),acc.Nodup->((ns.foldl Sl acc).length<=acc.length+ns.length/\((ns.foldl Sl acc).length=acc.length+ns.length↔(acc++ns).Nodup))
 |[],acc,h=>by simp[h]
 |n::ns,acc,h=>by
  rw[b8];by_cases c:n∈acc
  ·have e:Sl acc n=acc:=by
    unfold Sl;rw[ak (bT.mpr ⟨n,c,by simp⟩)]
   rw[e];obtain⟨h1,h2⟩:=pS ns acc h;rw[lC1];refine⟨by lia,⟨λz=>by lia,λz=>?_⟩⟩;rw[bx]at z;exact(z.2.2 n c n mS1 O).elim
  ·have e:Sl acc n=acc++[n]:=by
    unfold Sl;rw[aj (by rw[bT];rintro⟨x,i,d⟩;exact c (by rw[<- SV.mp d];exact i))]
   rw[e];have hnd:(acc++[n]).Nodup:=by
    rw[bx];exact⟨h,by simp,λa g b f z=>by rw[cH]at f;subst f;subst z;exact c g⟩
   obtain⟨h1,h2⟩:=pS ns (acc++[n]) hnd;rw[lA1,aY,bG,List.singleton_append]at *
   rw[lC1];refine⟨by lia,?_⟩;rw[<- h2];constructor<;>intro z<;>lia
theorem ux:(rs.map λ(r:Nat)=>(r:Int)).Nodup↔rs.Nodup:=by
 unfold List.Nodup;rw[c5];exact⟨λh=>h.imp λz e=>z (by rw[e]),λh=>h.imp λz e=>z (by lia)⟩
theorem Bb(a:rs.length<=100)(q:Q (.bl (tf rs.Nodup),S)):W (dU 1 ff [.tup (nmD rs)] S) Q:=by
 refine fM O (by rw[D.unds,D.und,fH];rfl) ?_;unfold ff;refine jl ?_;unfold jC;have e:iU (.tup (nmD rs)) []=Z (.ref 0,[.iset (ddI (rs.map λ(r:Nat)=>(r:Int)))]):=by
  unfold iU;rw[iQ];dsimp only;rw[yE,oS1,ak (by rw[lM1];unfold Sn;lia)];rfl
 wp_walk using e
 refine xn O ?_;walk_at"w";refine⟨O,?_⟩;have:((((ddI (rs.map λ(r:Nat)=>(r:Int))).length:Nat):Int) == (((nmD rs).length:Nat):Int))=tf rs.Nodup:=zu (by
  have:=(pS (rs.map λ(r:Nat)=>(r:Int)) [] bp).2;rw[bf,bO,lM1,cY,ux]at this;rw[SV,eG,<- this];unfold ddI;lia)
 rw[this];exact q
theorem vb{c:List (Nat×List D)}{g:FG}{b:FS}{Q:Fl×Ev×Sto->Prop}(I:Nat->Ev->Sto->Prop):∀ (items:List D) (k:Nat) (r:Ev) (S:Sto),I k r S ->
  (∀i r S,I i r S->qj S c=M) ->
  (∀i d,items[i]?=Z d -> ∀r S,I (k+i) r S->W (g d r S) λp=>W (b p.1 p.2) λq=>(q.1 = .nx/\I (k+i+1) q.2.1 q.2.2) \/ ∃v,q.1 = .rt v/\Q (.rt v,q.2)) ->
  (∀r S,I (k+items.length) r S->Q (.nx,r,S))->W (jF c g b items r S) Q:=by
 intro items
 induction items with
 |nil=>intro k r S hi a _ j;rw[jF];dsimp only;rw[ak (a _ _ _ hi),d7];exact j r S (by simpa using hi)
 |cons d ds ih=>
  intro k r S hi a l j;rw[jF];dsimp only;rw[ak (a _ _ _ hi),dY];obtain⟨p,m,⟨f,o,t⟩,n,h⟩:=l 0 d O r S (by simpa using hi);refine⟨p,m,?_⟩;dsimp only;rw[dY];refine⟨_,n,?_⟩;dsimp only at h ⊢;rcases h with⟨rfl,e⟩|⟨v,rfl,u⟩
  ·exact ih (k+1) o t e a (fun i d s r S e=>by
    have:=l (i+1) d s r S (by rw[show k+(i+1)=k+1+i by lia];exact e);rw[show k+(i+1)+1=k+1+i+1 by lia]at this;exact this) λr S e=>j r S (by rw[lC1,show k+(ds.length+1)=k+1+ds.length by lia];exact e)
  ·exact d7.mpr u
theorem LP{a b:FS}{r:Ev}{Q:Fl×Ev×Sto->Prop}(h:W (a r S) λp=>(p.1 = .nx/\W (b p.2.1 p.2.2) Q) \/ ∃v,p.1 = .rt v/\Q (.rt v,p.2)):W (dZ a b r S) Q:=by
 obtain⟨⟨f,c,d⟩,e,h⟩:=h;unfold dZ;rw[e];dsimp only at h;rcases h with⟨rfl,h⟩|⟨v,rfl,h⟩
 ·exact h
 ·exact d7.mpr h
theorem KF{c:FT}{m:FE}{b:FS}{r:Ev}{Q:Fl×Ev×Sto->Prop}(C:Bool×Sto->Prop)(h1:W (c r S) C)(h2:∀V,C (M,V)->W (m r V) λp=>Q (.rt p.1,r,p.2))(f:∀V,C (J,V)->W (b r V) Q):W (dZ (fC c (eD m) li) b r S) Q:=by
 obtain⟨⟨t,V⟩,e,a⟩:=h1;unfold dZ fC;simp only[e,oS1];cases t with
 |true=>
  rw[ak O];unfold eD;rw[dY,dY];exact(h2 V a).mono λp d=>d7.mpr (d7.mpr d)
 |false=>
  rw[aj (by decide)];exact f V a
theorem uk{T:Ty}{m:FE}{r:Ev}:W (tI T m r S) Q↔W (m r S) λp=>W (vj p.2 T p.1) λb=>Q (.bl b,p.2):=by
 unfold tI;rw[dY];simp only[lw]
theorem C6{T:Ty}{xs:List D}:vj S T (.tup xs)=Z (decide (T = .tuple)):=rfl
theorem KA{T:Ty}{i:Int}:vj S T (.int i)=Z (decide (T = .int)):=rfl
noncomputable def cw(cl ws:List Nat)(i:Nat):Nat:=cl.getD (ws.getD i 0) 0
def alD(i j:Nat)(cl:List Nat):D:=.tup [.str "alike",.int (i:Nat),.int (j:Nat),.tup (nmD cl)]
inductive Al (cl ws:List Nat):D->Prop
 |yes (i j:Nat) (h1:i<j) (h2:j<ws.length) (h3:cw cl ws i=cw cl ws j) (h4:∀i' j',i'<j'->j'<ws.length->(i'<i\/(i'=i/\j'<j))->cw cl ws i'≠cw cl ws j'):Al cl ws (alD i j cl)
 |no (h:∀i j,i<j->j<ws.length->cw cl ws i≠cw cl ws j):Al cl ws .non
theorem Al.und{a:List Nat}{d:D}(h:Al a ws d):d.und 0=M:=by
 cases h with
 |no _=>rfl
 |yes i j _ _ _ _=>unfold alD;rw[D.und,D.unds,D.unds,D.unds,D.unds,D.und,D.und,D.und,D.und,fH];rfl
theorem v3(hi:i<rs.length)(q:Q (.int (rs.getD i 0:Nat),S)):W (dW (.tup (nmD rs)) (.int i) S) Q:=
 ip (i:=i) (x:=.int (rs.getD i 0:Nat)) (by rw[nmD,gP1,bJ,gG1 hi];rfl) q
theorem kM(hm:0<m)(h:∀x∈rs,x<m):rs.getD i 0<m:=by
 rw[bJ];cases e:rs[i]? with
 |none=>exact hm
 |some x=>exact h x (gM1 e)
theorem mE{w:dV}{sg:List Int}:(gG m w sg).length=m:=by unfold gG;rw[lM1,cM]
theorem K6:((a:Int) == (b:Int))=tf (a=b):=zu (by rw[SV];lia)
theorem Hn{w:dV}(hw:WebJ m w)(l:0<m)(hm:m<=8)(s:∀x∈ws,x<m)(B:ws.length<=20)(q:∀d,Al (gG m w (sgL m ws cs J)) ws d->Q (d,S)):W (dU 2 ml [webD w,oN ws cs] S) Q:=by
 refine fM O (by rw[D.unds,eL,D.unds,mU];rfl) ?_;unfold ml;refine jl ?_;unfold zb;generalize p:gG m w (sgL m ws cs J)=cl at *
 have f:cl.length=m:=by rw[<- p];exact mE
 refine ei (λr V=>V=[]/\r=[Z (webD w),Z (oN ws cs),Z (.tup (nmD ws)),Z (.tup (nmD cs)),Y,Y,Y]) ?_ ?_
 ·unfold oN;walk_at"w"
 rintro r V ⟨rfl,rfl⟩;refine ei (λr V=>V=[]/\r=[Z (webD w),Z (oN ws cs),Z (.tup (nmD ws)),Z (.tup (nmD cs)),Z (.tup (nmD cl)),Y,Y]) ?_ ?_
 ·walk_at"w";refine uc (ws:=ws) hw hm ?_;walk_at"w";refine nO hw l hm oj ?_;rw[p]
  first|exact⟨rfl,rfl⟩|exact⟨rfl,trivial⟩|rfl
 rintro r V ⟨rfl,rfl⟩;refine LP ?_;walk_at"w";rw[eG];refine⟨eW (by lia),?_⟩;rw[Ra];refine vb (λi r V=>∃z g,i<=ws.length/\(∀c a,c<a->a<ws.length->c<i->cw cl ws c≠cw cl ws a)/\V=[]/\r=[Z (webD w),Z (oN ws cs),Z (.tup (nmD ws)),Z (.tup (nmD cs)),Z (.tup (nmD cl)),z,g]) _ 0 _ _ ⟨_,_,by lia,λc a _ _ h=>by lia,O,O⟩ (λ_ _ _ _=>rfl) ?_ ?_
 ·rintro i d n r V ⟨z,g,hi,b,rfl,rfl⟩;have v:=(Tg n).1;rw[eH]at v;rw[lg,gP1,cE v]at n;cases n;rw[bO]at *
  walk_at"w";unfold rq;unfold fO;rw[dY];walk_at"w";rw[eG];refine⟨D0 (by lia) (by lia),eW (by lia),?_⟩;have A:gi ((i:Int)+1) (((ws.length:Nat):Int)-((i:Int)+1)).toNat=(af (ws.length-(i+1))).map λk:Nat=>D.int ((i+1+k:Nat):Int):=by
   rw[oo,show(((ws.length:Nat):Int)-((i:Int)+1)).toNat=ws.length-(i+1) by lia];refine cV λk _=>?_
   push_cast;rfl
  rw[A];refine vb (λk r V=>∃g,(∀a,i<a->a<i+1+k->cw cl ws i≠cw cl ws a)/\V=[]/\r=[Z (webD w),Z (oN ws cs),Z (.tup (nmD ws)),Z (.tup (nmD cs)),Z (.tup (nmD cl)),Z (.int (i:Nat)),g]) _ 0 _ _ ⟨_,λa h h'=>by lia,O,O⟩ (λ_ _ _ _=>rfl) ?_ ?_
  ·rintro k d n r V ⟨g,u,rfl,rfl⟩;have t:=(Tg n).1;rw[lM1,cM]at t;rw[gP1,cE t]at n;cases n;rw[bO]at *
   walk_at"w";unfold rv;walk_at"w";refine v3 (by lia) ?_;refine v3 (by rw[f];exact kM l s) ?_;refine v3 (by lia) ?_;refine v3 (by rw[f];exact kM l s) ?_;walk_at"w";rw[show((((cl.getD (ws.getD i 0) 0:Nat):Int) == ((cl.getD (ws.getD (i+1+k) 0) 0:Nat):Int)))=tf (cw cl ws i=cw cl ws (i+1+k))from K6];by_cases y:cw cl ws i=cw cl ws (i+1+k)
   ·rw [mT y];walk_at"w";have e:Al cl ws (alD i (i+1+k) cl):=.yes i (i+1+k) (by lia) (by lia) y fun c a h1 h2 o=>by
     rcases o with o|⟨rfl,o⟩
     ·exact b c a h1 h2 o
     ·exact u a h1 o
    exact .inr ⟨_,O,.inr ⟨_,O,.inr ⟨_,O,e.und,q _ e⟩⟩⟩
   ·rw[zr y];walk_at"w";refine .inl ⟨_,λa h1 h2=>?_,O⟩;rcases(show a<i+1+k\/a=i+1+k by lia)with h|rfl
    ·exact u a h1 h
    ·exact y
  ·rintro r V ⟨g,u,rfl,rfl⟩;rw[lM1,cM,bO]at u;refine .inl ⟨O,_,_,by lia,λc a h1 h2 o=>?_,O,O⟩;rcases(show c<i\/c=i by lia)with h|rfl
   ·exact b c a h1 h2 h
   ·exact u a h1 (by lia)
 ·rintro r V ⟨z,g,hi,b,rfl,rfl⟩;rw[eH,bO]at b;refine .inl ⟨O,?_⟩
  try walk_at"w"
  have e:Al cl ws .non:=.no λi j h1 h2=>b i j h1 h2 (by lia);exact⟨O,q _ e⟩
def KW(cl:List Nat):D:=.tup [.str "colours",.tup (nmD cl)]
theorem KU{a:List Nat}:(KW a).und 0=M:=by unfold KW;rw[D.und,D.unds,D.unds,D.und,D.und,fH];rfl
inductive Nv (m:Nat)(w:dV)(ws cs:List Nat)(b:Bool):D->Prop
 |co (h:¬ (gG m w (sgL m ws cs true)).Nodup):Nv m w ws cs b (KW (gG m w (sgL m ws cs true)))
 |al (d:D) (h:(gG m w (sgL m ws cs true)).Nodup) (hb:b=true) (hd:Al (gG m w (sgL m ws cs false)) ws d):Nv m w ws cs b d
 |no (h:(gG m w (sgL m ws cs true)).Nodup) (hb:b=false):Nv m w ws cs b .non
theorem F1{w:dV}{b:Bool}(hw:WebJ m w)(c:0<m)(hm:m<=8)(g:∀x∈ws,x<m)(i:ws.length<=20)(q:∀d,Nv m w ws cs b d->Q (d,S)):W (dU 3 kH [webD w,oN ws cs,.bl b] S) Q:=by
 refine fM O (by rw[D.unds,eL,D.unds,mU];rfl) ?_;unfold kH;refine jl ?_;unfold y2;refine ei (λr V=>V=[]/\r=[Z (webD w),Z (oN ws cs),Z (.bl b),Z (.tup (nmD (gG m w (sgL m ws cs M))))]) ?_ ?_
 ·walk_at"w";refine D6 hw hm ?_;walk_at"w";refine nO hw c hm oj ?_
  first|exact⟨rfl,rfl⟩|exact⟨rfl,trivial⟩|rfl
 rintro r V ⟨rfl,rfl⟩;have k:(gG m w (sgL m ws cs M)).length=m:=mE;refine KF (λt=>t=(!tf (gG m w (sgL m ws cs M)).Nodup,[])) ?_ (λV e=>?_) λV e=>?_
 ·walk_at"w";refine Bb (by lia) ?_;walk_at"w"
 ·injection e with a h;subst h;have f:¬ (gG m w (sgL m ws cs M)).Nodup:=λz=>by rw[mT z]at a;cases a
  walk_at"w";exact⟨KU,q _ (.co f)⟩
 ·injection e with a h;subst h;have f:(gG m w (sgL m ws cs M)).Nodup:=Sh λz=>by rw[zr z]at a;cases a
  cases b with
  |true=>
   walk_at"w";refine Hn (cs:=cs) hw c hm g i λd j=>?_;exact⟨j.und,q d (.al d f O j)⟩
  |false=>
   walk_at"w";exact⟨O,q _ (.no f O)⟩
theorem DL(xs:List Int)(x:Int):ddI (xs++[x])=Sl (ddI xs) x:=by unfold ddI;rw[cv];rfl
theorem yU{y:Int}:∀(xs acc:List Int),y∈xs.foldl Sl acc↔y∈acc\/y∈xs
 |[],acc=>by simp
 |x::xs,acc=>by
  rw[b8,yU xs];unfold Sl;split
  ·rename_i h;obtain⟨z,a,e⟩:=bT.mp h;have e:=SV.mp e;subst e;rw[aF];exact⟨λh=>h.elim .inl λh=>.inr (.inr h),λh=>h.elim .inl λh=>h.elim (λe=>.inl (e ▸ a)) .inr⟩
  ·rw[aG,cH,aF,or_assoc]
theorem yT{y:TK}:∀(xs acc:List TK),y∈xs.foldl kW acc↔y∈acc\/y∈xs
 |[],acc=>by simp
 |x::xs,acc=>by
  rw[b8,yT xs];unfold kW;split
  ·rename_i h;rw[aF];exact⟨λh=>h.elim .inl λh=>.inr (.inr h),λq=>q.elim .inl λq=>q.elim (λe=>.inl (e ▸ h)) .inr⟩
  ·rw[aG,cH,aF,or_assoc]
theorem G5(xs:List Int)(x:Int):(ddI (xs++[x])).length=(ddI xs).length+if x∈xs then 0 else 1:=by
 rw[DL];unfold Sl;have a:x∈ddI xs↔x∈xs:=by unfold ddI;rw[yU];simp
 by_cases h:x∈xs
 ·rw[ak h,ak (bT.mpr ⟨x,a.mpr h,by simp⟩)];rfl
 ·rw[aj h,aj λz=>?_,lA1];rfl;obtain⟨y,b,e⟩:=bT.mp z;have e:=SV.mp e;subst e;exact h (a.mp b)
theorem G0(xs:List TK)(x:TK):(ddK (xs++[x])).length=(ddK xs).length+if x∈xs then 0 else 1:=by
 have e:ddK (xs++[x])=kW (ddK xs) x:=by unfold ddK;rw[cv];rfl
 rw[e];unfold kW;have a:x∈ddK xs↔x∈xs:=by unfold ddK;rw[yT];simp
 by_cases h:x∈xs
 ·rw[ak h,ak (a.mpr h)];rfl
 ·rw[aj h,aj λz=>h (a.mp z),lA1];rfl
theorem m4{α:Type}{f:Nat->α}{x:α}:x∈(af i).map f ↔ ∃j,j<i/\f j=x:=by
 rw[cc];exact⟨λ⟨j,h,e⟩=>⟨j,aC.mp h,e⟩,λ⟨j,h,e⟩=>⟨j,aC.mpr h,e⟩⟩
theorem zf{f:Nat->TK}{g:Nat->Int}(h:∀ i j,f i=f j->g i=g j):∀ m:Nat,(ddI ((List.range m).map g)).length<=(ddK ((List.range m).map f)).length /\
  ((ddK ((af m).map f)).length=(ddI ((af m).map g)).length ↔ ∀i,i<m->(∃j,j<i/\g j=g i) -> ∃j,j<i/\f j=f i)
 |0=>⟨nR1 _,λ_ i hi=>absurd hi (bw _),λ_=>rfl⟩
 |m + 1=>by
  obtain⟨h1,h2⟩:=zf h m;rw[dn,cr,cr,List.map_singleton,List.map_singleton,G5,G0];by_cases b:f m∈(af m).map f
  ·have a:g m∈(List.range m).map g:=by
    obtain⟨j,d,e⟩:=m4.mp b;exact m4.mpr ⟨j,d,h _ _ e⟩
   rw[ak b,ak a];refine⟨h1,h2.trans ⟨λq i hi c=>?_,λq i hi=>q i (by lia)⟩⟩;rcases bW i m with z|z
   ·exact q i z c
   ·have:i=m:=by lia
    subst this;exact m4.mp b
  ·rw[aj b];by_cases a:g m∈(af m).map g
   ·rw[ak a];refine⟨by lia,λq=>absurd q (by lia),λq=>?_⟩;exact absurd (m4.mpr (q m (bC m) (m4.mp a))) b
   ·rw[aj a];refine⟨by lia,⟨λq i hi c=>?_,λq=>?_⟩⟩
    ·rcases bW i m with z|z
     ·exact h2.mp (by lia) i z c
     ·have:i=m:=by lia
      subst this;exact absurd (m4.mpr c) a
    ·rw[h2.mpr λi hi=>q i (by lia)]
theorem w1{α β:Type}{f:Nat->α}{g:Nat->β}(h:∀i j,f i=f j->g i=g j):(∀i,i<m->(∃j,j<i/\g j=g i) -> ∃j,j<i/\f j=f i) ↔ ∀i j,i<m->j<m->g i=g j->f i=f j:=by
 constructor
 ·intro q;have c:∀ n i,i<n->i<m -> ∀ j,j<i->g j=g i->f j=f i:=by
   intro n
   induction n with
   |zero=>intro i hi;exact absurd hi (bw _)
   |succ n ih=>
    intro i hi d j a e;obtain⟨k,l,b⟩:=q i d ⟨j,a,e⟩;rcases cj k j with z|z|z
    ·exact(ih j (by lia) (by lia) k z ((h _ _ b).trans e.symm)).symm.trans b
    ·rw[<- z];exact b
    ·exact(ih k (by lia) (by lia) j z (e.trans (h _ _ b).symm)).trans b
  intro i j hi a e;rcases cj i j with z|z|z
  ·exact c (j+1) j (by lia) a i z e
  ·rw[z]
  ·exact(c (i+1) i (by lia) hi j z e.symm).symm
 ·rintro q i hi ⟨j,a,e⟩;exact⟨j,a,q j i (by lia) hi e⟩
abbrev Ln:=Int×Int×List (Int×Nat)
noncomputable def zD(e:Int×Nat):D:=.tup [.int e.1,.int (e.2:Nat)]
noncomputable def zT(e:Int×Nat):TK:=.tup [.int e.1,.int (e.2:Nat)]
def Ey(ts:List Int)(e:Nat×Nat):Int×Nat:=(i8 ts e.1,e.2)
def rE(w:dV)(sg ts:List Int)(r:Nat):Ln:=(i8 ts r,i8 sg r,(gX w r).map (Ey ts))
def mm(x:Ln):D:=.tup [.int x.1,.int x.2.1,.tup (x.2.2.map zD)]
def n0(x:Ln):TK:=.tup [.int x.1,.int x.2.1,.tup (x.2.2.map zT)]
theorem Gp(x:Ln):(mm x).und 0=M:=by
 unfold mm;rw[D.und,D.unds,D.unds,D.unds,D.und,Mi.eN (λ_ _=>rfl)];rfl
theorem HK:∀l:List (Int×Nat),Af (l.map zD)=Z (l.map zT)
 |[]=>rfl
 |e::l=>by rw[mP1,Af,HK l];rfl
theorem HU:∀l:List (Int×Nat),TK.depAll (l.map zT)<=2
 |[]=>by decide
 |e::l=>by
  have:=HU l;rw[mP1,TK.depAll];have:(zT e).dep=1:=rfl;lia
theorem Mv(x:Ln):keyT (mm x)=Z (n0 x):=by
 have e:Af [.int x.1,.int x.2.1,.tup (x.2.2.map zD)]=Z [.int x.1,.int x.2.1,.tup (x.2.2.map zT)]:=by
  simp only[Af,kD,HK,oP1,oS1]
 unfold mm;rw[keyT,e,oS1,ak]
 ·rfl
 ·have:=HU x.2.2;simp[TK.dep,TK.depAll];lia
theorem A0:∀{a b:List (Int×Nat)},a.map zT=b.map zT->a=b
 |[],[],_=>rfl
 |[],_::_,h=>by cases h
 |_::_,[],h=>by cases h
 |x::a,y::b,h=>by
  rw[mP1,mP1]at h;injection h with h1 h2;unfold zT at h1;injection h1 with h1;injection h1 with c h1;injection h1 with d h1;injection c with c;injection d with d;rw[A0 h2,show x=y from Prod.ext c (by lia)]
theorem vd{x y:Ln}(h:n0 x=n0 y):x=y:=by
 unfold n0 at h;injection h with h;injection h with a h;injection h with b h;injection h with c h;injection a with a;injection b with b;injection c with c;exact Prod.ext a (Prod.ext b (A0 c))
def Fit(m:Nat)(w:dV)(sg ts:List Int):Prop:=∀i j,i<m->j<m->i8 ts i=i8 ts j->rE w sg ts i=rE w sg ts j
theorem GY(m:Nat)(w:dV)(sg ts:List Int):(ddK ((af m).map λr=>n0 (rE w sg ts r))).length=(ddI ((af m).map (i8 ts))).length↔Fit m w sg ts:=by
 have h:∀i j,n0 (rE w sg ts i)=n0 (rE w sg ts j)->i8 ts i=i8 ts j:=λi j e=>by
  have:=vd e;exact congrArg (·.1) this
 rw[(zf (f:=λr=>n0 (rE w sg ts r)) h m).2,w1 h];exact⟨λq i j hi a e=>vd (q i j hi a e),λq i j hi a e=>congrArg n0 (q i j hi a e)⟩
theorem yz(f:Nat->Ln):∀l:List Nat,rG (l.map λr=>mm (f r))=Z (l.map λr=>n0 (f r))
 |[]=>rfl
 |r::l=>by rw[mP1,rG,Mv,oS1,yz f l];rfl
theorem Fd{ts:List Int}(h:ts.length=m):(af m).map (i8 ts)=ts:=by
 subst h;apply b0;intro i;rw[gP1];by_cases hi:i<ts.length
 ·rw[cE hi,gG1 hi];unfold i8;rw[oP1,bJ,gG1 hi];rfl
 ·rw[b4 (by simpa using hi),b4 (by lia)];rfl
theorem C2{w:dV}{sg a:List Int}(hw:WebJ m w)(hm:m<=8)(hs:sg.length=m)(ht:a.length=m):W (gP [webD w,iN sg,iN a] []) λp=>∃k,p.1 = .ref k/\p.2[k]?=Z (.lst ((af m).map λr=>mm (rE w sg a r)))/\p.2.all (Ob.und 0)=M:=by
 unfold gP;refine jl ?_;unfold uh;refine ei (λr V=>V=[.lst []]/\r=[Z (webD w),Z (iN sg),Z (iN a),Z (.ref 0),Y,Y,Y]) ?_ ?_
 ·walk_at"w"
  try exact⟨O,trivial⟩
 rintro r V ⟨rfl,rfl⟩;refine ei (λr V=>∃G h g c,G.all (Ob.und 0)=M/\V = .lst ((af m).map λr=>mm (rE w sg a r))::G/\r=[Z (webD w),Z (iN sg),Z (iN a),Z (.ref 0),h,g,c]) ?_ ?_
 ·unfold fO;rw[dY];refine sy (xs:=w.map λrow=>.tup (row.map pD)) O ?_;refine eY (λi r V=>∃G h g c,i<=m/\G.all (Ob.und 0)=M/\V = .lst ((af i).map λr=>mm (rE w sg a r))::G/\r=[Z (webD w),Z (iN sg),Z (iN a),Z (.ref 0),h,g,c]) _ 0 _ _ ⟨[],_,_,_,by lia,O,O,O⟩ (λ_ _ _ _=>rfl) ?_ ?_
  ·rintro i A j r V ⟨G,h,g,c,hi,l,rfl,rfl⟩;rw[gR,gP1]at j;obtain⟨z,x,rfl⟩:=Ti j;obtain⟨row,b,rfl⟩:=Ti x;have o:i<m:=by rw[<- hw.len];exact(Tg b).1
   have v:=hw.le i row b;rw[bO]at *
   walk_at"w";unfold mZ;refine ei (λr V=>V = .lst ((af i).map λr=>mm (rE w sg a r))::(G++[.lst (row.map λe=>zD (Ey a e))])/\r=[Z (webD w),Z (iN sg),Z (iN a),Z (.ref 0),Z (.int (i:Nat)),Z (.tup (row.map pD)),Z (.tup (row.map λe=>zD (Ey a e)))]) ?_ ?_
   ·walk_at"w";rw[iD];refine jI (f:=pD) (λe=>zD (Ey a e)) (λq=>∃s t,q=[s,t,Z (iN a)]) O row _ ⟨_,_,O⟩ ?_ ?_
    ·rintro e u q ⟨s,t,rfl⟩;obtain⟨d,y⟩:=bq u;have:=hw.to i d e ⟨row,b,y⟩;rw[pD];walk_at"w";refine Ei ht this ?_;walk_at"w";exact⟨O,_,_,O⟩
    ·rintro q _;refine⟨d3 (by rw[lM1];lia),?_⟩;walk_at"w";refine eF (xs:=row.map λe=>zD (Ey a e)) (by rw[gC1,d2];rfl) ?_
     first|exact⟨rfl,rfl⟩|exact⟨rfl,trivial⟩|rfl
   rintro r V ⟨rfl,rfl⟩;unfold fR;rw[dY];refine jp ?_;walk_at"w";refine⟨0,(af i).map λr=>mm (rE w sg a r),O,O,?_⟩;refine Ei ht o ?_;walk_at"w";refine Ei hs o ?_;walk_at"w";refine(lx (n:=0) (xs:=(af i).map λr=>mm (rE w sg a r)) O).mpr ⟨d3 (by rw[lM1,cM];lia),?_⟩;refine⟨G++[.lst (row.map λe=>zD (Ey a e))],_,_,_,by lia,?_,?_,O⟩
   ·rw[cW,l,bQ,Ob.und,Mi.eN (λ_ _=>rfl)];rfl
   ·have e:mm (rE w sg a i)=D.tup [D.int (i8 a i),D.int (i8 sg i),D.tup (row.map fun e=>zD (Ey a e))]:=by
     unfold rE;rw[kB b,mm,bu];rfl
    rw[dn,cr,mP1,e];rfl
  ·rintro r V ⟨G,h,g,c,hi,l,rfl,rfl⟩;rw[hC,lM1,bO,hw.len];exact⟨O,G,_,_,_,l,O,O⟩
 rintro r V ⟨G,h,g,c,l,rfl,rfl⟩;walk_at"w";refine⟨0,O,O,?_⟩;rw[bQ,l,Ob.und,Mi.eN (λ_ _=>Gp _)];rfl
theorem Kz{T:Ty}{x:Str}:vj S T (.str x)=Z (decide (T = .str)):=rfl
theorem xK{xs:List D}(a:D.unds 0 xs=M)(h:xs.length=m)(q:Q (.bl M,S)):W (dU 2 eT [.tup xs,.int m] S) Q:=by
 refine fM O (by rw[D.unds,D.und,a];rfl) ?_;unfold eT;refine jl ?_;unfold iZ
 wp_walk using uk,C6,iu
 rw[h];simp;exact⟨O,q⟩
theorem F0{xs:List D}(a:D.unds 0 xs=M)(h:xs.length≠m)(q:Q (.bl J,S)):W (dU 2 eT [.tup xs,.int m] S) Q:=by
 refine fM O (by rw[D.unds,D.und,a];rfl) ?_;unfold eT;refine jl ?_;unfold iZ
 wp_walk using uk,C6,iu
 have e:((xs.length:Int) == (m:Int))=J:=by simp;lia
 rw[e];exact⟨O,q⟩
theorem xD{i:Int}(q:Q (.bl M,S)):W (dU 1 gC [.int i] S) Q:=by
 refine fM O O ?_;unfold gC;refine jl ?_;unfold p7
 wp_walk using uk,KA
 simp only[reduceCtorEq,SA,Sz];walk_at"w";exact⟨O,q⟩
theorem Le{xs:List D}(h:S[n]?=Z (.lst (xs.map λ_=>D.bl M)))(q:Q (.bl M,S)):W (qy (.ref n) S) Q:=by
 refine W.of ?_ q;unfold qy;rw[fP h,oS1];dsimp only;rw[qf (f:=λ_=>M)];simp
theorem yD:∀ns:List Int,jy (ns.map D.int)=Z ns
 |[]=>rfl
 |n::ns=>by
  have:=yD ns;rw[mP1];simp only[jy,this];rfl
theorem uC{ns:List Int}(a:ns.length<=100):iU (iN ns) S=Z (.ref S.length,S++[.iset (ddI ns)]):=by
 unfold iU;rw[iQ];dsimp only;rw[yD,oS1,ak (by unfold Sn;lia)]
theorem Oe{w:dV}{sg a:List Int}(hm:m<=8)(h:S[n]?=Z (.lst ((af m).map λr=>mm (rE w sg a r)))):j6 (.ref n) S=Z (.int ((ddK ((af m).map λr=>n0 (rE w sg a r))).length:Nat),S):=by
 unfold j6;rw[fP h];dsimp only;rw[yz,oS1,ak (by rw[lM1,cM];lia)]
theorem yC{w:dV}{sg a:List Int}(hw:WebJ m w)(hm:m<=8)(hs:sg.length=m)(ht:a.length=m)(q:Q (.bl (tf (Fit m w sg a)),S)):W (dU 3 fj [webD w,iN sg,iN a] S) Q:=by
 refine fM O (by rw[D.unds,D.unds,D.unds,eL,gK,gK];rfl) ?_;unfold fj;refine jl ?_;unfold kb;refine ei (λr V=>∃G,V=G/\r=[Z (webD w),Z (iN sg),Z (iN a)]) ?_ ?_
 ·have o:eM (webD w) []=Z (.int (m:Nat),[]):=by rw[webD,iu,lM1,hw.len]
  wp_walk using o
  refine xK (eN λ_ _=>rfl) (by rw[lM1];exact ht) ?_;walk_at"w";rw[iD];refine jI (f:=D.int) (λ_=>D.bl M) (λr=>∃x,r=[x]) O a _ ⟨_,O⟩ ?_ ?_
  ·rintro i hi r ⟨x,rfl⟩;walk_at"w";refine xD ?_;exact⟨O,O,_,O⟩
  ·rintro p _;refine⟨d3 (by rw[lM1];lia),?_⟩;refine Le (xs:=a.map D.int) (by rw[bu];rfl) ?_;walk_at"w";exact⟨_,O,trivial⟩
 rintro r V ⟨G,rfl,rfl⟩;have c:=C2 hw hm hs ht;walk_at"w";refine HX O (by rw[D.unds,D.unds,D.unds,eL,gK,gK];rfl) ?_;refine c.mono ?_;rintro⟨d,V⟩ ⟨k,h1,h2,n⟩;refine⟨k,_,h1,h2,n,λG j l s e=>?_⟩;have b:=Oe hm l
 wp_walk using b
 rw[uC (by lia),d7];dsimp only;refine xn (by rw[d2];rfl) ?_;walk_at"w";refine⟨O,?_⟩;have g:((((ddK ((af m).map λr=>n0 (rE w sg a r))).length:Nat):Int) == (((ddI a).length:Nat):Int))=tf (Fit m w sg a):=zu (by
  rw[SV,<- GY,Fd ht];exact⟨λh=>by exact_mod_cast h,λh=>by rw[h]⟩)
 rw[g];exact q
theorem sQ{w:dV}{d:Nat}{e:Nat×Nat}(h:(gX w r)[d]?=Z e):At w r d e:=by
 unfold gX at h;cases hr:w[r]? with
 |none=>rw[hr]at h;simp at h
 |some row=>rw[hr]at h;exact⟨row,hr,h⟩
theorem HN{sg:List Int}(a:sg.length=m)(hr:r<m):dW (iN sg) (.int r) S=Z (.int (i8 sg r),S):=by
 obtain⟨p,e,rfl⟩:=Ei (Q:=λp=>p=(.int (i8 sg r),S)) a hr O;exact e
theorem HM{xs:List D}{x:D}(hx:xs[i]?=Z x):dW (.tup xs) (.int i) S=Z (x,S):=by
 obtain⟨p,e,rfl⟩:=ip (Q:=λp=>p=(x,S)) hx O;exact e
theorem sP{w:dV}(hw:WebJ m w){d:Nat}{e:Nat×Nat}(he:(gX w r)[d]?=Z e):e.1<m:=hw.to r d e (sQ he)
def El(w:dV)(ts:List Int)(i b:Nat):Prop:=∀p∈(gX w i).zip (gX w b),i8 ts p.1.1=i8 ts p.2.1/\p.1.2=p.2.2
theorem tK{w:dV}{sg d:List Int}:rE w sg d i=rE w sg d b↔i8 d i=i8 d b/\i8 sg i=i8 sg b/\(gX w i).length=(gX w b).length/\El w d i b:=by
 have e:∀a c:List (Nat×Nat),a.map (Ey d)=c.map (Ey d)↔a.length=c.length /\ ∀p∈a.zip c,i8 d p.1.1=i8 d p.2.1/\p.1.2=p.2.2:=λa=>by
  induction a with
  |nil=>intro c;cases c<;>simp
  |cons x a ih=>
   intro c;cases c with
   |nil=>simp
   |cons y c=>
    rw[mP1,mP1,List.cons.injEq,ih c,bV,lC1,lC1];unfold Ey;rw[Tf];constructor
    ·rintro⟨⟨h1,h2⟩,h,g⟩;refine⟨by lia,λp f=>?_⟩;rcases aF.mp f with z|z
     ·subst z;exact⟨h1,h2⟩
     ·exact g p z
    ·rintro⟨h1,h2⟩;exact⟨h2 (x,y) mS1,by lia,λp f=>h2 p (mC1 _ f)⟩
 unfold rE El;rw[Tf,Tf,e]
noncomputable def Lu(ts:List Int):D:=.tup [.str "colours",iN ts]
noncomputable def ED(i j:Nat)(ts:List Int):D:=.tup [.str "alike",.int (i:Nat),.int (j:Nat),iN ts]
theorem G8{a:List Int}:(Lu a).und 0=M:=by unfold Lu;rw[D.und,D.unds,D.unds,gK];rfl
theorem zg{a:List Int}:(ED i j a).und 0=M:=by unfold ED;rw[D.und,D.unds,D.unds,D.unds,D.unds,gK];rfl
def vC(m:Nat)(w:dV)(ws cs:List Nat)(ts:List Int):Bool:=tf (Fit m w (sgL m ws cs M) ts)&&decide ((ddI ts).length<m)
def vA(m:Nat)(w:dV)(ws cs:List Nat)(b:Bool)(i j:Nat)(ts:List Int):Bool:=b&&(tf (Fit m w (sgL m ws cs J) ts)&&(decide (i<j)&&i8 ts (ws.getD i 0) == i8 ts (ws.getD j 0)))
theorem Ly{a:List Int}(d:a.length<=100)(q:Q (.bl (!decide ((ddI a).length<a.length)),S)):W (dU 1 ff [iN a] S) Q:=by
 refine fM O (by rw[D.unds,gK];rfl) ?_;unfold ff;refine jl ?_;unfold jC;have c:=uC (ns:=a) (S:=[]) d
 wp_walk using c
 refine xn O ?_;walk_at"w";rw[lM1];refine⟨O,?_⟩;have b:=(pS a [] bp).1;have e:((((ddI a).length:Nat):Int) == ((a.length:Nat):Int)) = !decide ((ddI a).length<a.length):=by
  have:(ddI a).length<=a.length:=by simpa[ddI]using b
  rw[bS];simp;lia
 rw[e];exact q
theorem wT{x y:Str}{ds:List D}(b:D.unds 0 ds=M)(q:Q (.bl (decide (ds.length+1=n/\x=y)),S)):W (dU 3 gE [.tup (.str x::ds),.str y,.int n] S) Q:=by
 have a:D.unds 0 (.str x::ds)=M:=by rw[D.unds,b];rfl
 refine fM O (by rw[D.unds,D.und,a];rfl) ?_;unfold gE;refine jl ?_;unfold nP;have c:∀S,dW (.tup (.str x::ds)) (.int 0) S=Z (.str x,S):=λS=>HM (i:=0) O;walk_at"w";by_cases h:ds.length+1=n
 ·refine xK a (by rw[lC1];exact h) ?_
  wp_walk using uk,c,Kz
  have e:decide (ds.length+1=n/\x=y)=(x == y):=by rw[bS];simp[h]
  rw[e]at q;exact⟨O,q⟩
 ·refine F0 a (by rw[lC1];exact h) ?_;walk_at"w";have e:decide (ds.length+1=n/\x=y)=J:=by simp[h]
  rw[e]at q;exact⟨O,q⟩
theorem BF{w:dV}{b:Bool}{a:List Int}(hw:WebJ m w)(hm:m<=8)(ht:a.length=m)(q:Q (.bl (vC m w ws cs a),S)):W (dU 4 ed [webD w,oN ws cs,.bl b,Lu a] S) Q:=by
 refine fM O (by rw[D.unds,D.unds,D.unds,D.unds,eL,mU,G8];rfl) ?_;unfold ed;refine jl ?_;unfold iY;have c:∀S,dW (Lu a) (.int 1) S=Z (iN a,S):=λS=>HM (i:=1) O;walk_at"w";refine wT (x:="colours") (y:="colours") (n:=2) (ds:=[iN a]) (by rw[D.unds,gK];rfl) ?_;walk_at"w";refine D6 hw hm ?_
 wp_walk using c
 refine yC hw hm oj ht ?_;unfold vC at q;cases hf:tf (Fit m w (sgL m ws cs M) a)with
 |false=>
  rw[hf]at q;walk_at"w";exact⟨O,q⟩
 |true=>
  rw[hf]at q
  wp_walk using c
  refine Ly (by lia) ?_;walk_at"w";rw[ht];refine⟨O,?_⟩;simpa using q
theorem oB(q:Q (.bl (decide (i<n)),S)):W (dU 2 g6 [.int i,.int n] S) Q:=by
 refine fM O O ?_;unfold g6;refine jl ?_;unfold p8;walk_at"w";refine xD ?_;walk_at"w";unfold Mr;walk_at"w";rw[ah (show(0:Int)<=(i:Int) by lia)];walk_at"w";refine⟨O,?_⟩;have:decide ((i:Int)<(n:Int))=decide (i<n):=by rw[bS];simp
 rw[this];exact q
theorem zi(hi:i<rs.length):dW (.tup (nmD rs)) (.int i) S=Z (.int (rs.getD i 0:Nat),S):=by
 obtain⟨p,e,rfl⟩:=v3 (rs:=rs) (Q:=λp=>p=(.int (rs.getD i 0:Nat),S)) hi O;exact e
theorem BQ{w:dV}{a:List Int}(hw:WebJ m w)(d:0<m)(hm:m<=8)(ht:a.length=m)(c:∀x∈ws,x<m)(hi:i<ws.length)(e:j<ws.length)(q:Q (.bl (vA m w ws cs M i j a),S)):W (dU 3 gp [webD w,oN ws cs,ED i j a] S) Q:=by
 refine fM O (by rw[D.unds,D.unds,D.unds,eL,mU,zg];rfl) ?_;unfold gp;refine jl ?_;unfold lp;refine ei (λr V=>V=[]/\r=[Z (webD w),Z (oN ws cs),Z (ED i j a),Z (.tup (nmD ws)),Z (.tup (nmD cs)),Y,Y,Y,Y]) ?_ ?_
 ·unfold oN;walk_at"w"
 rintro r V ⟨rfl,rfl⟩;refine ei (λr V=>V=[]/\r=[Z (webD w),Z (oN ws cs),Z (ED i j a),Z (.tup (nmD ws)),Z (.tup (nmD cs)),Z (.str "alike"),Z (.int (i:Nat)),Z (.int (j:Nat)),Z (iN a)]) ?_ ?_
 ·unfold ED;walk_at"w"
 rintro r V ⟨rfl,rfl⟩;have f:∀S,eM (.tup (nmD ws)) S=Z (.int (ws.length:Nat),S):=λS=>by rw[iu,eG]
 unfold vA at q;by_cases b:i<j
 ·refine ei (λr V=>V=[]/\r=[Z (webD w),Z (oN ws cs),Z (ED i j a),Z (.tup (nmD ws)),Z (.tup (nmD cs)),Z (.str "alike"),Z (.int (i:Nat)),Z (.int (j:Nat)),Z (iN a)]) ?_ ?_
  ·walk_at"w";rw[eG];refine oB ?_;rw[ah e];walk_at"w";refine oB ?_;rw[ah b];walk_at"w"
  rintro r V ⟨rfl,rfl⟩;walk_at"w";refine uc (ws:=ws) hw hm ?_;refine yC hw hm oj ht ?_;cases hf:tf (Fit m w (sgL m ws cs J) a)with
  |false=>
   rw[hf]at q;walk_at"w";exact⟨O,q⟩
  |true=>
   rw[hf,ah b]at q;have a1:=zi (S:=([]:Sto)) hi;have a2:=zi (S:=([]:Sto)) e;have b1:=HN (S:=([]:Sto)) ht (kM (i:=i) d c);have b2:=HN (S:=([]:Sto)) ht (kM (i:=j) d c)
   wp_walk using a1,a2,b1,b2
   exact⟨O,q⟩
 ·unfold dZ;rw[dY];walk_at"w";rw[eG];refine oB ?_;rw[ah e];walk_at"w";refine oB ?_;rw[ai b]at q ⊢;walk_at"w";refine⟨O,?_⟩;simpa using q
theorem BG{w:dV}{b:Bool}{a:List Int}(hw:WebJ m w)(e:0<m)(hm:m<=8)(ht:a.length=m)(d:∀x∈ws,x<m)(hi:i<ws.length)(f:j<ws.length)(q:Q (.bl (vA m w ws cs b i j a),S)):W (dU 4 ed [webD w,oN ws cs,.bl b,ED i j a] S) Q:=by
 refine fM O (by rw[D.unds,D.unds,D.unds,D.unds,eL,mU,zg];rfl) ?_;have c:D.unds 0 [.int (i:Nat),.int (j:Nat),iN a]=M:=by rw[D.unds,D.unds,D.unds,gK];rfl
 unfold ed;refine jl ?_;unfold iY;walk_at"w";refine wT (x:="alike") (y:="colours") (n:=2) (ds:=[.int (i:Nat),.int (j:Nat),iN a]) c ?_;walk_at"w";cases b with
 |false=>
  walk_at"w";exact⟨O,q⟩
 |true=>
  walk_at"w";refine wT (x:="alike") (y:="alike") (n:=4) (ds:=[.int (i:Nat),.int (j:Nat),iN a]) c ?_;walk_at"w";refine BQ hw e hm ht d hi f ?_;exact⟨O,q⟩
structure Ee (m:Nat)(w:dV):Prop where
 len:w.length=m
 le:∀row∈w,row.length<=4
 to:∀row∈w,∀e∈row,∃r,w[e.1]?=some r/\e.2<r.length
theorem B9{items:List D}{k:Int}{g:Option D}{Q:List D×Ev×Sto->Prop}(ho:fG o n)(hn:n+items.length<=2^50)(hk:0<k)(f:k<1073741824)(h:∀xs o' m,fG o' (n+items.length)->xs.Sublist items->Q (xs,[m,some (.ref 0)],o'::T)):
  W (fS [] (gN 0) (mB (m2 (b2 gEq) (mN (dU 2 dX) (dR (mV 1) (dR (mC (D.int k)) dS))) (mC (D.int (0))))) (eB (mV 0)) items [g,Z (.ref 0)] (o::T)) Q:=by
 refine iS (λi c r S=>∃o x,S=o::T/\r=[x,Z (.ref 0)]/\fG o (n+i)/\i<=items.length/\c.Sublist (items.take i)) items 0 [] _ _ ⟨o,g,O,O,by simpa using ho,by lia,by simp⟩ (λ_ _ _ _ _=>rfl) ?_ ?_
 ·rintro i d j c r S ⟨o,x,rfl,rfl,ho,hi,a⟩;have p:i<items.length:=(Tg j).1;have l:items.take (i+1)=items.take i++[d]:=by rw[cu,j];rfl
  walk_at"w";refine fN ho (by lia) hk f λe o' b q=>?_;walk_at"w";split
  ·exact⟨o',Z d,O,O,b.more (by lia),by lia,by rw[bO,l];simp at a;exact a.append (List.Sublist.refl _)⟩
  ·exact⟨o',Z d,O,O,b.more (by lia),by lia,by rw[bO,l];simp at a;exact a.trans (List.sublist_append_left _ _)⟩
 ·rintro xs r S ⟨o,x,rfl,rfl,ho,_,a⟩;refine h _ _ _ (by simpa using ho) (by simpa using a)
theorem HZ{w:dV}{row:List (Nat×Nat)}(h:w[i]?=Z row)(q:Q (.tup (row.map pD),S)):W (dW (webD w) (.int i) S) Q:=
 ip (x:=.tup (row.map pD)) (by rw[gP1,h];rfl) q
noncomputable def crowd(ws:List Wk)(rm:Nat):Nat:=(ws.filter λu=>u.1 == rm).length
def BP(a b c d:Bool)(ws:List Wk)(cs:List Nat)(u:Wk)(row:List (Nat×Nat)):D:=
 wx a b c d u.2.1 (if cs.contains u.1 then 1 else 0) row.length (if 1<crowd ws u.1 then 1 else 0)
theorem Aq{ws:List Wk}{c:Option D}{Q:List D×Ev×Sto->Prop}(h:∀ b,Q ((ws.filter fun u=>u.1 == a).map gJ,b,S)):
  W (fS [] (gN 0) (mB (m2 (b2 gEq) (m2 (b2 dW) (mV 0) (mC (D.int (0)))) (mV 1))) (eB (mV 0)) (fE ws) [c,Z (.int a)] S) Q:=by
 refine iV (λu:Wk=>u.1 == a) gJ (λr=>∃x,r=[x,Z (.int a)]) O ws _ ⟨_,O⟩ ?_ λb _=>h b;rintro u d r ⟨x,rfl⟩;walk_at"w";refine ip (i:=0) O ?_;walk_at"w";refine⟨?_,⟨_,O⟩,λ_=>trivial⟩;rw[bS,SV,SV];lia
theorem MU {w x y z:D}{r:Ev}{m1 m2 b a:FE}(h1:m1 r S=some (w,S))(h2:m2 r S=some (x,S))(d:b r S=some (y,S))(c:a r S=some (z,S))
  (q:Q (.ref S.length,S++[.dct [(.inr "came",w),(.inr "chalk",x),(.inr "doors",y),(.inr "others",z)]])):
  W (yp [(mC (.str "came"),m1),(mC (.str "chalk"),m2),(mC (.str "doors"),b),(mC (.str "others"),a)] r S) Q:=by
 refine W.of ?_ q;simp only[yp,Gj,mC,h1,h2,d,c,oS1,oP1,yA,n6];rfl
theorem GF {w x y z:D}(h:S[n]? = some (.dct [(.inr "came",w),(.inr "chalk",x),(.inr "doors",y),(.inr "others",z)])):
  dW (.ref n) (.str "came") S=Z (w,S)/\dW (.ref n) (.str "chalk") S=Z (x,S)/\dW (.ref n) (.str "doors") S=Z (y,S)/\dW (.ref n) (.str "others") S=Z (z,S):=by
 refine⟨?_,?_,?_,?_⟩<;>(simp only[dW,h,nj,n6,oS1];rfl)
noncomputable def w4:Nat->D
 |0=>.str "came" |1=>.str "chalk" |2=>.str "doors" |_=>.str "others"
noncomputable def HI:Nat->D
 |0=>.int 5|1=>.int 2|2=>.int 5|_=>.int 2
noncomputable def lc(a b c d:Bool)(w x y z:Int):Nat->D
 |0=>if a then .int w else .non
 |1=>if b then .int x else .non
 |2=>if c then .int y else .non
 |_=>if d then .int z else .non
theorem Ch {a b c d:Bool}{w x y z:Int}(h:S[n]? = some (.dct [(.inr "came",.int w),(.inr "chalk",.int x),(.inr "doors",.int y),(.inr "others",.int z)]))(hi:i∈[0,1,2,3]){r:Ev}{f g:Nat}
  (h1:r[f]?=Z (Z (w4 i))) (h2:r[g]?=Z (Z (.tup (gx a b c d)))) (e:r[j]?=Z (Z (.ref n))):
  u9 (mB (m2 (b2 j7) (mV f) (mV g))) (m2 (b2 dW) (mV j) (mV f)) (mC D.non) r S=Z (lc a b c d w x y z i,S):=by
 obtain⟨o,l,m,k⟩:=GF h;simp only[aF,bL,R9]at hi;rcases hi with rfl|rfl|rfl|rfl
 ·cases a<;>simp only[u9,mB,m2,b2,mV,h1,h2,e,w4,oS1,GL,o,lc,mC]<;>rfl
 ·cases b<;>simp only[u9,mB,m2,b2,mV,h1,h2,e,w4,oS1,Db,l,lc,mC]<;>rfl
 ·cases c<;>simp only[u9,mB,m2,b2,mV,h1,h2,e,w4,oS1,Da,m,lc,mC]<;>rfl
 ·cases d<;>simp only[u9,mB,m2,b2,mV,h1,h2,e,w4,oS1,Ak,k,lc,mC]<;>rfl
theorem Fa{w:dV}{ws:List Wk}{a b c d:Bool}{k:Nat}{u:Wk}{row:List (Nat×Nat)}(m:ws[k]? = Z u)(hr:w[u.1]? = Z row)(o:ws.length<=1000)(q:Q (BP a b c d ws cs u row,S)):W (dU 4 iL [webD w,.tup (gx a b c d),eO ws cs,.int k] S) Q:=by
 refine fM O (by simp[D.unds,eL,iy];rw[D.und];exact⟨vy a b c d,O⟩) ?_;unfold iL;refine jl ?_;unfold pZ;refine ei (λr S=>S=[]/\r=[Z (webD w),Z (.tup (gx a b c d)),Z (eO ws cs),Z (.int k),Z (.tup (fE ws)),Z (.tup (nmD cs)),Y,Y,Y,Y,Y]) ?_ ?_
 ·rw[eO];walk_at"w"
 rintro r S ⟨rfl,rfl⟩;refine ei (λr S=>S=[]/\r=[Z (webD w),Z (.tup (gx a b c d)),Z (eO ws cs),Z (.int k),Z (.tup (fE ws)),Z (.tup (nmD cs)),Z (.int u.1),Z (.int u.2.1),Z (.int u.2.2),Y,Y]) ?_ ?_
 ·walk_at"w";refine ip (i:=k) (x:=gJ u) (by rw[fE,gP1,m];rfl) ?_;rw[gJ];walk_at"w"
 rintro r S ⟨rfl,rfl⟩;refine ei (λr S=>S=[.lst ((ws.filter λv=>v.1 == u.1).map gJ)]/\r=[Z (webD w),Z (.tup (gx a b c d)),Z (eO ws cs),Z (.int k),Z (.tup (fE ws)),Z (.tup (nmD cs)),Z (.int u.1),Z (.int u.2.1),Z (.int u.2.2),Z (.ref 0),Y]) ?_ ?_
 ·walk_at"w";rw[iD];refine Aq λg=>?_;walk_at"w";have:=db (λv:Wk=>v.1 == u.1) ws;have h2:((ws.filter λv:Wk=>v.1 == u.1).map gJ).length<=100000:=by rw[lM1];lia
  exact⟨d3 h2,trivial⟩
 rintro r S ⟨rfl,rfl⟩;generalize h:[Ob.lst ((ws.filter λv=>v.1 == u.1).map gJ)]=S1;have f:S1[0]?=Z (Ob.lst ((ws.filter λv=>v.1 == u.1).map gJ)):=by rw[<- h];rfl
 refine ei (λr S=>S=S1++[.dct [(.inr "came",.int u.2.1),(.inr "chalk",.int (if cs.contains u.1 then 1 else 0)),(.inr "doors",.int row.length),(.inr "others",.int (if 1<crowd ws u.1 then 1 else 0))]]/\r=[Z (webD w),Z (.tup (gx a b c d)),Z (eO ws cs),Z (.int k),Z (.tup (fE ws)),Z (.tup (nmD cs)),Z (.int u.1),Z (.int u.2.1),Z (.int u.2.2),Z (.ref 0),Z (.ref S1.length)]) ?_ ?_
 ·unfold d4;rw[dY];have hc:(List.map gJ (ws.filter λv=>v.1 == u.1)).length=crowd ws u.1:=by rw[lM1];rfl
  refine MU (w:=.int u.2.1) (x:=.int (if cs.contains u.1 then 1 else 0)) (y:=.int row.length) (z:=.int (if 1<crowd ws u.1 then 1 else 0)) O ?_ ?_ ?_ ?_
  ·simp only[u9,mB,m2,b2,mV,gC1,c6,oS1,C9,mC];split<;>rfl
  ·have:W (dW (webD w) (.int u.1) S1) λp=>p=(.tup (row.map pD),S1):=HZ hr O;obtain⟨p,e,rfl⟩:=this;simp only[mN,dR,dS,m2,b1,b2,mV,gC1,c6,oS1,e,iu,lM1]
  ·simp only[u9,mB,mN,dR,dS,m2,b1,b2,mV,mC,gC1,c6,oS1,eM,fP f,oP1,jA,hc];by_cases h1:1<crowd ws u.1
   ·rw[ak h1,ak (by rw[am];lia)]
   ·rw[aj h1,aj (by rw[am];lia)]
  ·walk_at"w"
 rintro r S ⟨rfl,rfl⟩;generalize n:S1++[Ob.dct [(.inr "came",.int u.2.1),(.inr "chalk",.int (if cs.contains u.1 then 1 else 0)),(.inr "doors",.int row.length),(.inr "others",.int (if 1<crowd ws u.1 then 1 else 0))]]=S2;have l:S2[S1.length]?=Z (Ob.dct [(.inr "came",.int u.2.1),(.inr "chalk",.int (if cs.contains u.1 then 1 else 0)),(.inr "doors",.int row.length),(.inr "others",.int (if 1<crowd ws u.1 then 1 else 0))]):=by rw[<- n,d2];rfl
 walk_at"w";have j:kP = .tup ([0,1,2,3].map λi:Nat=>D.tup [w4 i,HI i]):=rfl;rw[j,iD];refine jI (lc a b c d u.2.1 (if cs.contains u.1 then 1 else 0) row.length (if 1<crowd ws u.1 then 1 else 0)) (λr=>∃x y,r=[x,y,Z (.tup (gx a b c d)),Z (.ref S1.length)]) O _ _ ⟨_,_,O⟩ ?_ ?_
 ·rintro i hi r ⟨x,y,rfl⟩;refine⟨([Z (w4 i),Z (HI i),Z (.tup (gx a b c d)),Z (.ref S1.length)],S2),O,?_⟩;refine⟨(M,S2),O,O,?_⟩;exact⟨_,Ch l hi O O O,O,O,_,_,O⟩
 ·rintro g _;walk_at"w";refine eF (xs:=[lc a b c d u.2.1 (if cs.contains u.1 then 1 else 0) row.length (if 1<crowd ws u.1 then 1 else 0) 0,lc a b c d u.2.1 (if cs.contains u.1 then 1 else 0) row.length (if 1<crowd ws u.1 then 1 else 0) 1,lc a b c d u.2.1 (if cs.contains u.1 then 1 else 0) row.length (if 1<crowd ws u.1 then 1 else 0) 2,lc a b c d u.2.1 (if cs.contains u.1 then 1 else 0) row.length (if 1<crowd ws u.1 then 1 else 0) 3]) (by rw[d2];rfl) ?_;exact⟨zC,q⟩
noncomputable def pt(b:Bool)(x:Nat):D:=if b=M then .int x else .non
def OS(a b c d:Bool)(x y z w:Nat):D:=.tup [pt a x,pt b y,pt c z,pt d w]
noncomputable def rP:List D:=[.str "leave",.str "mark",.str "wipe"]
noncomputable def rd:List D:=[.non,.int 0,.int 1,.int 2,.int 3]
structure mR (x:D):Prop where
 is:∃m h t,x = .tup [.int (m:Nat),h,t]/\m<4000/\h∈rP/\t∈rd
theorem mR.und{x:D}(h:mR x):x.und 0=M:=by
 obtain⟨m,x,t,rfl,_,h1,h2⟩:=h.is;have a:x.und 0=M:=by simp[rP]at h1;rcases h1 with z|z|z<;>subst z<;>rfl
 have b:t.und 0=M:=by simp[rd]at h2;rcases h2 with z|z|z|z|z<;>subst z<;>rfl
 simp[D.und,D.unds,a,b]
noncomputable def cx(b:Bool)(x:Nat):Nat:=if b=M then x else 0
def r0:List Bool->List Nat->Nat
 |b::bs,x::xs=>cx b x*8^bs.length+r0 bs xs
 |_,_=>0
theorem ud:∀{bs:List Bool} {xs:List Nat},(∀x∈xs,x<=7)->r0 bs xs<8^bs.length
 |[],_,_=>by rw[r0];simp;simp
 |b::bs,[],_=>by
  rw[r0]
  ·exact Nat.pos_of_ne_zero (by simp)
  ·simp
 |b::bs,x::xs,h=>by
  have h1:=ud (bs:=bs) λy a=>h y (mC1 _ a);have h2:cx b x<=7:=by unfold cx;split;exact h x mS1;lia
  rw[r0,lC1,Nat.pow_succ];have c:cx b x*8^bs.length<=7*8^bs.length:=dk _ h2;lia
theorem PQ{xs ys:List D}:jm S (n+1) (.tup xs) (.tup ys)=w8 (jm S n) xs ys:=by
 rw[jm];simp[ee]
theorem MP{b:Bool}{x y:Nat}:jm S (n+1) (pt b x) (pt b y)=Z (decide (cx b x=cx b y)):=by
 cases b with
 |false=>rfl
 |true=>
  show Z ((x:Int) == (y:Int))=Z (decide (x=y))
  congr 1
  rw[bS,SV,am];lia
theorem O0{A B P u v:Nat}(a:u<P)(hv:v<P):(A*P+u=B*P+v↔A=B/\u=v)/\(A*P+u<B*P+v↔A<B\/(A=B/\u<v)):=by
 rcases cj A B with h|h|h
 ·have:=dk P (show A+1<=B from h);rw[Nat.succ_mul]at this;constructor<;>lia
 ·subst h;constructor<;>lia
 ·have:=dk P (show B+1<=A from h);rw[Nat.succ_mul]at this;constructor<;>lia
theorem Dy{S:Sto}{n:Nat}:∀ {bs:List Bool} {xs ys:List Nat},xs.length=bs.length->ys.length=bs.length->(∀ x∈xs,x<=7)->(∀ y∈ys,y<=7) ->
  w8 (jm S (n+1)) (List.zipWith pt bs xs) (List.zipWith pt bs ys)=Z (decide (r0 bs xs=r0 bs ys))
 |[],xs,ys,_,_,_,_=>by simp[w8,r0]
 |b::bs,[],ys,h,_,_,_=>by simp at h
 |b::bs,x::xs,[],_,h,_,_=>by simp at h
 |b::bs,x::xs,y::ys,h1,h2,hx,hy=>by
  have ih:=Dy (S:=S) (n:=n) (bs:=bs) (xs:=xs) (ys:=ys) (by simpa using h1) (by simpa using h2) (λz a=>hx z (mC1 _ a)) (λz a=>hy z (mC1 _ a));have b1:=ud (bs:=bs) (xs:=xs) λz a=>hx z (mC1 _ a);have b2:=ud (bs:=bs) (xs:=ys) λz a=>hy z (mC1 _ a);rw[List.zipWith_cons_cons,List.zipWith_cons_cons,w8,MP,ih,r0,r0];have c:=(O0 (A:=cx b x) (B:=cx b y) b1 b2).1;rw[oS1,oP1]
  congr 1
  rw[bS,bA1,am,am,am];exact c.symm
structure Ky where
 m:Nat
 x:Nat
 y:Nat
 z:Nat
 w:Nat
structure Ky.Ok (k:Ky):Prop where
 m:k.m<4000
 x:k.x<=4
 y:k.y<=4
 z:k.z<=4
 w:k.w<=4
abbrev E4:=Bool×Bool×Bool×Bool
noncomputable def E4.bs(e:E4):List Bool:=[e.1,e.2.1,e.2.2.1,e.2.2.2]
noncomputable def Ky.xs(k:Ky):List Nat:=[k.x,k.y,k.z,k.w]
noncomputable def Nw(b:Bool)(x:Nat):TK:=if b=M then .int x else .non
def Ky.sg(k:Ky)(e:E4):D:=OS e.1 e.2.1 e.2.2.1 e.2.2.2 k.x k.y k.z k.w
def Ky.d(k:Ky)(e:E4):D:=.tup [.int k.m,k.sg e]
def Ky.tk(k:Ky)(e:E4):TK:=.tup [.int k.m,.tup [Nw e.1 k.x,Nw e.2.1 k.y,Nw e.2.2.1 k.z,Nw e.2.2.2 k.w]]
def Ky.code(k:Ky)(e:E4):Nat:=k.m*4096+r0 e.bs k.xs
theorem Ky.keyT(k:Ky)(e:E4):Mi.keyT (k.d e)=Z (k.tk e):=by
 obtain⟨a,b,c,d⟩:=e;cases a<;>cases b<;>cases c<;>cases d<;>rfl
theorem Ky.tkD(k:Ky)(e:E4):Mi.tkD (k.tk e)=k.d e:=(mn (k.keyT e)).1
theorem Ky.sg_zip(k:Ky)(e:E4):k.sg e = .tup (List.zipWith pt e.bs k.xs):=rfl
theorem Ky.Ok.all{k:Ky}(h:k.Ok):∀x∈k.xs,x<=7:=by
 intro x a;have:=h.x;have:=h.y;have:=h.z;have:=h.w
 simp[Ky.xs]at a;lia
theorem ka{k:Ky}(h:k.Ok)(e:E4):r0 e.bs k.xs<4096:=ud (bs:=e.bs) h.all
theorem Ky.und(k:Ky)(e:E4)(n:Nat):(k.d e).und n=M:=by
 rw[<- k.tkD e];exact Bc _
theorem Ky.sgu(k:Ky)(e:E4)(n:Nat):(k.sg e).und n=M:=by
 have:=k.und e n;unfold Ky.d at this;simp only[D.und,D.unds,bM,Bool.true_and]at this;exact this
abbrev Rw:=Ky×D
def ge(e:E4)(p:Rw):D:=.tup [p.1.d e,p.2]
def qh(p:Rw):Prop:=p.1.Ok/\mR p.2
theorem M3(a b c d x y z w:_):r0 [a,b,c,d] [x,y,z,w]=((cx a x*8+cx b y)*8+cx c z)*8+cx d w:=by
 simp only[r0,lC1,bf];lia
def Inc(e:E4)(L:List Rw):Prop:=L.Pairwise λp q=>p.1.code e<q.1.code e
theorem vx{α:Type}{f:α->Nat}{c:Nat}{a:α}:∀{l:List α},(l.map f).Nodup->((l.find? λx=>decide (f x=c))=Z a↔a∈l/\f a=c)
 |[],_=>by simp
 |b::l,nd=>by
  rw[mP1,aO]at nd;rw[bc];by_cases z:f b=c
  ·rw[ah z];constructor
   ·intro h;cases h;exact⟨mS1,z⟩
   ·rintro⟨h1,h2⟩;rcases aF.mp h1 with y|y
    ·rw[y]
    ·exact absurd (cc.mpr ⟨a,y,h2.trans z.symm⟩) nd.1
  ·rw[ai z];show(l.find? λx=>decide (f x=c))=Z a↔_;rw[vx nd.2];constructor
   ·rintro⟨h1,h2⟩;exact⟨mC1 _ h1,h2⟩
   ·rintro⟨h1,h2⟩;rcases aF.mp h1 with y|y
    ·rw[y]at h2;exact absurd h2 z
    ·exact⟨y,h2⟩
theorem Inc.le(h:Inc e L)(ok:∀p∈L,qh p){p q:Rw}(hi:L[i]?=Z p)(a:L[j]?=Z q)(f:i<=j):p.1.m<=q.1.m/\(i<j->p.1.code e<q.1.code e):=by
 have g:=(ok p (gM1 hi)).1;have d:=(ok q (gM1 a)).1;by_cases z:i=j
 ·subst z;rw[hi]at a;cases a;exact⟨nR1 _,λz=>by lia⟩
 ·obtain⟨h1,b⟩:=Tg hi;obtain⟨h2,c⟩:=Tg a;have:=ci.mp h i j h1 h2 (by lia);rw[b,c]at this;refine⟨?_,λ_=>this⟩;have l:=ka g e;have k:=ka d e;unfold Ky.code at this;lia
theorem Oi{p:Rw}(h:L[i]?=Z p):dW (.tup (L.map (ge e))) (.int (i:Nat)) S=Z (ge e p,S):=by
 obtain⟨x,a,b⟩:=(ip (i:=i) (xs:=L.map (ge e)) (x:=ge e p) (S:=S) (Q:=λx=>x=(ge e p,S)) (by rw[gP1,h];rfl) O);rw[a,b]
theorem Oj{p:Rw}:dW (ge e p) (.int 0) S=Z (p.1.d e,S):=rfl
theorem PD{p:Rw}:dW (ge e p) (.int 1) S=Z (p.2,S):=rfl
theorem OY{k:Ky}:dW (k.d e) (.int 0) S=Z (.int k.m,S):=rfl
theorem PC{k:Ky}:dW (k.d e) (.int 1) S=Z (k.sg e,S):=rfl
theorem oW(ok:∀p∈L,qh p)(n:Nat):(D.tup (L.map (ge e))).und n=M:=by
 rw[D.und];refine Mi.eN λp a=>?_;have h1:=p.1.und e n;have h2:=iB (n:=n) (ok p a).2.und;simp[ge,D.und,D.unds,h1,h2]
theorem Kj:eM (.tup (L.map (ge e))) S=Z (.int L.length,S):=by simp[eM,ee]
theorem GZ{q:Nat}(g:Inc e L)(ok:∀ p∈L,qh p)(v:L.length<=4000)(h:∀a:Nat,a<=L.length->(∀i p,L[i]?=Z p->i<a->p.1.m<q)->(∀i p,L[i]?=Z p->a<=i->q<=p.1.m)->Q (.int a,S)):W (dU 2 iM [.tup (L.map (ge e)),.int (q:Nat)] S) Q:=by
 refine fM O (by rw[D.unds,oW ok,D.unds,D.und];rfl) ?_;unfold iM;refine jl ?_;unfold p9;generalize o:D.tup (L.map (ge e))=R;refine ei (λr S=>S=[]/\r=[Z R,Z (.int (q:Nat)),Z (.int ((0:Nat):Int)),Y,Y]) ?_ ?_
 ·walk_at"w";rfl
 rintro r l ⟨rfl,rfl⟩;refine ei (λr S=>S=[]/\r=[Z R,Z (.int (q:Nat)),Z (.int ((0:Nat):Int)),Z (.int (L.length:Nat)),Y]) ?_ ?_
 ·subst o
  wp_walk using Kj
  rw[lM1]
 rintro r l ⟨rfl,rfl⟩;refine ei (λr S=>∃(a:Nat) (c:Option D),S=[]/\a<=L.length/\(∀i p,L[i]?=Z p->i<a->p.1.m<q)/\(∀i p,L[i]?=Z p->a<=i->q<=p.1.m)/\r=[Z R,Z (.int (q:Nat)),Z (.int (a:Nat)),Z (.int (a:Nat)),c]) ?_ ?_
 ·refine uv (λk r S=>∃(a high:Nat) (c:Option D),S=[]/\a<=high/\high<=L.length/\high-a+k<=L.length/\(∀i p,L[i]?=Z p->i<a->p.1.m<q)/\(∀i p,L[i]?=Z p->high<=i->q<=p.1.m)/\r=[Z R,Z (.int (q:Nat)),Z (.int (a:Nat)),Z (.int (high:Nat)),c]) L.length ?_ 100000 0 _ _ (by lia) ⟨0,L.length,_,O,by lia,by lia,by lia,λi p _ z=>by lia,λi p f z=>?_,O⟩
  ·rintro k r S ⟨a,high,c,rfl,h1,h2,s,m,n,rfl⟩;unfold l9;walk_at"w";by_cases z:a<high
   ·rw[ak (by rw[am];lia)];refine⟨by lia,?_⟩;unfold l8;have d:(a+high)/2<L.length:=by lia
    obtain⟨p,f⟩:∃p,L[(a+high)/2]?=some p:=⟨_,gG1 d⟩;have j:oe (.int ((a:Int)+(high:Int))) (.int 2) []=Z (.int (((a+high)/2:Nat):Int),[]):=by
     simp only[oe];rw[ak ⟨by lia,by lia⟩]
     push_cast
     rfl
    subst o
    wp_walk using j,Oi f,Oj,OY
    by_cases t:p.1.m<q
    ·rw[ak (by rw[am];lia)];refine⟨(a+high)/2+1,high,_,by lia,h2,by lia,λi u b hi=>?_,n,by push_cast;rfl⟩;exact bH (g.le ok b f (by lia)).1 t
    ·rw[aj (by rw[am];lia)];refine⟨a,(a+high)/2,_,by lia,by lia,by lia,m,λi u b hi=>?_,O⟩;exact aD (by lia) (g.le ok f b hi).1
   ·rw[aj (by rw[am];lia)];have:a=high:=by lia
    subst this;exact⟨a,_,h2,m,n,O⟩
  ·have:=(Tg f).1;lia
 rintro r l ⟨a,c,rfl,h1,h2,s,rfl⟩;walk_at"w";exact⟨O,h a h1 h2 s⟩
theorem A6{c:FT}{b:FS}{Q:Fl×Ev×Sto->Prop}(I:Nat->Ev->Sto->Prop)(N:Nat)(step:∀k r S,I k r S->W (c r S) fun p=>if p.1=true then k<N/\W (b r p.2) fun q=>(q.1 = .nx/\I (k+1) q.2.1 q.2.2) \/ ∃d,q.1 = .rt d/\Q q else Q (.nx,r,p.2)):
  ∀(a k:Nat) (r:Ev) (S:Sto),N-k<a->I k r S->W (q9 c b a r S) Q
 |0,k,r,S,hf,_=>by lia
 |a+1,k,r,S,hf,hi=>by
  rw[q9];dsimp only;rw[dY];obtain⟨⟨t,u⟩,e,h⟩:=step k r S hi;refine⟨_,e,?_⟩;dsimp only at h ⊢;cases t with
  |true=>
   rw[ak O]at h ⊢;obtain⟨s,⟨f,n,o⟩,l,j⟩:=h;rw[l,oS1];rcases j with⟨g,i⟩|⟨d,g,m⟩
   ·dsimp only at g i;subst g;exact A6 I N step a (k+1) n o (by lia) i
   ·dsimp only at g;subst g;exact d7.mpr m
  |false=>
   rw[aj (by decide)]at h ⊢;exact d7.mpr h
theorem MN{k l:Ky}(hk:k.Ok)(a:l.Ok):gEq (k.sg e) (l.sg e) S=Z (.bl (decide (r0 e.bs k.xs=r0 e.bs l.xs)),S):=by
 show(jm S (58+1+1) (k.sg e) (l.sg e)).map _=_;rw[Ky.sg_zip,Ky.sg_zip,PQ,Dy O O hk.all a.all];rfl
theorem Inc.nd:∀{L:List Rw},Inc e L->(L.map λp=>p.1.code e).Nodup:=λh=>
 c5.mpr (List.Pairwise.imp (λz=>nN1 z) h)
noncomputable def DF(k:Ky):D:=.tup [.int k.m,.str "leave",.non]
def lH(e:E4)(L:List Rw)(k:Ky):D:=((L.find? λp=>decide (p.1.code e=k.code e)).map (·.2)).getD (DF k)
theorem DG{k:Ky}{E:D}(l:Inc e L)(ok:∀ p∈L,qh p)(I:L.length<=4000)(hk:k.Ok)(ao:E.und 0=M)(q:Q (lH e L k,S)):W (dU 3 g9 [.tup [E,.tup (L.map (ge e))],.int k.m,k.sg e] S) Q:=by
 refine fM O (by
  have y:=oW (e:=e) ok 0;have r2:=k.sgu e 0;rw[D.und]at y;simp[D.unds,D.und,ao,y,r2]) ?_
 unfold g9;refine jl ?_;unfold sv;generalize F:D.tup [E,.tup (L.map (ge e))]=aq;refine ei (λr S=>S=[]/\r=[Z aq,Z (.int k.m),Z (k.sg e),Z (.tup (L.map (ge e))),Y]) ?_ ?_
 ·subst F;have N:dW (.tup [E,.tup (L.map (ge e))]) (.int 1) []=Z (.tup (L.map (ge e)),[]):=rfl
  wp_walk using N
 rintro r G ⟨rfl,rfl⟩;refine ei (λr S=>∃a:Nat,S=[]/\a<=L.length/\(∀i p,L[i]?=Z p->i<a->p.1.m<k.m)/\(∀i p,L[i]?=Z p->a<=i->k.m<=p.1.m)/\r=[Z aq,Z (.int k.m),Z (k.sg e),Z (.tup (L.map (ge e))),Z (.int (a:Nat))]) ?_ ?_
 ·walk_at"w";refine GZ l ok I λa h1 h2 s=>?_;exact⟨a,O,h1,h2,s,O⟩
 rintro r G ⟨a,rfl,h1,h2,s,rfl⟩;have hnd:=l.nd;have g:(∀(i:Nat) (p:Rw),L[i]?=Z p->p.1.code e≠k.code e)->lH e L k=DF k:=λh=>by
  unfold lH;rw[List.find?_eq_none.mpr λp c=>?_]
  ·rfl
  ·obtain⟨i,hi⟩:=bq c;rw[am];exact h i p hi
 have cmp:∀p,p∈L->p.1.m≠k.m->p.1.code e≠k.code e:=λp c w z=>by
  have:=(O0 (A:=p.1.m) (B:=k.m) (ka (ok p c).1 e) (ka hk e)).1.mp z;exact w this.1
 unfold dZ;refine dY.mpr ?_;refine A6 (λj r S=>S=[]/\a+j<=L.length/\(∀i p,L[i]?=Z p->i<a+j->p.1.code e≠k.code e)/\r=[Z aq,Z (.int k.m),Z (k.sg e),Z (.tup (L.map (ge e))),Z (.int ((a+j:Nat):Int))]) L.length ?_ 100000 0 _ _ (by lia) ⟨O,by lia,λi p c hi=>cmp p (gM1 c) (by have:=h2 i p c (by lia);lia),O⟩;rintro j r S ⟨rfl,av,t,rfl⟩;unfold nH;by_cases u:a+j<L.length
 ·obtain⟨p,c⟩:∃p,L[a+j]?=some p:=⟨_,gG1 u⟩;have m:=gM1 c
  wp_walk using Kj,Oi c,Oj,OY,lM1
  rw[ak (by rw[am];lia)];by_cases C:p.1.m=k.m
  ·rw[ak (by rw[SV];lia)];refine⟨by lia,?_⟩;unfold nG
   wp_walk using Oi c,Oj,PC,PD,MN (ok p m).1 hk
   have d:p.1.code e=k.code e↔r0 e.bs p.1.xs=r0 e.bs k.xs:=by unfold Ky.code;rw[C];lia
   by_cases hc:r0 e.bs p.1.xs=r0 e.bs k.xs
   ·rw[ak (ah hc)];right;have K:(L.find? λp=>decide (p.1.code e=k.code e))=Z p:=(vx (f:=λp:Rw=>p.1.code e) hnd).mpr ⟨m,d.mpr hc⟩;have H:lH e L k=p.2:=by unfold lH;rw[K];rfl
    rw[H]at q;exact⟨_,O,(ok p m).2.und,q⟩
   ·rw[aj (by rw[am];exact hc)];refine W.of (x:=(.nx,[Z aq,Z (.int k.m),Z (k.sg e),Z (.tup (L.map (ge e))),Z (.int (((a+j:Nat):Int)+1))],[])) O ?_;left;refine⟨O,O,by lia,λi n b hi=>?_,by push_cast;rfl⟩;by_cases v:i=a+j
    ·subst v;rw[c]at b;cases b;exact λz=>hc (d.mp z)
    ·exact t i n b (by lia)
  ·rw [if_neg (by rw [SV];lia)];have o:lH e L k=DF k:=g fun i n b=>by
    by_cases hi:i<a+j
    ·exact t i n b hi
    ·have b1:=s (a+j) p c (by lia);have b2:=(l.le ok c b (by lia)).1;exact cmp n (gM1 b) (by lia)
   rw[o]at q;exact⟨O,q⟩
 ·wp_walk using Kj,lM1
  rw[aj (by rw[am];lia)];have o:lH e L k=DF k:=g λi n b=>by
   have:=(Tg b).1;exact t i n b (by lia)
  rw[o]at q;exact⟨O,q⟩
noncomputable def dm:D->Nat
 | .tup [.int m,_,_]=>m.toNat
 |_=>0
noncomputable def dh:D->Str
 | .tup [_,.str h,_]=>h
 |_=>""
noncomputable def dt:D->Option Nat
 | .tup [_,_,.int t]=>Z t.toNat
 |_=>Y
noncomputable def tD:Option Nat->D
 |none=>.non
 |some t=>.int (t:Nat)
theorem mR.eta{x:D}(h:mR x):x = .tup [.int (dm x:Nat),.str (dh x),tD (dt x)]/\dm x<4000:=by
 obtain⟨m,y,t,rfl,a,h1,h2⟩:=h.is;simp only[rP,aF,bL,R9]at h1;simp only[rd,aF,bL,R9]at h2;rcases h1 with e|e|e<;>subst e<;>rcases h2 with e|e|e|e|e<;>subst e<;>exact⟨O,a⟩
def fK(w:dV)(u:Wk)(x:D):Wk:=match dt x with
 |some t=>match (w[u.1]?).bind (·[t]?)with
  |some p=>(p.1,p.2+1,dm x)
  |none=>(u.1,u.2.1,dm x)
 |none=>(u.1,u.2.1,dm x)
theorem C7{t:Nat}:wW (.int (t:Nat)) .non S=Z (.bl J,S):=rfl
theorem KB:wW .non .non S=Z (.bl M,S):=rfl
theorem zx{w:dV}{u:Wk}{row:List (Nat×Nat)}{x:D}(hr:w[u.1]?=Z row)(hx:mR x)(q:Q (gJ (fK w u x),S)):W (dU 3 jg [webD w,gJ u,x] S) Q:=by
 refine fM O (by simp[D.unds,eL,hx.und];rfl) ?_;unfold jg;refine jl ?_;unfold sr;have ex:=hx.eta.1;unfold fK at q;simp only[hr,oS1]at q;generalize n:dm x=m at *
 generalize l:dh x=h at *
 generalize o:dt x=t at *
 refine ei (λr V=>V=[]/\r=[Z (webD w),Z (gJ u),Z x,Z (.int u.1),Z (.int u.2.1),Z (.int u.2.2),Y,Y,Y,Y,Y]) ?_ ?_
 ·generalize k:gJ u=U;have d:U = .tup [.int u.1,.int u.2.1,.int u.2.2]:=k.symm;subst d;walk_at"w"
 rintro r V ⟨rfl,rfl⟩;refine ei (λr V=>V=[]/\r=[Z (webD w),Z (gJ u),Z x,Z (.int u.1),Z (.int u.2.1),Z (.int u.2.2),Z (.int (m:Nat)),Z (.str h),Z (tD t),Y,Y]) ?_ ?_
 ·subst ex;walk_at"w"
 rintro r V ⟨rfl,rfl⟩;cases t with
 |none=>
  have b:tD Y = .non:=rfl;rw[b]
  wp_walk using KB
  exact⟨O,q⟩
 |some t=>
  have b:tD (Z t) = .int (t:Nat):=rfl;rw[b];have c:∀a,dW (webD w) (.int (u.1:Nat)) a=Z (.tup (row.map pD),a):=λa=>by
   obtain⟨p,e,h⟩:W (dW (webD w) (.int (u.1:Nat)) a) λp=>p=(.tup (row.map pD),a):=HZ hr O;rw[e,h]
  dsimp only at q;by_cases g:t<row.length
  ·have f:=gG1 g;rw[f]at q;refine ei (λr V=>V=[]/\r=[Z (webD w),Z (gJ u),Z x,Z (.int u.1),Z (.int u.2.1),Z (.int u.2.2),Z (.int (m:Nat)),Z (.str h),Z (.int (t:Nat)),Y,Y]) ?_ ?_
   ·wp_walk using C7,c,iu,lM1
    rw[aj (by rw[am];lia)];trivial
   rintro r V ⟨rfl,rfl⟩;have j:∀a,dW (.tup (row.map pD)) (.int (t:Nat)) a=Z (pD row[t],a):=λa=>by
    obtain⟨p,e,h⟩:W (dW (.tup (row.map pD)) (.int (t:Nat)) a) λp=>p=(pD row[t],a):=ip (by rw[gP1,f];rfl) O;rw[e,h]
   generalize row[t]=p at *
   refine ei (λr V=>V=[]/\r=[Z (webD w),Z (gJ u),Z x,Z (.int u.1),Z (.int u.2.1),Z (.int u.2.2),Z (.int (m:Nat)),Z (.str h),Z (.int (t:Nat)),Z (.int p.1),Z (.int p.2)]) ?_ ?_
   ·wp_walk using c,j,pD
   rintro r V ⟨rfl,rfl⟩;walk_at"w";have i:(1:Int)+(p.2:Int)=((p.2+1:Nat):Int):=by lia
   rw[i];exact⟨O,q⟩
  ·rw[b4 (by lia)]at q
   wp_walk using C7,c,iu,lM1
   rw[ak (by rw[am];lia)];exact⟨O,q⟩
theorem KE{x:Nat}(h:S[n]?=Z (.lst (nmD cs))):j7 (.int x) (.ref n) S=Z (.bl (cs.contains x),S):=by
 simp only[j7,wX,Ls,h,ee,oS1,eu,show(60:Nat)=59+1 from rfl,tT,oP1]
theorem zS{x:Nat}(h:S[n]?=Z (.lst (nmD cs))):gh (.int x) (.ref n) S=Z (.bl (!cs.contains x),S):=by
 simp only[gh,jz,nh,h,ee,oS1,eu,show(60:Nat)=59+1 from rfl,tT,oP1]
theorem GE{x:D}(h:mR x)(S:Sto):dW x (.int 1) S=Z (.str (dh x),S):=by
 have e:=h.eta.1;generalize dm x=a at e;generalize dt x=c at e;generalize dh x=b at *
 subst e;rfl
theorem tO{u:Wk}:dW (gJ u) (.int 0) S=Z (.int u.1,S):=rfl
theorem GC{u:Wk}:dW (gJ u) (.int 2) S=Z (.int u.2.2,S):=rfl
def qu(ws:List Wk)(dd:Wk->D)(h:Str)(r:Nat):Bool:=ws.any λu=>u.1 == r&&dh (dd u) == h
def io(m:Nat)(ws:List Wk)(dd:Wk->D)(cs:List Nat):List Nat:=(af m).filter λr=>qu ws dd "mark" r||(cs.contains r && !qu ws dd "wipe" r)
theorem JB(a b:List Nat):nmD a++nmD b=nmD (a++b):=by simp[nmD]
def qk(ws:List Wk)(dd:Wk->D)(h:Str):List Nat:=(ws.filter λu=>dh (dd u) == h).map (·.1)
theorem ze{ws:List Wk}{dd:Wk->D}{h:Str}:r∈qk ws dd h↔qu ws dd h r=M:=by
 unfold qk qu;rw[cc,bT];constructor
 ·rintro⟨u,a,rfl⟩;obtain⟨h1,h2⟩:=aB.mp a;exact⟨u,h1,by simp[h2]⟩
 ·rintro⟨u,a,e⟩;rw[bA1,SV]at e;exact⟨u,aB.mpr ⟨a,e.2⟩,e.1⟩
theorem Di{h:Str}{ws:List Wk}{dd:Wk->D}{m:FA}{r:Ev}(hd:∀ u∈ws,mR (dd u))(c:ws.length<=8)(a:S[n]? = Z (.lst (ws.map dd)))(hm:m r S=Z ([.tup (fE ws),.ref n],S))(hr:vn 2 [] r=[Y,Y])(q:Q (.ref S.length,S++[.lst (nmD (qk ws dd h))])):W (eK 2 [] (HQ m) (gT 2 (gCs (gN 0) (gCs (gN 1) gNl))) (mB (m2 (b2 gEq) (m2 (b2 dW) (mV 1) (mC (D.int (1)))) (mC (D.str h)))) (eB (m2 (b2 dW) (mV 0) (mC (D.int (0))))) r S) Q:=by
 rw[mO];refine Eg hm a ?_;dsimp only;rw[hr,fE,we];refine iV (λu:Wk=>dh (dd u) == h) (λu:Wk=>D.int u.1) (λr=>∃x y,r=[x,y]) (fQ a) ws _ ⟨_,_,O⟩ ?_ λd _=>?_
 ·rintro u b r ⟨x,y,rfl⟩
  wp_walk using GE (hd u b)
  refine⟨⟨_,_,O⟩,λ_=>?_⟩
  wp_walk using tO
 ·have e:(ws.filter λu:Wk=>dh (dd u) == h).map (λu:Wk=>D.int (u.1:Nat))=nmD (qk ws dd h):=by unfold nmD qk;rw[bu];rfl
  rw[e];have f:=db (λu:Wk=>dh (dd u) == h) ws;refine⟨d3 ?_,q⟩;dsimp only;rw[eG];unfold qk;rw[lM1];lia
theorem An{ws:List Wk}{dd:Wk->D}(hd:∀ u∈ws,mR (dd u))(t:ws.length<=8)(hc:cs.length<=8)(hw:∀ u∈ws,u.1<m)(l:∀ r∈cs,r<m)(o:S[n]? = Z (.lst (ws.map dd)))(j:S.all (Ob.und S.length)=M)(q:Q (.tup (nmD (io m ws dd cs)),S)):W (dU 2 ji [eO ws cs,.ref n] S) Q:=by
 refine vT O (by simp[D.unds,D.und]) ?_;unfold ji;refine jl ?_;unfold su;have y:=(Tg o).1;refine ei (λr V=>V=S/\r=[Z (eO ws cs),Z (.ref n),Z (.tup (fE ws)),Z (.tup (nmD cs)),Y,Y,Y]) ?_ ?_
 ·generalize z:eO ws cs=aq;have k:aq = .tup [.tup (fE ws),.tup (nmD cs)]:=z.symm;subst k;walk_at"w"
 rintro r V ⟨F,rfl⟩;subst F;refine ei (λr g=>g=V++[.lst (nmD (qk ws dd "mark"))]/\r=[Z (eO ws cs),Z (.ref n),Z (.tup (fE ws)),Z (.tup (nmD cs)),Z (.ref V.length),Y,Y]) ?_ ?_
 ·unfold d4;refine dY.mpr (Di hd t o O O ?_);walk_at"w"
 rintro r b ⟨d,rfl⟩;have H:b[n]?=Z (.lst (ws.map dd)):=by rw[d,gL1 y];exact o
 have w:b[V.length]?=Z (.lst (nmD (qk ws dd "mark"))):=by rw[d,d2];rfl
 refine ei (λr g=>g=b++[.lst (nmD (qk ws dd "wipe"))]/\r=[Z (eO ws cs),Z (.ref n),Z (.tup (fE ws)),Z (.tup (nmD cs)),Z (.ref V.length),Z (.ref b.length),Y]) ?_ ?_
 ·unfold d4;refine dY.mpr (Di hd t H O O ?_);walk_at"w"
 rintro r i ⟨c,rfl⟩;have s:i[V.length]?=Z (.lst (nmD (qk ws dd "mark"))):=by rw[c,gL1 (Tg w).1];exact w
 have B:i[b.length]?=Z (.lst (nmD (qk ws dd "wipe"))):=by rw[c,d2];rfl
 refine ei (λr g=>g=i++[.lst (nmD (cs.filter λr=> !(qk ws dd "wipe").contains r))]/\r=[Z (eO ws cs),Z (.ref n),Z (.tup (fE ws)),Z (.tup (nmD cs)),Z (.ref V.length),Z (.ref b.length),Z (.ref i.length)]) ?_ ?_
 ·walk_at"w";rw[iD];refine iV (f:=λr:Nat=>D.int r) (λr:Nat=> !(qk ws dd "wipe").contains r) (λr:Nat=>D.int r) (λr=>∃x,r=[x,Z (.ref b.length)]) O cs _ ⟨_,O⟩ ?_ λao _=>?_
  ·rintro u p r ⟨x,rfl⟩
   wp_walk using zS B
   exact⟨⟨_,O⟩,λ_=>trivial⟩
  ·walk_at"w";have C:=db (λr:Nat=> !(qk ws dd "wipe").contains r) cs;exact⟨d3 (by rw[lM1];lia),O,trivial⟩
 rintro r v ⟨a,rfl⟩;have A:v[V.length]?=Z (.lst (nmD (qk ws dd "mark"))):=by rw[a,gL1 (Tg s).1];exact s
 have E:v[i.length]?=Z (.lst (nmD (cs.filter λr=> !(qk ws dd "wipe").contains r))):=by rw[a,d2];rfl
 have C:=db (λr:Nat=> !(qk ws dd "wipe").contains r) cs;have I:(qk ws dd "mark").length<=ws.length:=by unfold qk;rw[lM1];exact db _ _
 walk_at"w";refine(Eo E A).mpr ⟨d3 (by rw[eG,eG];lia),?_⟩;rw[JB];refine sx (xs:=cs.filter (λr=> !(qk ws dd "wipe").contains r)++qk ws dd "mark") (m:=m) (f:=λr=>qu ws dd "mark" r||(cs.contains r && !qu ws dd "wipe" r)) (by rw[d2];rfl) (λr=>?_) (by rw[lA1];lia) ?_
 ·have G:(qk ws dd "wipe").contains r=qu ws dd "wipe" r:=by
   rw[bS,cT,ze]
  rw[aG,aB,ze,G];constructor
  ·rintro(⟨h1,h2⟩|h1)
   ·exact⟨l r h1,by rw[cT.mpr h1,h2];simp⟩
   ·refine⟨?_,by rw[h1];rfl⟩;unfold qu at h1;obtain⟨u,p,e⟩:=bT.mp h1;rw[bA1,SV]at e;rw[<- e.1];exact hw u p
  ·rintro⟨_,h⟩;rw[bP,bA1]at h;rcases h with h|⟨h1,h2⟩
   ·exact .inr h
   ·exact .inl ⟨cT.mp h1,h2⟩
 ·walk_at"w";refine eF (xs:=nmD (io m ws dd cs)) (by rw[eZ];rfl) ?_;rw[Dk (by rw[D.und];exact fH _) j (by rw[a,c,d];simp only[bG];exact bv _ _)];exact q
theorem F8{w:dV}{ws:List Wk}{dd:Wk->D}(g:w.length=m)(hd:∀ u∈ws,mR (dd u))(s:ws.length<=8)(hc:cs.length<=8)(hw:∀ u∈ws,u.1<m)(i:∀ r∈cs,r<m)(f:S[n]? = Z (.lst (ws.map dd)))(b:S.all (Ob.und S.length)=M)(q:Q (eO (ws.map λu=>fK w u (dd u)) (io m ws dd cs),S)):W (dU 3 mh [webD w,eO ws cs,.ref n] S) Q:=by
 refine vT O (by simp[D.unds,D.und]) ?_;unfold mh;refine jl ?_;unfold y3;have k:=(Tg f).1;refine ei (λr V=>V=S/\r=[Z (webD w),Z (eO ws cs),Z (.ref n),Z (.tup (fE ws)),Z (.tup (nmD cs)),Y]) ?_ ?_
 ·generalize l:eO ws cs=aq;have h:aq = .tup [.tup (fE ws),.tup (nmD cs)]:=l.symm;subst h;walk_at"w"
 rintro r V ⟨z,rfl⟩;subst z;refine ei (λr t=>t=V++[.lst (fE (ws.map λu=>fK w u (dd u)))]/\r=[Z (webD w),Z (eO ws cs),Z (.ref n),Z (.tup (fE ws)),Z (.tup (nmD cs)),Z (.ref V.length)]) ?_ ?_
 ·unfold d4;refine dY.mpr ?_;rw[mO];refine Eg (xs:=fE ws) (ys:=ws.map dd) (n:=n) O f ?_;dsimp only;rw[fE,we];refine jI (λu:Wk=>gJ (fK w u (dd u))) (λr=>∃x y,r=[x,y,Z (webD w)]) (fQ f) ws _ ⟨_,_,O⟩ ?_ λE _=>?_
  ·rintro u j r ⟨x,y,rfl⟩;obtain⟨row,c⟩:∃row,w[u.1]?=some row:=⟨_,gG1 (by rw[g];exact hw u j)⟩;walk_at"w";refine zx c (hd u j) ?_;exact⟨O,O,_,_,O⟩
  ·have e:ws.map (λu:Wk=>gJ (fK w u (dd u)))=fE (ws.map λu=>fK w u (dd u)):=by unfold fE;rw[bu];rfl
   rw[e];refine⟨d3 (by dsimp only;rw[xC,lM1];lia),?_⟩;walk_at"w"
 rintro r d ⟨a,rfl⟩;have p:d[n]?=Z (.lst (ws.map dd)):=by rw[a,gL1 k];exact f
 have B:d[V.length]?=Z (.lst (fE (ws.map λu=>fK w u (dd u)))):=by rw[a,d2];rfl
 have A:d.all (Ob.und d.length)=M:=by
  rw[a,cW,bA1,lA1];rw[bB]at b;refine⟨bB.mpr λo C=>hR (br _ _) (b o C),?_⟩;rw[bQ,Ob.und,i5 (xB _)];rfl
 walk_at"w";refine eF B ?_;refine An hd s hc hw i p A ?_;walk_at"w";have v:D.tup [.tup (fE (ws.map λu=>fK w u (dd u))),.tup (nmD (io m ws dd cs))]=eO (ws.map λu=>fK w u (dd u)) (io m ws dd cs):=rfl;rw[v,Dk iy b (by rw[a];exact bv _ _)];exact q
def eyD(e:E4):D:=.tup (gx e.1 e.2.1 e.2.2.1 e.2.2.2)
theorem mx(e:E4):(eyD e).und 0=M:=by unfold eyD;rw[D.und];exact vy _ _ _ _
def mcD(e:E4)(L:List Rw):D:=.tup [eyD e,.tup (L.map (ge e))]
theorem yn(ok:∀p∈L,qh p):(mcD e L).und 0=M:=by
 have h1:=mx e;have h2:=oW (e:=e) ok 0;unfold mcD;rw[D.und,D.unds,D.unds,h1,h2];rfl
theorem DC{k:Ky}(ok:∀p∈L,qh p)(hk:k.Ok):mR (lH e L k):=by
 unfold lH;cases h:L.find? λp=>decide (p.1.code e=k.code e)with
 |none=>exact⟨k.m,_,_,O,hk.m,by simp[rP],by simp[rd]⟩
 |some p=>exact(ok p (List.mem_of_find?_eq_some h)).2
def ky(w:dV)(ws:List Wk)(cs:List Nat)(u:Wk):Ky:=⟨u.2.2,u.2.1,if cs.contains u.1 then 1 else 0,((w[u.1]?).getD []).length,if 1<crowd ws u.1 then 1 else 0⟩
theorem Ff{w:dV}{ws:List Wk}{u:Wk}{row:List (Nat×Nat)}(h:w[u.1]?=Z row):BP e.1 e.2.1 e.2.2.1 e.2.2.2 ws cs u row=(ky w ws cs u).sg e:=by
 have c:∀b:Bool,((if b=M then 1 else 0:Nat):Int)=if b=M then(1:Int)else 0:=λb=>by cases b<;>rfl
 have a:((if 1<crowd ws u.1 then 1 else 0:Nat):Int)=if 1<crowd ws u.1 then(1:Int)else 0:=by split<;>rfl
 unfold BP wx Ky.sg OS ky pt;rw[h];dsimp only;rw[c,a];rfl
structure mM (m:Nat)(w:dV)(ws:List Wk)(cs:List Nat):Prop where
 web:Ee m w
 m8:m<=8
 few:ws.length<=8
 cl:cs.length<=8
 wk:∀u∈ws,∃row,w[u.1]?=some row/\u.2.1<=row.length/\u.2.2<4000
 ch:∀r∈cs,r<m
theorem mM.lt{w:dV}{ws:List Wk}(h:mM m w ws cs):∀u∈ws,u.1<m:=λu a=>by
 obtain⟨row,e,_⟩:=h.wk u a;have:=(Tg e).1;rw[h.web.len]at this;exact this
theorem mM.ky{w:dV}{ws:List Wk}(h:mM m w ws cs):∀u∈ws,(ky w ws cs u).Ok:=λu b=>by
 obtain⟨row,e,h1,h2⟩:=h.wk u b;have a:=h.web.le row (gM1 e);refine⟨h2,?_,?_,?_,?_⟩
 ·show u.2.1<=4;lia
 ·show(if cs.contains u.1 then 1 else 0)<=4;split<;>lia
 ·show((w[u.1]?).getD []).length<=4;rw[e];exact a
 ·show(if 1<crowd ws u.1 then 1 else 0)<=4;split<;>lia
theorem EU{w:dV}{ws:List Wk}(h:mM m w ws cs)(q:Q (.ref S.length,S++[.lst (ws.map λu=>(ky w ws cs u).d e)])):W (dU 3 mf [webD w,eyD e,eO ws cs] S) Q:=by
 refine M4 O (by simp[D.unds,eL,iy,mx]) ?_;unfold mf;refine jl ?_;unfold yZ eD;rw[dY,mO];refine sy (xs:=fE ws) O ?_;dsimp only;have f:=h.few;rw[fE,w9];refine jI (λp:Wk×Nat=>(ky w ws cs p.1).d e) (λr=>∃x y,r=[x,y,Z (webD w),Z (eyD e),Z (eO ws cs)]) O ws.zipIdx _ ⟨_,_,O⟩ ?_ λg _=>?_
 ·rintro⟨u,k⟩ d r ⟨x,y,rfl⟩;have b:ws[k]?=Z u:=qT d;obtain⟨row,a,_⟩:=h.wk u (gM1 b)
  wp_walk using GC
  refine Fa b a (by lia) ?_;walk_at"w";rw[Ff a];exact⟨O,_,_,O⟩
 ·have c:(ws.zipIdx.map λp:Wk×Nat=>(ky w ws cs p.1).d e)=ws.map λu=>(ky w ws cs u).d e:=wf (λu=>(ky w ws cs u).d e) ws;rw[c];refine⟨d3 (by dsimp only;rw[lM1];lia),?_⟩;walk_at"w";exact⟨_,O,Mi.eN λu _=>Ky.und _ e 0,q⟩
def ddW(w:dV)(ws:List Wk)(cs:List Nat)(e:E4)(L:List Rw)(u:Wk):D:=lH e L (ky w ws cs u)
def M8(m:Nat)(w:dV)(ws:List Wk)(cs:List Nat)(e:E4)(L:List Rw):D:=eO (ws.map λu=>fK w u (ddW w ws cs e L u)) (io m ws (ddW w ws cs e L) cs)
theorem K7{w:dV}{ws:List Wk}(h:mM m w ws cs)(c:Inc e L)(ok:∀p∈L,qh p)(f:L.length<=4000)(q:Q (M8 m w ws cs e L,S)):W (dU 3 pq [webD w,mcD e L,eO ws cs] S) Q:=by
 refine fM O (by simp[D.unds,eL,iy,yn ok]) ?_;unfold pq
 refine jl ?_;unfold D4
 have j:=h.few;have d:∀u∈ws,mR (ddW w ws cs e L u):=λu a=>DC ok (h.ky u a);refine ei (λr V=>V=[.lst (ws.map λu=>(ky w ws cs u).d e)]/\r=[Z (webD w),Z (mcD e L),Z (eO ws cs),Z (.ref 0)]) ?_ ?_
 ·have i:∀S,dW (mcD e L) (.int 0) S=Z (eyD e,S):=λS=>rfl
  wp_walk using i
  refine EU h ?_;walk_at"w"
 rintro r V ⟨rfl,rfl⟩;unfold eD;rw[dY];have b:W (eK 2 [1] (ia (mV 3)) (gT 2 (gCs (gN 0) (gCs (gN 1) gNl))) fm (eB (mN (dU 3 g9) (dR (mV 2) (dR (mV 0) (dR (mV 1) dS))))) [Z (webD w),Z (mcD e L),Z (eO ws cs),Z (.ref 0)] [.lst (ws.map λu=>(ky w ws cs u).d e)]) λp=>p=(.ref 1,[.lst (ws.map λu=>(ky w ws cs u).d e),.lst (ws.map (ddW w ws cs e L))]):=by
  walk_at"w";refine eF (xs:=ws.map λu=>(ky w ws cs u).d e) O ?_;refine jI (ddW w ws cs e L) (λr=>∃x y,r=[x,y,Z (mcD e L)]) (fQ O) ws _ ⟨_,_,O⟩ ?_ λk _=>?_
  ·rintro u a r ⟨x,y,rfl⟩;unfold Ky.d;walk_at"w";refine DG c ok f (h.ky u a) (mx e) ?_;exact⟨O,O,_,_,O⟩
  ·refine⟨d3 (by dsimp only;rw[lM1];lia),?_⟩;walk_at"w"
 obtain⟨p,g,rfl⟩:=b;generalize eK 2 [1] (ia (mV 3)) (gT 2 (gCs (gN 0) (gCs (gN 1) gNl))) fm (eB (mN (dU 3 g9) (dR (mV 2) (dR (mV 0) (dR (mV 1) dS)))))=G at *
 wp_walk using g
 refine F8 h.web.len d h.few h.cl h.lt h.ch (dd:=ddW w ws cs e L) O ?_ ?_
 ·rw[bQ,bQ,Ob.und,Ob.und,Mi.eN λu _=>Ky.und _ e _,Mi.eN λu a=>iB (d u a).und];rfl
 ·exact⟨iy,q⟩
theorem OE{g:G1}{m:FE}{r:Ev}(h:W (m r S) λp=>W (g p.1 p.2) Q):W (mN (b1 g) (dR m dS) r S) Q:=by
 obtain⟨p,e,h⟩:=h;unfold mN dR dS;rw[e];exact h
abbrev Wh:=List Wk×List Nat
def Ex(a:Wh):D:=eO a.1 a.2
theorem AA{ws:List Wk}{f:Wk->D}(hm:m<=8):(io m ws f cs).length<=8 /\ ∀r∈io m ws f cs,r<m:=by
 unfold io;refine⟨?_,λr a=>aC.mp (aB.mp a).1⟩;refine aD (db _ _) ?_;rw[cM];exact hm
theorem Bv{w:dV}{ws:List Wk}(h:mM m w ws cs){u:Wk}(e:u∈ws){x:D}(hx:mR x):∃row,w[(fK w u x).1]?=Z row/\(fK w u x).2.1<=row.length/\(fK w u x).2.2<4000:=by
 have b:=hx.eta.2;obtain⟨row,a,h1,h2⟩:=h.wk u e;unfold fK;rw[a];have base:∃row,w[(u.1,u.2.1,dm x).1]?=Z row/\(u.1,u.2.1,dm x).2.1<=row.length/\(u.1,u.2.1,dm x).2.2<4000:=⟨row,a,h1,b⟩;cases dt x with
 |none=>exact base
 |some t=>
  dsimp only[oS1];cases ep:row[t]? with
  |none=>exact base
  |some p=>
   obtain⟨r,c,d⟩:=h.web.to row (gM1 a) p (gM1 ep);exact⟨r,c,d,b⟩
theorem xE(a:Wh)(n:Nat):(Ex a).und n=M:=iB iy
structure Er (m:Nat)(rs cs:List Nat):Prop where
 few:rs.length<=8
 cl:cs.length<=8
 rs:∀r∈rs,r<m
 cs:∀r∈cs,r<m
def eP(rs cs:List Nat):D:=.tup [.tup (nmD rs),.tup (nmD cs)]
noncomputable def qL(rs cs:List Nat):Wh:=(rs.map λr=>(r,0,0),cs)
theorem Hi{w:dV}(hw:Ee m w)(hm:m<=8)(h:Er m rs cs):mM m w (qL rs cs).1 (qL rs cs).2:=by
 refine⟨hw,hm,by show(rs.map _).length<=8;rw[lM1];exact h.few,h.cl,λu a=>?_,h.cs⟩;obtain⟨r,b,rfl⟩:=cc.mp a;exact⟨_,gG1 (by rw[hw.len];exact h.rs r b),bi _,by show 0<4000;decide⟩
theorem zA(rs cs:List Nat)(n:Nat):(eP rs cs).und n=M:=iB (by simp[eP,D.und,D.unds,fH])
theorem Bx:dW (eP rs cs) (.int 0) S=Z (.tup (nmD rs),S):=rfl
theorem IB:dW (eP rs cs) (.int 1) S=Z (.tup (nmD cs),S):=rfl
theorem Hh{c:Option D}{Q:List D×Ev×Sto->Prop}(h:∀ b,Q (fE (qL rs []).1,b,S)):
  W (fS [] (gN 0) fm (eB (eQ (dR (mV 0) (dR (mC (D.int 0)) (dR (mC (D.int 0)) dS))))) (nmD rs) [c] S) Q:=by
 refine jI (f:=λr:Nat=>D.int r) (λr:Nat=>gJ (r,0,0)) (λr=>∃x,r=[x]) O rs _ ⟨_,O⟩ ?_ λb _=>?_
 ·rintro a d r ⟨x,rfl⟩;walk_at"w";exact⟨O,_,O⟩
 ·have e:(rs.map λr:Nat=>gJ (r,0,0))=fE (qL rs []).1:=by unfold fE qL;rw[bu];rfl
  rw[e];exact h b
theorem Hg(c:rs.length<=1000)(q:Q (Ex (qL rs cs),S)):W (dU 1 mj [eP rs cs] S) Q:=by
 refine fM O (by rw[D.unds,zA];rfl) ?_;unfold mj;refine jl ?_;unfold za;refine ei (λr V=>V=[]/\r=[Z (eP rs cs),Z (.tup (nmD rs)),Z (.tup (nmD cs))]) ?_ ?_
 ·unfold eP;walk_at"w"
 rintro r V ⟨rfl,rfl⟩;walk_at"w";rw[iD];refine Hh λb=>?_;have a:(fE (qL rs []).1).length=rs.length:=by rw[xC];exact lM1 _
 walk_at"w";refine⟨d3 (by rw[a];lia),?_⟩;refine eF (xs:=fE (qL rs []).1) O ?_;exact⟨xE (qL rs cs) 0,q⟩
noncomputable def JV(a:Wh):Bool:=match a.1 with
 |[]=>M
 |u::ws=>(u::ws).all λv=>v.1 == u.1
theorem GG{a:Wh}(d:a.1≠[])(j:a.1.length<=1000)(q:Q (.bl (JV a),S)):W (dU 1 j0 [Ex a] S) Q:=by
 obtain⟨ws,c⟩:=a;cases ws with
 |nil=>exact absurd O d
 |cons u ws=>
  have g:∀b,dW (Ex (u::ws,c)) (.int 0) b=Z (.tup (fE (u::ws)),b):=λb=>rfl;refine fM O (by rw[D.unds,xE];rfl) ?_;unfold j0;refine jl ?_;unfold vW;refine ei (λr V=>V=[]/\r=[Z (Ex (u::ws,c)),Z (.int u.1)]) ?_ ?_
  ·have i:∀ b,dW (.tup (fE (u::ws))) (.int 0) b=some (gJ u,b):=fun b=>by
    obtain⟨p,e,h⟩:W (dW (.tup (fE (u::ws))) (.int ((0:Nat):Int)) b) λp=>p=(gJ u,b):=ip O O;exact e.trans (by rw[h])
   wp_walk using g,i,tO
  rintro r V ⟨rfl,rfl⟩;unfold eD;rw[dY];refine OE ?_
  wp_walk using g
  rw[iD];refine jI (f:=gJ) (λv:Wk=>D.bl (v.1 == u.1)) (λr=>∃x y z,r=[x,y,z,Z (.int u.1)]) O (u::ws) _ ⟨_,_,_,O⟩ ?_ λk _=>?_
  ·rintro v l r ⟨x,y,z,rfl⟩;unfold gJ;walk_at"w";refine⟨?_,_,_,_,O⟩
   congr 1
   rw[bS,SV,SV];lia
  ·walk_at"w";refine⟨d3 (by rw[lM1];exact aD j (by decide)),?_⟩;refine W.of (x:=(.bl (JV (u::ws,c)),[Ob.lst ((u::ws).map λv:Wk=>D.bl (v.1 == u.1))])) ?_ ⟨O,q⟩;unfold qy;rw[fP (xs:=(u::ws).map λv:Wk=>D.bl (v.1 == u.1)) O,oS1,qf];rfl
def stepL(m:Nat)(w:dV)(e:E4)(L:List Rw)(a:Wh):Wh:=(a.1.map λu=>fK w u (ddW w a.1 a.2 e L u),io m a.1 (ddW w a.1 a.2 e L) a.2)
theorem mM.stepL{w:dV}{a:Wh}(h:mM m w a.1 a.2)(ok:∀p∈L,qh p):mM m w (stepL m w e L a).1 (stepL m w e L a).2:=by
 have hc:=AA (m:=m) (ws:=a.1) (f:=ddW w a.1 a.2 e L) (cs:=a.2) h.m8;refine⟨h.web,h.m8,by show(a.1.map _).length<=8;rw[lM1];exact h.few,hc.1,λv c=>?_,hc.2⟩;obtain⟨u,b,rfl⟩:=cc.mp c;exact Bv h b (DC ok (h.ky u b))
noncomputable def rg(b:Bool)(n:Nat):List Nat:=if b=M then af n else[0]
def SG(e:E4):List Ky:=(rg e.1 5).flatMap λx=>(rg e.2.1 2).flatMap λy=>(rg e.2.2.1 5).flatMap λz=>(rg e.2.2.2 2).map λw=>⟨0,x,y,z,w⟩
structure PY (e:E4)(k:Ky):Prop where
 x:k.x<=4
 y:e.2.1=true->k.y<=1
 z:k.z<=4
 w:e.2.2.2=true->k.w<=1
theorem x0{b:Bool}{x:Nat}(hn:0<n)(h:x∈rg b n):x<n:=by
 unfold rg at h;cases b with
 |false=>simp at h;lia
 |true=>simpa using h
theorem qg{k:Ky}(h:k∈SG e):k.m=0/\k.Ok/\PY e k:=by
 unfold SG at h;obtain⟨x,d,h⟩:=dv.mp h;obtain⟨y,c,h⟩:=dv.mp h;obtain⟨z,a,h⟩:=dv.mp h;obtain⟨w,b,rfl⟩:=cc.mp h;have h1:=x0 (by decide) d;have h2:=x0 (by decide) c;have g:=x0 (by decide) a;have f:=x0 (by decide) b;exact⟨O,⟨by show 0<4000;decide,by show x<=4;lia,by show y<=4;lia,by show z<=4;lia,by show w<=4;lia⟩,⟨by show x<=4;lia,λ_=>by show y<=1;lia,by show z<=4;lia,λ_=>by show w<=1;lia⟩⟩
theorem zB(e:E4):(jZ [eyD e] []).map (·.1)=Z (.tup ((SG e).map (·.sg e))):=by
 obtain⟨a,b,c,d⟩:=e;cases a<;>cases b<;>cases c<;>cases d<;>kernel_rfl!
theorem Fc(e:E4):D.unds 0 ((SG e).map (·.sg e))=M:=Mi.eN λk _=>k.sgu e 0
theorem BE(q:Q (.tup ((SG e).map (·.sg e)),S)):W (dU 1 jZ [eyD e] S) Q:=by
 refine fM O (by rw[D.unds,mx];rfl) ?_;obtain⟨⟨d,G⟩,b,a⟩:=Ti (zB e);dsimp only at a;subst a;exact⟨_,b,by rw[D.und];exact Fc e,q⟩
noncomputable def upI(l:List Nat):List Int:=l.map λx:Nat=>(x:Int)
theorem sE(l:List Nat):(upI l).length=l.length:=lM1 _
theorem ig{l:List Nat}:i8 (upI l) i=(l.getD i 0:Nat):=by
 unfold i8 upI;rw[bJ,bJ,gP1];cases l[i]? <;> rfl
theorem xO(l:List Nat):iN (upI l) = .tup (nmD l):=by
 unfold iN upI nmD;rw[bu];rfl
theorem BJ{b:Bool}(h:i<m):i8 (sgL m ws cs b) i=BK ws cs b i:=by
 unfold i8 sgL;rw[bJ,gP1,cE h];rfl
def mQ(m:Nat)(rs cs:List Nat):Prop:=∀i j,i<m->j<m->rs.getD i 0=rs.getD j 0->cs.contains i=cs.contains j
theorem AZ{α β:Type}{a:List α}{b:List β}{p:α×β}(h:p∈a.zip b):∃d:Nat,a[d]?=Z p.1/\b[d]?=Z p.2:=by
 obtain⟨d,c⟩:=bq h;exact⟨d,cS.mp c⟩
theorem AW.row{w:dV}(C:AW m w rs)(hi:i<m)(k:j<m)(e:rs.getD i 0=rs.getD j 0):(gX w i).length=(gX w j).length /\ ∀(d:Nat) (p q:Nat×Nat),(gX w i)[d]?=Z p->(gX w j)[d]?=Z q->rs.getD p.1 0=rs.getD q.1 0/\p.2=q.2:=by
 obtain⟨n,F⟩:=C.fb;obtain⟨h,h1⟩:=sO C.web.toWebJ hi;obtain⟨r2,h2⟩:=sO C.web.toWebJ k;obtain⟨a,a1,a2⟩:=F.deg i h h1;obtain⟨b,b1,b2⟩:=F.deg j r2 h2;rw[e,b1]at a1;cases a1;refine⟨by rw[kB h1,kB h2];lia,λd p q l g=>?_⟩;have c:=F.at_ i d p (sQ l);have f:=F.at_ j d q (sQ g);rw[e]at c;have:=kj c f;injection this with x y;exact⟨x,y⟩
theorem yO{w:dV}(C:AW m w rs)(hk:mQ m rs cs):Fit m w (sgL m ws cs J) (upI rs):=by
 intro i j hi a e;have b:rs.getD i 0=rs.getD j 0:=by rw[ig,ig]at e;lia
 obtain⟨h,k⟩:=C.row hi a b;rw[tK];refine⟨e,?_,h,λp f=>?_⟩
 ·rw[BJ hi,BJ a];unfold BK;rw[hk i j hi a b];rfl
 ·obtain⟨d,h1,h2⟩:=AZ f;obtain⟨g,c⟩:=k d _ _ h1 h2;exact⟨by rw[ig,ig,g],c⟩
theorem wZ{m:Nat}{w:dV}{sg c:List Int}(hw:WebJ m w)(h:Fit m w sg c):∀(n a b:Nat),a<m->b<m->i8 c a=i8 c b->RA w sg n a b
 |0,_,_,_,_,_=>trivial
 |n+1,a,b,ha,hb,e=>by
  obtain⟨_,h2,o,k⟩:=tK.mp (h a b ha hb e);refine⟨wZ hw h n a b ha hb e,h2,o,λd p q g f=>?_⟩;obtain⟨l,j⟩:=k (p,q) (gM1 (i:=d) (cS.mpr ⟨g,f⟩));exact⟨wZ hw h n _ _ (sP hw g) (sP hw f) l,j⟩
theorem kQ{w:dV}{sg:List Int}(h:i<m):(gG m w sg).getD i 0=col w sg m i:=by
 unfold gG;rw[bJ,gP1,cE h];rfl
theorem vO{w:dV}{sg:List Int}(hw:WebJ m w)(b:0<m):Fit m w sg (upI (gG m w sg)):=by
 intro i j hi f e;have o:RA w sg m i j:=by
  rw[<- hD];rw[ig,ig,kQ hi,kQ f]at e;lia
 obtain⟨n,t,s⟩:=IA (w:=w) (sg:=sg) b;have a:=s.on hw (m-n);rw[show n+(m-n)=m by lia]at a;obtain⟨_,h2,r,l⟩:=a i j hi f o;rw[tK];refine⟨e,h2,r,λp q=>?_⟩;obtain⟨d,h,c⟩:=AZ q;obtain⟨g,k⟩:=l d _ _ h c;refine⟨?_,k⟩;rw[<- hD]at g;rw[ig,ig,kQ (sP hw h),kQ (sP hw c),g]
theorem Ay{w:dV}{sg c:List Int}(hw:WebJ m w)(h:Fit m w sg c)(ha:a<m)(hb:b<m)(e:i8 c a=i8 c b):(gG m w sg).getD a 0=(gG m w sg).getD b 0:=by
 rw[kQ ha,kQ hb,hD];exact wZ hw h m a b ha hb e
theorem Cu{w:dV}{d:D}(C:AW m w rs)(hk:mQ m rs cs)(a:∀x∈ws,x<m)(b:0<m)(f:i<j)(l:j<ws.length)(e:rs.getD (ws.getD i 0) 0=rs.getD (ws.getD j 0) 0)(h:Nv m w ws cs M d):(∃c,d=KW c/\c=gG m w (sgL m ws cs M) /\ ¬ c.Nodup) \/ ∃p q,d=alD p q (gG m w (sgL m ws cs J))/\p<q/\q<ws.length/\cw (gG m w (sgL m ws cs J)) ws p=cw (gG m w (sgL m ws cs J)) ws q:=by
 cases h with
 |co h=>exact .inl ⟨_,O,O,h⟩
 |al _ h g o=>
  cases o with
  |yes p q h1 h2 n r=>exact .inr ⟨p,q,O,h1,h2,n⟩
  |no k=>
   refine(k i j f l ?_).elim;unfold cw;exact Ay C.web.toWebJ (yO C hk) (kM b a) (kM b a) (by rw[ig,ig,e])
 |no h g=>cases g
theorem BH{w:dV}{b:Bool}(hw:WebJ m w)(a:0<m)(hm:m<=8)(hn:¬ (gG m w (sgL m ws cs M)).Nodup)(q:Q (.bl M,S)):W (dU 4 ed [webD w,oN ws cs,.bl b,KW (gG m w (sgL m ws cs M))] S) Q:=by
 have c:=mE (m:=m) (w:=w) (sg:=sgL m ws cs M);have d:=vO (sg:=sgL m ws cs M) hw a;generalize gG m w (sgL m ws cs M)=cl at *
 have e:KW cl=Lu (upI cl):=by
  unfold KW Lu;rw[xO]
 rw[e];refine BF hw hm (by rw[sE];exact c) ?_;have:vC m w ws cs (upI cl)=M:=by
  unfold vC;rw[mT d,Bool.true_and,am];obtain⟨h1,h2⟩:=pS (upI cl) [] bp;rw[bf,bO,sE,c]at h1 h2;rw[cY]at h2;have:¬ (upI cl).Nodup:=λz=>hn (ux.mp z);unfold ddI;lia
 rw[this];exact q
theorem uB{w:dV}{a:List Nat}{b:Bool}(hw:WebJ m w)(f:0<m)(hm:m<=8)(h:a.length=m)(hf:Fit m w (sgL m ws cs J) (upI a))(c:∀x∈ws,x<m)(d:i<j)(k:j<ws.length)(e:a.getD (ws.getD i 0) 0=a.getD (ws.getD j 0) 0)(q:Q (.bl b,S)):W (dU 4 ed [webD w,oN ws cs,.bl b,alD i j a] S) Q:=by
 have g:alD i j a=ED i j (upI a):=by
  unfold alD ED;rw[xO]
 rw[g];refine BG hw f hm (by rw[sE];exact h) c (by lia) k ?_;have:vA m w ws cs b i j (upI a)=b:=by
  unfold vA;rw[mT hf,ah d,ig,ig,e];simp
 rw[this];exact q
theorem Ef.ok{w:dV}(h:Ef m w):Ee m w:=by
 refine⟨h.len,λrow a=>?_,λrow a e b=>?_⟩
 ·obtain⟨i,hi⟩:=bq a;exact h.le i row hi
 ·obtain⟨i,hi⟩:=bq a;obtain⟨d,c⟩:=bq b;obtain⟨r,h1,h2⟩:=h.bk i d e ⟨row,hi,c⟩;exact⟨r,h1,(Tg h2).1⟩
structure Np (rs:List Nat)(ws:List Wk)(i j:Nat):Prop where
 ex:∃u v,ws[i]?=some u/\ws[j]?=some v/\u.1≠v.1/\rs.getD u.1 0=rs.getD v.1 0/\u.2=v.2
theorem rY{ws:List Wk}{u v:Wk}(h2:ws.length=2)(g:i≠j)(d:ws[i]?=Z u)(hv:ws[j]?=Z v)(hn:u.1≠v.1):crowd ws u.1=1:=by
 have hi:=(Tg d).1;have e:=(Tg hv).1
 match ws,h2 with
 |[a,b],_=>
  have c:v.1≠u.1:=λz=>hn z.symm;have f:i=0/\j=1\/i=1/\j=0:=by simp at hi e;lia
  rcases f with⟨rfl,rfl⟩|⟨rfl,rfl⟩
  ·simp at d hv;subst d;subst hv;simp[crowd,c]
  ·simp at d hv;subst d;subst hv;simp[crowd,c]
theorem KO{k l:Ky}(hm:k.m=l.m)(hc:k.code e=l.code e):lH e L k=lH e L l:=by
 unfold lH DF;rw[hc,hm]
theorem Gw{w:dV}{ws:List Wk}{u v:Wk}(C:AW m w rs)(hk:mQ m rs cs)(he:e.2.2.2=J\/ws.length=2)(b:i≠j)(f:ws[i]?=Z u)(hv:ws[j]?=Z v)(a:u.1<m)(c:v.1<m)(hn:u.1≠v.1)(hr:rs.getD u.1 0=rs.getD v.1 0)(h2:u.2=v.2):(ky w ws cs u).m=(ky w ws cs v).m/\(ky w ws cs u).code e=(ky w ws cs v).code e:=by
 have d:u.2.2=v.2.2:=by rw[h2]
 have h:u.2.1=v.2.1:=by rw[h2]
 have g:=hk u.1 v.1 a c hr;have k:((w[u.1]?).getD []).length=((w[v.1]?).getD []).length:=(C.row a c hr).1;refine⟨d,?_⟩;unfold Ky.code ky;dsimp only;rw[d]
 congr 1
 unfold E4.bs Ky.xs;dsimp only;rw[M3,M3,h,g,k]
 congr 1
 rcases he with he|he
 ·rw[he];rfl
 ·rw[rY he b f hv hn,rY he (Qk b) hv f (Qk hn)]
theorem zy{w:dV}{u v:Wk}(C:AW m w rs)(a:u.1<m)(b:v.1<m)(hn:u.1≠v.1)(hr:rs.getD u.1 0=rs.getD v.1 0)(h2:u.2=v.2)(x:D):(fK w u x).1≠(fK w v x).1/\rs.getD (fK w u x).1 0=rs.getD (fK w v x).1 0/\(fK w u x).2=(fK w v x).2:=by
 obtain⟨i,g⟩:=C.row a b hr;obtain⟨f,h1⟩:=sO C.web.toWebJ a;obtain⟨r2,d⟩:=sO C.web.toWebJ b;rw[kB h1,kB d]at i g;unfold fK;rw[h1,d];cases dt x with
 |none=>exact⟨hn,hr,by dsimp only;rw[h2]⟩
 |some t=>
  dsimp only[oS1];cases e1:f[t]? with
  |none=>
   rw[List.getElem?_eq_none_iff]at e1;rw[b4 (show r2.length<=t by lia)];exact⟨hn,hr,by dsimp only;rw[h2]⟩
  |some p=>
   have j:=(Tg e1).1;obtain⟨q,c⟩:∃q,r2[t]?=some q:=⟨_,gG1 (by lia)⟩;rw[c];obtain⟨h,e⟩:=g t p q e1 c;refine⟨λz=>hn ?_,h,by dsimp only;rw[e]⟩;dsimp only at z;have b1:=C.web.bk u.1 t p ⟨f,h1,e1⟩;have b2:=C.web.bk v.1 t q ⟨r2,d,c⟩;rw[z,e]at b1;have:=kj b1 b2;injection this
def Lve(L:List Rw):Prop:=∀p∈L,dh p.2="leave"
theorem KN{k:Ky}(h:Lve L):dh (lH e L k)="leave":=by
 unfold lH;cases hf:L.find? (λp=>decide (p.1.code e=k.code e))with
 |none=>rfl
 |some p=>exact h p (List.mem_of_find?_eq_some hf)
theorem DS{w:dV}{ws:List Wk}(h:Lve L)(hc:cs=(af m).filter λr=>cs.contains r):io m ws (ddW w ws cs e L) cs=cs:=by
 have no:∀(x:Str) (r:Nat),x≠"leave"->qu ws (ddW w ws cs e L) x r=J:=λx r a=>by
  unfold qu;rw[List.any_eq_false];intro u _ z;rw[bA1,SV,SV]at z;unfold ddW at z;rw[KN h]at z;exact a z.2.symm
 unfold io
 conv=>rhs;rw[hc]
 refine List.filter_congr λr _=>?_;rw[no "mark" r (by decide),no "wipe" r (by decide)];simp
theorem Ea{w:dV}{ws:List Wk}(C:AW m w rs)(hw:mM m w ws cs)(hk:mQ m rs cs)(he:e.2.2.2=J\/ws.length=2)(c:i≠j)(h:Np rs ws i j):Np rs (stepL m w e L (ws,cs)).1 i j:=by
 obtain⟨u,v,g,d,k,l,h2⟩:=h.ex;have a:=hw.lt u (gM1 g);have b:=hw.lt v (gM1 d);obtain⟨p,r⟩:=Gw C hk he c g d a b k l h2;have f:ddW w ws cs e L u=ddW w ws cs e L v:=KO p r;obtain⟨q,n,o⟩:=zy C a b k l h2 (ddW w ws cs e L v);refine⟨fK w u (ddW w ws cs e L u),fK w v (ddW w ws cs e L v),?_,?_,?_,?_,?_⟩
 ·show(ws.map _)[i]?=_;rw[gP1,g];rfl
 ·show(ws.map _)[j]?=_;rw[gP1,d];rfl
 ·rw[f];exact q
 ·rw[f];exact n
 ·rw[f];exact o
theorem Ho{a:Wh}(h:Np rs a.1 i j):JV a=J:=by
 obtain⟨u,v,c,e,d,_,_⟩:=h.ex;obtain⟨ws,f⟩:=a;cases ws with
 |nil=>cases i<;>cases c
 |cons x ws=>
  refine cX.mpr λz=>d ?_;have b:(x::ws).all (λv=>v.1 == x.1)=M:=z;rw[bB]at b;have a1:=SV.mp (b u (gM1 c));have a2:=SV.mp (b v (gM1 e));rw[a1,a2]
def kZ(xs:List Nat):List Nat:=(hM (xs.map λ(r:Nat)=>(r:Int))).map Int.toNat
theorem ww(xs:List Nat):(kZ xs).Perm xs:=by
 have:=(fy (xs.map λ(r:Nat)=>(r:Int))).map Int.toNat
 rw[bu]at this;have e:(Int.toNat∘λ(r:Nat)=>(r:Int))=id:=by funext x;simp
 rw[e,List.map_id]at this;exact this
theorem Bz(xs:List Nat):(hM (xs.map λ(r:Nat)=>(r:Int))).map D.int=nmD (kZ xs):=by
 unfold nmD kZ;rw[bu];refine cV λi hi=>?_;obtain⟨x,_,rfl⟩:=cc.mp ((fy _).mem_iff.mp hi);rfl
theorem C8(xs:List Nat):pE (nmD xs)=Z (xs.map λ(r:Nat)=>(r:Int)):=by
 induction xs with
 |nil=>rfl
 |cons x xs ih=>
  show(pE (nmD xs)).map _=_;rw[ih];rfl
theorem Hq{xs:List Nat}(h:S[n]?=Z (.lst (nmD xs)))(a:xs.length<64)(q:Q (.ref S.length,S++[.lst (nmD (kZ xs))])):W (j5 (.ref n) S) Q:=by
 refine W.of ?_ q;unfold j5;rw[fP h];dsimp only;rw[C8];dsimp only;rw[ak (by rw[lM1];exact a),Bz]
theorem MZ(xs:List D)(k:Nat):Mi.mD xs Y (Z (k:Int))=xs.take k:=by
 unfold Mi.mD;rw[HT.uG,HT.xV,List.drop_zero,Nat.sub_zero];by_cases h:k<=xs.length
 ·rw[bA h]
 ·rw[Nat.min_eq_right (by lia),bY,cm (by lia)]
theorem Nb{m:FE}{hi:FO}{r:Ev}{k:Nat}{xs:List D}(hm:m r S=Z (.ref n,S))(a:hi r S=Z (Z (k:Int),S))(h:S[n]?=Z (.lst xs))(q:Q (.ref S.length,S++[.lst (xs.take k)])):W (kT m jf hi r S) Q:=by
 rw[<- MZ]at q;refine W.of ?_ q;unfold kT;rw[hm,oS1];dsimp only;rw[show jf r S=Z (Y,S)from rfl,oS1];dsimp only;rw[a,oS1];simp only[sL,fP h,oP1,Rf]
theorem Iz{xs:List D}{l:List Nat}(h:xs.Sublist (nmD l)):∃l':List Nat,l'.Sublist l/\xs=nmD l':=List.sublist_map_iff.mp h
theorem Kw{w:dV}(hw:w.length=m)(hm:m<=8)(j:rs.length=m)(ho:fG o n)(hn:n<=2^40)(s:T.all (Ob.und (T.length+1))=M)(q:∀(ks:List Nat) o',fG o' (n+8)->Q (.tup (nmD ((af m).filter λr=>ks.contains (rs.getD r 0))),o'::T)):W (dU 3 hU [.ref 0,webD w,.tup (nmD rs)] (o::T)) Q:=by
 refine mF O O s ?_;unfold hU;refine jl ?_;unfold nS;refine ei (λr S=>∃(ks:List Nat) (o':Ob),fG o' (n+8)/\S=o'::(T++[.lst (nmD ks)])/\r=[Z (.ref 0),Z (webD w),Z (.tup (nmD rs)),Z (.ref (T.length+1))]) ?_ ?_
 ·wp_walk using kJ,hw
  refine⟨eW (by lia),?_⟩;rw[Ra];have d:(gi 0 m).length<=8:=by rw[eH];exact hm
  refine B9 ho (by lia) (by decide) (by decide) λxs p u b c=>?_;have h:=c.length_le;rw[lg]at c;obtain⟨ks,_,rfl⟩:=Iz (l:=af m) c;refine⟨d3 (by dsimp only;lia),?_⟩;walk_at"w";exact⟨ks,p,b.more (by lia),O,trivial⟩
 rintro r S ⟨ks,o',a,rfl,rfl⟩;have g:(o'::(T++[Ob.lst (nmD ks)]))[T.length+1]?=Z (.lst (nmD ks)):=by rw[gC1,d2];rfl
 generalize k:o'::(T++[Ob.lst (nmD ks)])=V at g
 wp_walk using kJ,hw
 refine⟨eW (by lia),?_⟩;rw[Ra,lg];refine iV (f:=λi:Nat=>D.int i) (λr=>ks.contains (rs.getD r 0)) (λr:Nat=>D.int r) (λr=>∃x,r=[x,Z (.tup (nmD rs)),Z (.ref (T.length+1))]) O (af m) _ ⟨_,O⟩ ?_ λt _=>?_
 ·rintro i hi r ⟨x,rfl⟩;have hi:=aC.mp hi;walk_at"w";refine v3 (by lia) ?_;refine W.of (KE g) ?_;walk_at"w";exact⟨⟨_,O⟩,λ_=>trivial⟩
 ·have e:((af m).filter λr=>ks.contains (rs.getD r 0)).map (λr:Nat=>D.int r)=nmD ((af m).filter λr=>ks.contains (rs.getD r 0)):=rfl;rw[e];have d:=db (λr=>ks.contains (rs.getD r 0)) (af m);rw[cM]at d;refine⟨d3 (by rw[eG];lia),?_⟩;walk_at"w";refine eF (by rw[d2];rfl) ?_;refine⟨_,o',[.lst (nmD ks),.lst (nmD ((af m).filter λr=>ks.contains (rs.getD r 0)))],?_,by rw[D.und];exact fH _,a.und,q ks o' a⟩;rw[<- k];simp
theorem Ar {its:List D}{xs:List D}(h:xs.Sublist its)(f:its.Sublist [.str "came",.str "chalk",.str "doors",.str "others"]):∃e:E4,xs=gx e.1 e.2.1 e.2.2.1 e.2.2.2:=by
 obtain⟨a,b,c,d,e⟩:=Dv (h.trans f);exact⟨(a,b,c,d),e⟩
theorem zU {xs:List D}(h:xs.Sublist [.str "came",.str "chalk",.str "doors"])(he:xs=gx e.1 e.2.1 e.2.2.1 e.2.2.2):e.2.2.2=J:=by
 obtain⟨a,b,c,d⟩:=e;cases d with
 |false=>rfl
 |true=>
  have:D.str "others"∈xs:=by rw[he];unfold gx;simp
  have:=h.subset this;simp at this;exact absurd this (by decide)
theorem KL {its:List D}(b:its.Sublist [.str "came",.str "chalk",.str "doors",.str "others"])(ho:fG o n)(hn:n<=2^45)(g:T.all (Ob.und (T.length+1))=true)
  (h:∀(e:E4) o',(its=[.str "came",.str "chalk",.str "doors"]->e.2.2.2=J)->fG o' (n+4)->Q (eyD e,o'::T)):W (dU 2 hW [.ref 0,.tup its] (o::T)) Q:=by
 have f:its.length<=4:=b.length_le;refine mF O O g ?_;unfold hW;refine jl ?_;unfold nT;walk_at"w";rw[iD];refine B9 ho (by lia) (by decide) (by decide) λxs c j a d=>?_;obtain⟨e,rfl⟩:=Ar d b;have i:=Dw e.1 e.2.1 e.2.2.1 e.2.2.2;refine⟨d3 (by dsimp only;lia),?_⟩;walk_at"w";refine eF (xs:=gx e.1 e.2.1 e.2.2.1 e.2.2.2) (by rw[gC1,d2];rfl) ?_;exact⟨_,c,_,O,mx e,a.und,h e c (λz=>zU (z ▸ d) O) (a.more (by lia))⟩
noncomputable def upM(i:Nat)(k:Ky):Ky:=⟨i,k.x,k.y,k.z,k.w⟩
theorem lO{k:Ky}(h:k.m=0):(upM i k).code e=i*4096+k.code e:=by
 unfold Ky.code upM Ky.xs;dsimp only;rw[h,Nat.zero_mul,bO]
theorem Lh(e:E4):(SG e).Pairwise λa b=>a.code e<b.code e:=by
 obtain⟨a,b,c,d⟩:=e;cases a<;>cases b<;>cases c<;>cases d<;>decide+kernel
theorem Es(e:E4):(SG e).length<=100:=by
 obtain⟨a,b,c,d⟩:=e;cases a<;>cases b<;>cases c<;>cases d<;>decide+kernel
def qM(e:E4)(n:Nat):List Ky:=(af n).flatMap λi=>(SG e).map (upM i)
theorem sw(e:E4)(n:Nat):qM e (n+1)=qM e n++(SG e).map (upM n):=by
 unfold qM;rw[dn,List.flatMap_append];simp
theorem D8(e:E4)(n:Nat):(qM e n).Pairwise λa b=>a.code e<b.code e:=by
 unfold qM;rw[List.pairwise_flatMap];refine⟨λi _=>?_,List.pairwise_lt_range.imp λ{i j} k a g b f=>?_⟩
 ·rw[c5];refine List.Pairwise.imp_of_mem (λ{x y} c d h=>?_) (Lh e);rw[lO (qg c).1,lO (qg d).1];lia
 ·obtain ⟨x,c,rfl⟩:=cc.mp g;obtain ⟨y,d,rfl⟩:=cc.mp f;rw [lO (qg c).1,lO (qg d).1];have h1:x.code e<4096:=by
   have:=ka (qg c).2.1 e;unfold Ky.code;rw[(qg c).1];lia
  lia
theorem qc(e:E4):∀n:Nat,(qM e n).length<=100*n
 |0=>nR1 _
 |n+1=>by
  rw[sw,lA1,lM1];have:=qc e n;have:=Es e;lia
def Lv(hs:List D)(p:Rw):Prop:=∃d h t,p.2 = .tup [.int (d:Nat),h,t]/\d<4000/\h∈hs/\t∈rd
theorem Lv.deed{hs:List D}{p:Rw}(h:Lv hs p)(b:∀x∈hs,x∈rP):mR p.2:=by
 obtain⟨d,x,t,e,h1,h2,a⟩:=h;exact⟨d,x,t,e,h1,b x h2,a⟩
theorem Hl(hn:n<=4000):∀k∈qM e n,k.Ok:=λk a=>by
 obtain⟨i,hi,a⟩:=dv.mp a;obtain⟨x,b,rfl⟩:=cc.mp a;have:=aC.mp hi;have o:=(qg b).2.1;exact⟨by show i<4000;lia,o.x,o.y,o.z,o.w⟩
inductive MJ (T:Sto)(e:E4)(hs:List D)(mo:Nat)(ks:List Ky)(n:Nat):Ev->Sto->Prop
 |mk (o:Ob) (L:List Rw) (G:Sto) (y5 y6 y7:Option D) (ho:fG o n) (h3:(L.map (·.1)).Sublist ks) (h4:∀p∈L,Lv hs p):MJ T e hs mo ks n [some (.ref 0),some (eyD e),some (.tup hs),some (.int (mo:Nat)),some (.ref (T.length+1)),y5,y6,y7] (o::(T ++ .lst (L.map (ge e))::G))
theorem JN{mo:Nat}{G:Sto}{hs:List D}{ks:List Ky}{k:Ky}{C:Option D}(ao:0<hs.length)(I:hs.length<=3)(R:0<mo)(Q:mo<=3)(ho:fG o n)(hn:n<=2^45)(aq:ks.length<=1000)(t:(L.map (·.1)).Sublist ks)(y:∀ p∈L,Lv hs p):
  W (gZ [Z (.ref 0),Z (eyD e),Z (.tup hs),Z (.int (mo:Nat)),Z (.ref (T.length+1)),Z (.int (i:Nat)),Z (k.sg e),C] (o::(T ++ .lst (L.map (ge e))::G))) λp=>p.1 = .nx/\p.2.1[5]?=Z (Z (.int (i:Nat)))/\MJ T e hs mo (ks++[upM i k]) (n+4) p.2.1 p.2.2:=by
 have av:(L.map (ge e)).length<=1000:=by
  have:=t.length_le;rw[lM1]at this ⊢;lia
 unfold gZ;refine ei (λr S=>∃(o':Ob) (x:D) (b:Sto),Lv hs (upM i k,x)/\fG o' (n+3)/\S=o'::(T ++ .lst (L.map (ge e))::b)/\r=[Z (.ref 0),Z (eyD e),Z (.tup hs),Z (.int (mo:Nat)),Z (.ref (T.length+1)),Z (.int (i:Nat)),Z (k.sg e),Z x]) ?_ ?_
 ·walk_at"w";refine fN ho (by lia) (by lia) (by lia) λd g a E=>?_;walk_at"w";refine fN a (by lia) (by lia) (by lia) λm P s H=>?_;refine ip (i:=m) (x:=hs[m]'(by lia)) (gG1 _) ?_;have u:hs[m]'(by lia)∈hs:=bU _;generalize hs[m]'(by lia)=hh at *
  walk_at"w";refine fN s (by lia) (by lia) (by lia) λc A q N=>?_;refine kl (i:=c) (xs:=[.non,.int 0,.int 1,.int 2,.int 3]) (x:=([.non,.int 0,.int 1,.int 2,.int 3]:List D)[c]'(by show c<5;lia)) ?_ (gG1 _) ?_
  ·first
    |(rw[gC1,eZ];simp;done)
    |simp
  have w:([.non,.int 0,.int 1,.int 2,.int 3]:List D)[c]'(by show c<5;lia)∈rd:=bU _;generalize ([.non,.int 0,.int 1,.int 2,.int 3]:List D)[c]'(by show c<5;lia)=tt at *
  refine⟨A,_,G++[.lst [.non,.int 0,.int 1,.int 2,.int 3]],⟨d,hh,tt,O,by lia,u,w⟩,q.more (by lia),?_,O⟩;simp
 rintro r S ⟨o',x,b,B,v,rfl,rfl⟩;have j:∀{l:List Rw},(l.map (·.1)).Sublist ks->(l.map (·.1)).Sublist (ks++[upM i k]):=λh=>h.trans (List.sublist_append_left _ _);walk_at"w";refine fN v (by lia) (by lia) (by lia) λd g a E=>?_;walk_at"w";split
 ·refine jp ?_;walk_at"w";have z:(g::(T++Ob.lst (L.map (ge e))::b))[T.length+1]?=Z (.lst (L.map (ge e))):=by rw[gC1,d2];rfl
  refine⟨T.length+1,_,O,z,?_⟩;refine(lx z).mpr ⟨d3 (by lia),?_⟩;have K:D.tup [.tup [.int (i:Nat),k.sg e],x]=ge e (upM i k,x):=rfl;rw[K];have F:(g::(T++Ob.lst (L.map (ge e))::b)).set (T.length+1) (.lst (L.map (ge e)++[ge e (upM i k,x)]))=g::(T ++ .lst ((L++[(upM i k,x)]).map (ge e))::b):=by
   rw[cO,df _ _ (nR1 _),cQ,c7,cr];rfl
  rw[F];refine⟨g,L++[(upM i k,x)],b,_,_,_,a.more (k:=n+4) (by lia),?_,λp f=>?_⟩
  ·rw[cr];exact t.append (List.Sublist.refl _)
  ·rcases aG.mp f with f|f
   ·exact y p f
   ·rw[cH]at f;subst f;exact B
 ·exact⟨g,L,b,_,_,_,a.more (k:=n+4) (by lia),j t,y⟩
theorem z0{hs:List D}(H:0<hs.length)(F:hs.length<=3)(V:∀ x∈hs,x∈rP)(ho:fG o n)(hn:n<=2^40)(X:T.all (Ob.und (T.length+1))=M)(q:∀L o',Inc e L->(∀p∈L,qh p)->(∀p∈L,Lv hs p)->L.length<=4000->fG o' (n+2000)->Q (mcD e L,o'::T)):W (dU 3 fY [.ref 0,eyD e,.tup hs] (o::T)) Q:=by
 refine mF O O X ?_;unfold fY;refine jl ?_;unfold kg;refine ei (λr S=>∃(u:Ob) (c:Nat),0<c/\c<=3/\fG u (n+1)/\S=u::(T ++ .lst (([]:List Rw).map (ge e))::[])/\r=[Z (.ref 0),Z (eyD e),Z (.tup hs),Z (.int (c:Nat)),Z (.ref (T.length+1)),Y,Y,Y]) ?_ ?_
 ·walk_at"w";refine fN ho (by lia) (by lia) (by lia) λd u l m=>?_;walk_at"w";refine⟨u,d+1,by lia,by lia,l,O,?_⟩
  first|rfl|simp[Int.add_comm]
 rintro r S ⟨u,c,m0,m3,l,rfl,rfl⟩;refine ei (MJ T e hs c (qM e c) (n+1+401*c)) ?_ ?_
 ·walk_at"w";refine⟨eW (by lia),?_⟩;rw[Ra];refine eY (λi r S=>i<=c/\MJ T e hs c (qM e i) (n+1+401*i) r S) (gi 0 c) 0 _ _ ⟨bi _,u,[],[],_,_,_,l,List.Sublist.refl _,λp z=>by cases z⟩ (λ_ _ _ _=>rfl) ?_ ?_
  ·rintro i d m r S ⟨hi,y,L,G,y5,y6,y7,g,v,A⟩;have w:=(Tg m).1;rw[eH]at w;rw[lg,gP1,cE w]at m;cases m;rw[bO]at *
   have av:=qc e i;have wq:=Es e;walk_at"w";unfold jd;walk_at"w";refine BE ?_;rw[iD];refine eY (λt r S=>t<=(SG e).length/\r[5]?=Z (Z (.int (i:Nat)))/\MJ T e hs c (qM e i++((SG e).take t).map (upM i)) (n+1+401*i+4*t) r S) _ 0 _ _ ⟨bi _,O,y,L,G,_,_,_,g,by simpa using v,A⟩ (λ_ _ _ _=>rfl) ?_ ?_
   ·rintro t d m r S ⟨ht,s,o3,L',G',N,R,z7,B,au,U⟩;rw[gP1]at m;obtain⟨k,K,rfl⟩:=Ti m;have I:=(Tg K).1;have E:(SG e).take (t+1)=(SG e).take t++[k]:=by rw[List.take_add_one,K];rfl
    rw[bO]at *
    rw[show([Z (.ref 0),Z (eyD e),Z (.tup hs),Z (.int (c:Nat)),Z (.ref (T.length+1)),N,R,z7]:Ev)[5]?=Z N from rfl]at s;cases s;walk_at"w";refine(JN H F m0 m3 B (by lia) (by rw[lA1,lM1,aR];lia) au U).mono ?_;rintro⟨f,r2,S2⟩ ⟨aq,ao,j⟩;dsimp only at aq ao j ⊢;subst aq;rw[E,cr,<- bG];exact⟨O,by lia,ao,j⟩
   ·rintro r S ⟨ht,s,j⟩;rw[lM1,bO,bY,<- sw]at j;refine⟨O,by lia,?_⟩;obtain⟨P,L4,G4,a5,a6,a7,b1,b2,b3⟩:=j;exact⟨P,L4,G4,_,_,_,b1.more (by lia),b2,b3⟩
  ·rintro r S ⟨hi,j⟩;rw[eH,bO]at j;exact⟨O,j⟩
 rintro r S ⟨y,L,G,y5,y6,y7,g,v,A⟩;have ok:∀p∈L,qh p:=λp z=>⟨Hl (n:=c) (by lia) p.1 (v.subset (cc.mpr ⟨p,z,O⟩)),(A p z).deed V⟩;have C:Inc e L:=List.Pairwise.of_map (S:=λa b:Ky=>a.code e<b.code e) (·.1) (λa b h=>h) ((D8 e c).sublist v);have hl:L.length<=300:=by
  have h1:=v.length_le;have h2:=qc e c;rw[lM1]at h1;lia
 walk_at"w";refine eF (xs:=L.map (ge e)) (by rw[gC1,d2];rfl) ?_;refine⟨mcD e L,y,_,O,yn ok,g.und,q L y C ok A (by lia) (g.more (by lia))⟩
theorem Eh{m:FE}{lo hi:FO}{r:Ev}{S1 S2 S3:Sto}{xs:List D}{a b:Option Int}(hm:m r S=Z (.tup xs,S1))(c:lo r S1=Z (a,S2))(d:hi r S2=Z (b,S3))(q:Q (.tup (Mi.mD xs a b),S3)):W (kT m lo hi r S) Q:=by
 refine W.of ?_ q;unfold kT;rw[hm,oS1];dsimp only;rw[c,oS1];dsimp only;rw[d,oS1];simp only[sL,iQ,oP1];rfl
theorem Ou(xs:List D)(k:Nat):Mi.mD xs (Z (k:Int)) Y=xs.drop k:=by
 unfold Mi.mD;rw[HT.uG,HT.xV];by_cases h:k<=xs.length
 ·rw[bA h,cm (by simp)]
 ·rw[Nat.min_eq_right (by lia),List.drop_length,List.drop_of_length_le (by lia)];simp
inductive WL (T:Sto)(m n:Nat)(w:dV)(rs:List Nat)(i:Nat):Ev->Sto->Prop
 |mk (o:Ob) (G:Sto) (sm:List Nat) (x3 x4 x6:Option D) (ho:fG o (n+3+2*i)) (h0:∀x∈sm,x<m) (hl:sm.length<=2+i) (hi:i<=2):WL T m n w rs i [some (.ref 0),some (webD w),some (.tup (nmD rs)),x3,x4,some (.ref (T.length+G.length+1)),x6] (o::(T++(G++[.lst (nmD sm)])))
theorem zn{w:dV}(hw:w.length=m)(hm0:0<m)(hm:m<=8)(hrs:rs.length=m)(ho:fG o n)(hn:n<=2^40)(hT:T.all (Ob.und (T.length+1))=M)(q:∀(ws F:List Nat) o',(∀x∈F,x∈ws)->F.Pairwise (· <= ·)->ws.Pairwise (· < ·)->(∀x∈ws,x<m)->ws.length<=8->F.length<=2->fG o' (n+10)->Q (.tup [.tup (nmD ws),.tup (nmD F)],o'::T)):W (dU 3 fX [.ref 0,webD w,.tup (nmD rs)] (o::T)) Q:=by
 refine mF O O hT ?_;unfold fX;refine jl ?_;unfold kd;refine ei (λr S=>∃(o':Ob) (one:Nat),one<m/\fG o' (n+1)/\S=o'::T/\r=[Z (.ref 0),Z (webD w),Z (.tup (nmD rs)),Z (.int (one:Nat)),Y,Y,Y]) ?_ ?_
 ·wp_walk using kJ,hw
  refine fN ho (by lia) (by lia) (by lia) λd B E av=>?_;walk_at"w";exact⟨B,d,by lia,E,O,O⟩
 rintro r S ⟨B,one,X,E,rfl,rfl⟩;refine ei (λr S=>∃(j:List Nat),(∀x∈j,x<m)/\j.length<=8/\S=B::(T++[.lst (nmD j)])/\r=[Z (.ref 0),Z (webD w),Z (.tup (nmD rs)),Z (.int (one:Nat)),Z (.ref (T.length+1)),Y,Y]) ?_ ?_
 ·wp_walk using kJ,hw
  refine⟨eW (by lia),?_⟩;rw[Ra,lg];refine iV (f:=λi:Nat=>D.int i) (λx=>(!((x:Int) == (one:Int)))&&((rs.getD x 0:Nat):Int) == ((rs.getD one 0:Nat):Int)) (λr:Nat=>D.int r) (λr=>∃x,r=[x,Z (.int (one:Nat)),Z (.tup (nmD rs))]) O (af m) _ ⟨_,O⟩ ?_ λr' _=>?_
  ·rintro i hi r ⟨x,rfl⟩;have hi:=aC.mp hi;walk_at"w";cases h: !((i:Int) == (one:Int))with
   |false=>
    rw[aj (by decide)];exact⟨O,⟨_,O⟩,λz=>trivial⟩
   |true=>
    rw[ak O];refine v3 (by lia) ?_;refine v3 (by lia) ?_;walk_at"w";exact⟨O,⟨_,O⟩,λ_=>trivial⟩
  ·generalize hk:(λx:Nat=>(!((x:Int) == (one:Int)))&&((rs.getD x 0:Nat):Int) == ((rs.getD one 0:Nat):Int))=kf;have e:((af m).filter kf).map (λr:Nat=>D.int r)=nmD ((af m).filter kf):=rfl;rw[e];have hl:=db kf (af m);rw[cM]at hl;refine⟨d3 (by rw[eG];lia),?_⟩;walk_at"w";exact⟨_,λx t=>aC.mp (aB.mp t).1,by lia,O,trivial⟩
 rintro r S ⟨j,htw,htl,rfl,rfl⟩;refine ei (WL T m n w rs 0) ?_ ?_
 ·walk_at"w";have g1:(B::(T++[Ob.lst (nmD j),.lst [.int (one:Nat)],.lst []]))[T.length+1]?=Z (.lst (nmD j)):=by rw[gC1,d2];rfl
  have g3:(B::(T++[Ob.lst (nmD j),.lst [.int (one:Nat)],.lst []]))[T.length+3]?=Z (.lst []):=by rw[gC1,eZ];rfl
  have en:=yH g1 g3;refine W.of en ?_;dsimp only;have P:∀(C:Ob) (l:List Nat),l.length<=1->(∀x∈l,x<m)->fG C (n+2)->fits (nmD l).length=M/\W (gj (.ref (T.length+2)) (.ref (C::(T++[Ob.lst (nmD j),.lst [.int (one:Nat)],.lst []])).length) ((C::(T++[Ob.lst (nmD j),.lst [.int (one:Nat)],.lst []]))++[Ob.lst (nmD l)])) λx=>WL T m n w rs 0 [Z (.ref 0),Z (webD w),Z (.tup (nmD rs)),Z (.int (one:Nat)),Z (.ref (T.length+1)),Z x.1,Y] x.2:=by
   intro C l U y ao;refine⟨d3 (by rw[eG];lia),?_⟩;refine(Eo (xs:=nmD [one]) (ys:=nmD l) ?_ (by rw[d2];rfl)).mpr ⟨d3 (by rw[eG,eG];simp;lia),?_⟩
   ·rw[bj,gC1,bG,eZ];rfl
   have e1:nmD [one]++nmD l=nmD (one::l):=rfl;have e2:C::(T++[Ob.lst (nmD j),.lst [.int (one:Nat)],.lst []])++[Ob.lst (nmD l)]++[Ob.lst (nmD [one]++nmD l)]=C::(T++([Ob.lst (nmD j),.lst [.int (one:Nat)],.lst [],.lst (nmD l)]++[.lst (nmD (one::l))])):=by rw[e1];simp
   have e3:(C::(T++[Ob.lst (nmD j),.lst [.int (one:Nat)],.lst []])++[Ob.lst (nmD l)]).length=T.length+[Ob.lst (nmD j),.lst [.int (one:Nat)],.lst [],.lst (nmD l)].length+1:=by simp
   rw[e2,e3];refine⟨C,_,one::l,_,_,_,ao.more (by lia),λx t=>?_,by rw[lC1];lia,by lia⟩;rcases aF.mp t with rfl|t
   ·exact X
   ·exact y x t
  generalize hV:(T++[Ob.lst (nmD j),.lst [.int (one:Nat)],.lst []])=V at *
  cases j with
  |nil=>
   rw[d7];show yY 0=M/\_;refine⟨eW (n:=0) (by lia),?_⟩;show W (fS _ _ _ _ [] _ (B::V)) _;rw[fS];dsimp only;rw[ak (show qj (B::V) []=M from rfl),d7];exact P B [] (by simp) (λx t=>by cases t) (E.more (by lia))
  |cons t0 j=>
   rw[d7];show yY 1=M/\_;refine⟨eW (n:=1) (by lia),?_⟩;show W (fS _ _ _ _ (gi 0 1) _ (B::V)) _;refine iS (λi R r S=>∃(o':Ob) (l:List Nat) (x:Option D),l.length<=i/\i<=1/\(∀x∈l,x<m)/\fG o' (n+1+i)/\R=nmD l/\S=o'::V/\r=[x,Z (.ref (T.length+1)),Z (.ref 0)]) (gi 0 1) 0 [] _ _ ⟨B,[],_,nR1 _,by lia,λx t=>(by cases t),E,O,O,O⟩ (λ_ _ _ _ _=>rfl) ?_ ?_
   ·rintro i d av R r S ⟨o',l,x,U,hi1,y,aq,rfl,rfl,rfl⟩;have L:=(Tg av).1;rw[eH]at L;rw[bO]at *
    have gt:∀A:Ob,(A::V)[T.length+1]?=Z (.lst (nmD (t0::j))):=λA=>by rw[<- g1];rfl
    walk_at"w";refine eF (gt o') ?_;refine fN aq (by lia) (by rw[eG,lC1];lia) (by rw[eG];lia) λd wq I av=>?_;rw[eG]at av;refine kl (i:=d) (xs:=nmD (t0::j)) (x:=.int ((t0::j)[d]'(by lia):Nat)) (gt wq) (by rw[nmD,gP1,gG1 (by lia)];rfl) ?_;refine⟨wq,l++[(t0::j)[d]'(by lia)],_,by rw[lA1];simp;lia,by lia,λx t=>?_,I.more (by lia),by rw[ot],O,O⟩;rcases aG.mp t with h|h
    ·exact y x h
    ·rw[cH]at h;subst h;exact htw _ (bU _)
   ·rintro xs r S ⟨o',l,x,U,hi1,y,aq,e,rfl,rfl⟩;rw[cY]at e;subst e;rw[eH]at *
    exact P o' l (by lia) y (aq.more (by lia))
 rintro r S ⟨C,G,g,x3,x4,x6,ao,h0,hl,_⟩;refine ei (λr S=>∃i,WL T m n w rs i r S) ?_ ?_
 ·walk_at"w";refine fN ao (by lia) (by lia) (by lia) λd wq I av=>?_;refine⟨eW (by lia),?_⟩;rw[Ra];have hd2:d<=2:=by lia
  refine eY (λi r S=>i<=d /\ ∃(o:Ob) (g:List Nat) (x6:Option D),fG o (n+4+i)/\(∀x∈g,x<m)/\g.length<=2+i/\S=o::(T++(G++[.lst (nmD g)]))/\r=[Z (.ref 0),Z (webD w),Z (.tup (nmD rs)),x3,x4,Z (.ref (T.length+G.length+1)),x6]) (gi 0 d) 0 _ _ ⟨bi _,wq,g,_,I.more (by lia),h0,hl,O,O⟩ (λ_ _ _ _=>rfl) ?_ ?_
  ·rintro i dd hdd r S ⟨hi,v,s,y6,u,h4,hl4,rfl,rfl⟩;have L:=(Tg hdd).1;rw[eH]at L;rw[bO]at *
   walk_at"w";unfold jc;unfold fR;rw[dY];refine jp ?_;walk_at"w";have K:∀A:Ob,(A::(T++(G++[Ob.lst (nmD s)])))[T.length+G.length+1]?=Z (.lst (nmD s)):=λA=>by rw[gC1,eZ,d2];rfl
   refine⟨T.length+G.length+1,nmD s,O,K v,?_⟩
   wp_walk using kJ,hw
   refine fN u (by lia) (by lia) (by lia) λc au ho5 hc=>?_;refine(lx (K au)).mpr ⟨d3 (by rw[eG];lia),?_⟩;have e2:(au::(T++(G++[Ob.lst (nmD s)]))).set (T.length+G.length+1) (.lst (nmD s++[.int (c:Nat)]))=au::(T++(G++[.lst (nmD (s++[c]))])):=by
    rw[cO,df _ _ (by lia),show T.length+G.length-T.length=G.length by lia,df _ _ (nR1 _),cQ,c7,ot]
   rw[e2];refine⟨by lia,au,s++[c],_,ho5.more (by lia),λx t=>?_,by rw[lA1];simp;lia,O,O⟩;rcases aG.mp t with h|h
   ·exact h4 x h
   ·rw[cH]at h;subst h;lia
  ·rintro r S ⟨hi,v,s,y6,u,h4,hl4,rfl,rfl⟩;rw[eH,bO]at *
   exact⟨O,2,v,G,s,_,_,_,u.more (by lia),h4,by lia,by lia⟩
 rintro r S ⟨i,v,G,g,x3,x4,x6,u,h0,hl,hi⟩;have K:(v::(T++(G++[Ob.lst (nmD g)])))[T.length+G.length+1]?=Z (.lst (nmD g)):=by rw[gC1,eZ,d2];rfl
 have hlen:(v::(T++(G++[Ob.lst (nmD g)]))).length=T.length+G.length+2:=by simp;lia
 have eV:v::(T++(G++[Ob.lst (nmD g)]))=v::(T++(G++[Ob.lst (nmD g)])):=rfl;generalize hV:v::(T++(G++[Ob.lst (nmD g)]))=V at K;have sl:∀N,N[T.length+G.length+1]?=Z (.lst (nmD g))->W (kT (mV 5) jf (jE (mC (D.int 2))) [Z (.ref 0),Z (webD w),Z (.tup (nmD rs)),x3,x4,Z (.ref (T.length+G.length+1)),x6] N) λp=>p=(.ref N.length,N++[.lst (nmD (g.take 2))]):=λN h=>Nb (n:=T.length+G.length+1) (k:=2) O O h (by rw[nmD,nmD,List.map_take]);walk_at"w";refine sx (xs:=g) (m:=m) (f:=λr=>g.contains r) K (λr=>⟨λh=>⟨h0 r h,by rw[cT];exact h⟩,λh=>by rw[<- cT];exact h.2⟩) (by lia) ?_;walk_at"w";refine eF (by rw[d2];rfl) ?_;generalize H:(af m).filter (λr=>g.contains r)=ws at *
 have gs':(V++[Ob.lst (nmD ws)])[T.length+G.length+1]?=Z (.lst (nmD g)):=by rw[gL1 (Tg K).1];exact K
 refine(sl _ gs').mono ?_;rintro p rfl;dsimp only;refine Hq (xs:=g.take 2) (by rw[d2];rfl) (by rw[aR];lia) ?_;walk_at"w";refine eF (xs:=nmD (kZ (g.take 2))) (by first|(rw[d2];rfl)|simp) ?_;have hp:=ww (g.take 2);have hl2:(kZ (g.take 2)).length<=2:=by rw[hp.length_eq,aR];lia
 have hwl:ws.length<=8:=by
  have:=db (λr=>g.contains r) (af m);rw[H,cM]at this;lia
 refine⟨.tup [.tup (nmD ws),.tup (nmD (kZ (g.take 2)))],v,G++[Ob.lst (nmD g),.lst (nmD ws),.lst (nmD (g.take 2)),.lst (nmD (kZ (g.take 2)))],?_,?_,u.und,q ws (kZ (g.take 2)) v (λx t=>?_) ?_ ?_ (λx t=>?_) hwl hl2 (u.more (by lia))⟩
 ·rw[<- hV];simp
 ·simp[D.und,D.unds,fH]
 ·have h1:=cN (hp.mem_iff.mp t);rw[<- H];exact aB.mpr ⟨aC.mpr (h0 x h1),by rw[cT];exact h1⟩
 ·unfold kZ;rw[c5];exact(i6 _).imp λ{a b} h=>by lia
 ·rw[<- H];exact List.pairwise_lt_range.filter _
 ·rw[<- H]at t;exact aC.mp (aB.mp t).1
theorem yS{S:Sto}{n p:Nat}:∀ws:List Nat,qz (jm S (n+1)) (.int (p:Nat)) (nmD ws)=Z (ws.map λa=>a == p)
 |[]=>rfl
 |a::ws=>by
  have b:jm S (n+1) (.int (a:Nat)) (.int (p:Nat))=Z ((a:Int) == (p:Int)):=rfl;have c:((a:Int) == (p:Int))=(a == p):=by rw[bS,SV,SV];lia
  show qz (jm S (n+1)) _ (.int (a:Nat)::nmD ws)=_;rw[qz,b,oS1,yS ws,c];rfl
theorem HR{p:Nat}:∀{ws:List Nat},p∈ws->(ws.map λa=>a == p).findIdx? id=Z (ws.idxOf p)
 |a::ws,h=>by
  rw[mP1,List.findIdx?_cons,List.idxOf_cons];by_cases e:a=p
  ·subst e;simp
  ·have b:(a == p)=J:=by simpa using e
   rcases aF.mp h with h|h
   ·exact absurd h.symm e
   ·rw[b,HR h];simp
theorem uj{p:Nat}{m:FE}{a:FA}{r:Ev}{S1 S2:Sto}(hm:m r S=Z (.tup (nmD ws),S1))(ha:a r S1=Z ([.int (p:Nat)],S2))(hp:p∈ws)(q:Q (.int (ws.idxOf p:Nat),S2)):W (qv (b2 j4) m a r S) Q:=by
 refine W.of ?_ q;unfold qv;rw[hm,oS1];dsimp only;rw[ha,oS1];show j4 (.tup (nmD ws)) (.int (p:Nat)) S2=_;unfold j4;dsimp only;rw[show eu=59+1 from rfl,yS,oS1,HR hp];rfl
theorem pG{p:Nat}(hp:p∈ws):ws[ws.idxOf p]?=Z p:=by
 have h:=dw hp;rw[gG1 h,dy]
theorem KG(hw:ws.Pairwise (· < ·))(ha:a∈ws)(hb:b∈ws)(h:a<b):ws.idxOf a<ws.idxOf b:=by
 have d:=dw ha;have e:=dw hb;refine Nat.lt_of_not_le λz=>?_;have c:ws[ws.idxOf a]=a:=dy d;have eb:ws[ws.idxOf b]=b:=dy e;rcases Nat.lt_or_eq_of_le z with z|z
 ·have:=ci.mp hw _ _ e d z;rw[c,eb]at this;lia
 ·have:a=b:=by rw[<- c,<- eb];simp[z]
  lia
theorem Bw{w:dV}{ws:List Wk}(h:Lve L)(hc:cs=(af m).filter λr=>cs.contains r):∃a,stepL m w e L (ws,cs)=(a,cs):=⟨_,Prod.ext O (DS h hc)⟩
theorem JU{w:dV}{ws:List Wk}{X:Sto}{y z:Option D}{n l r s:Option D}{Q:Fl×Ev×Sto->Prop}{c:List Nat}(hw:mM m w ws cs)(h:Np rs ws i j)(g:Inc e L)(ok:∀ p∈L,qh p)(F:L.length<=4000)(q:∀k d,Q (.nx,[n,some (webD w),some (eP c cs),l,r,some (mcD e L),some (Ex (stepL m w e L (ws,cs))),some (.int (i:Nat)),some (.int (j:Nat)),s,k,d],o::X)):
  W (iG [n,Z (webD w),Z (eP c cs),l,r,Z (mcD e L),Z (Ex (ws,cs)),Z (.int (i:Nat)),Z (.int (j:Nat)),s,y,z] (o::X)) Q:=by
 obtain⟨u,v,f,B,A,ao,h2⟩:=h.ex;have t:=Ho (a:=(ws,cs)) h;have C:∀S,dW (Ex (ws,cs)) (.int 0) S=Z (.tup (fE ws),S):=λS=>rfl;have I:∀S,dW (Ex (ws,cs)) (.int 1) S=Z (.tup (nmD cs),S):=λS=>rfl;unfold iG
 wp_walk using C
 refine ip (x:=gJ u) (by rw[fE,gP1,f];rfl) ?_;refine ip (x:=gJ v) (by rw[fE,gP1,B];rfl) ?_;refine GG (a:=(ws,cs)) (λz=>?_) (aD hw.few (by decide)) ?_
 ·dsimp only at z;rw[z]at f;cases f
 rw[t]
 wp_walk using tO
 rw[aj (λz=>A (by have:=SV.mp z;lia))];refine Eh (xs:=nmD [u.1,u.2.1,u.2.2]) (a:=Z (1:Nat)) (b:=Y) O O O ?_;refine Eh (xs:=nmD [v.1,v.2.1,v.2.2]) (a:=Z (1:Nat)) (b:=Y) O O O ?_;have H:∀x y z:Nat,Mi.mD (nmD [x,y,z]) (Z ((1:Nat):Int)) Y=nmD [y,z]:=λx y z=>by rw[Ou];rfl
 have G:∀S,wV (.tup (nmD [u.2.1,u.2.2])) (.tup (nmD [v.2.1,v.2.2])) S=Z (.bl J,S):=λS=>by rw[CA,h2,mT O];rfl
 have E:∀S,wV (.tup (nmD cs)) (.tup (nmD cs)) S=Z (.bl J,S):=λS=>by rw[CA,mT O];rfl
 wp_walk using H,G,I,IB,E
 refine K7 hw g ok F ?_;exact q _ _
theorem Fj{w:dV}(C:AW m w rs)(hm0:0<m)(hm:m<=8)(hk:mQ m rs cs)(hc:cs=(af m).filter λr=>cs.contains r)(st:Er m ws cs)(ha:a∈ws)(hb:b∈ws)(l:a<b)(hr:rs.getD a 0=rs.getD b 0)(ho:fG o n)(hn:n<=2^39)(V:T.all (Ob.und (T.length+1))=M)(q:∀o',fG o' (n+3000)->Q (.bl M,o'::T)):W (dU 4 fI [.ref 0,webD w,eP ws cs,.tup (nmD [a,b])] (o::T)) Q:=by
 have hl2:2<=ws.length:=by
  have la:=dw ha;have lb:=dw hb;refine a0 λz=>?_;have ea:ws[ws.idxOf a]=a:=dy la;have eb:ws[ws.idxOf b]=b:=dy lb;have:ws.idxOf a=ws.idxOf b:=by lia
  have:a=b:=by rw[<- ea,<- eb];simp[this]
  lia
 have K:ws.idxOf a≠ws.idxOf b:=λz=>by
  have v:=pG ha;rw[z,pG hb]at v;cases v;exact aA _ l
 refine mF O O V ?_;unfold fI;refine jl ?_;unfold mH;generalize aq:T++[Ob.lst [.int 4,.int 3]]=X;have u:X.all (Ob.und (X.length+1))=M:=by rw[<- aq];exact Na V O
 refine ei (λr S=>∃c:List D,c.Sublist [.str "came",.str "chalk",.str "doors",.str "others"]/\(2<ws.length->c=[.str "came",.str "chalk",.str "doors"])/\S=o::X/\r=[Z (.ref 0),Z (webD w),Z (eP ws cs),Z (.tup (nmD [a,b])),Z (.tup c),Y,Y,Y,Y,Y,Y,Y]) ?_ ?_
 ·generalize av:(ic 12 [.ref 0,webD w,eP ws cs,.tup (nmD [a,b])]:Ev)=R;have A:∃ k:Nat,(k=4\/k=3)/\(2<ws.length->k=3)/\W (m2 (b2 dW) (hZ (dR (mC (.int 4)) (dR (mC (.int 3)) dS))) (mN (b1 pI) (dR (m2 (b2 (jA fun i j=>decide (j<i))) (mN (b1 eM) (dR (m2 (b2 dW) (mV 2) (mC (.int 0))) dS)) (mC (.int 2))) dS)) R (o::T)) fun p=>p=(.int (k:Nat),o::X):=by
   rw[<- av,<- aq];by_cases h:2<ws.length
   ·refine⟨3,.inr O,λ_=>rfl,?_⟩
    wp_walk using Bx,eG
    rw[ah (show(2:Int)<(ws.length:Nat) by lia)];exact kl (i:=1) (xs:=[.int 4,.int 3]) (by rw[gC1,d2];rfl) O O
   ·refine⟨4,.inl O,λz=>absurd z h,?_⟩
    wp_walk using Bx,eG
    rw[ai (show¬ (2:Int)<(ws.length:Nat) by lia)];exact kl (i:=0) (xs:=[.int 4,.int 3]) (by rw[gC1,d2];rfl) O O
  obtain⟨k,k1,k2,_,e,rfl⟩:=A;unfold d4;rw[dY];refine Eh (S1:=o::T) (S2:=o::T) (S3:=o::X) (xs:=[.str "came",.str "chalk",.str "doors",.str "others"]) (a:=Y) (b:=Z (k:Int)) O O ?_ ?_
  ·unfold jE;rw[e];rfl
  rw[MZ,<- av];walk_at"w";refine⟨_,aU k _,λz=>?_,O⟩;rw[k2 z];rfl
 rintro r S ⟨c,N,E,rfl,rfl⟩;walk_at"w";refine KL N ho (by lia) u λe o1 he B=>?_;dsimp only;refine z0 (hs:=[.str "leave"]) (by decide) (by decide) (λx P=>by rw[cH]at P;subst P;exact mS1) B (by lia) u λL y G ok hh hLl s=>?_;dsimp only;have lv:Lve L:=λp hp=>by
  obtain⟨d,h,t,v,_,wq,_⟩:=hh p hp;rw[cH]at wq;rw[v,wq];rfl
 have H:e.2.2.2=J\/ws.length=2:=by
  by_cases z:2<ws.length
  ·exact .inl (he (E z))
  ·exact .inr (by lia)
 refine Hg (aD st.few (by decide)) ?_;dsimp only;refine uj (ws:=ws) (p:=a) O O ha ?_;dsimp only;refine uj (ws:=ws) (p:=b) O O hb ?_;dsimp only;refine⟨eW (n:=40) (by lia),?_⟩;rw[show(Int.toNat 40)=40 from rfl];refine eY (λ_ r S=>∃(ks:List Wk) (I g f:Option D),mM m w ks cs/\ks.length=ws.length/\Np rs ks (ws.idxOf a) (ws.idxOf b)/\S=y::X/\r=[Z (.ref 0),Z (webD w),Z (eP ws cs),Z (.tup (nmD [a,b])),Z (.tup c),Z (mcD e L),Z (Ex (ks,cs)),Z (.int (ws.idxOf a:Nat)),Z (.int (ws.idxOf b:Nat)),I,g,f]) (gi 0 40) 0 _ _ ⟨(qL ws cs).1,_,_,_,Hi C.web.ok hm st,by show(ws.map _).length=_;rw[lM1],⟨(a,0,0),(b,0,0),?_,?_,nN1 l,hr,O⟩,O,O⟩ (λ_ _ _ _=>rfl) ?_ ?_
 ·show(ws.map _)[_]?=_;rw[gP1,pG ha];rfl
 ·show(ws.map _)[_]?=_;rw[gP1,pG hb];rfl
 ·rintro i d hd r S ⟨ks,I,g,f,h1,h2,F,rfl,rfl⟩;walk_at"w";refine JU h1 F G ok (by lia) λy10 y11=>?_;obtain⟨ao,e'⟩:=Bw (m:=m) (w:=w) (ws:=ks) (e:=e) lv hc;have g1:=h1.stepL (e:=e) (L:=L) (a:=(ks,cs)) ok;have U:=Ea (e:=e) (L:=L) C h1 hk (H.imp id λz=>h2.trans z) K F;have au:(stepL m w e L (ks,cs)).1.length=ks.length:=by show(ks.map _).length=_;rw[lM1]
  rw[e']at g1 U au ⊢;exact⟨O,ao,_,_,_,g1,au.trans h2,U,O,O⟩
 ·rintro r S ⟨ks,I,g,f,h1,h2,F,rfl,rfl⟩;walk_at"w";exact⟨_,y,[.lst [.int 4,.int 3]],by rw[aq],O,s.und,q y (s.more (by lia))⟩
noncomputable def abv(m:Nat)(rs ks:List Nat):List Nat:=(af m).filter λr=>ks.contains (rs.getD r 0)
theorem xk(h:r<m):(abv m rs ks).contains r=ks.contains (rs.getD r 0):=by
 rw[bS,cT];unfold abv;rw[aB];exact⟨λz=>z.2,λz=>⟨aC.mpr h,z⟩⟩
theorem Ed:mQ m rs (abv m rs ks):=λi j hi a e=>by rw[xk hi,xk a,e]
theorem Eb:abv m rs ks=(af m).filter λr=>(abv m rs ks).contains r:=by
 conv=>lhs;unfold abv
 exact List.filter_congr λr a=>(xk (aC.mp a)).symm
theorem Ec(hm:m<=8):(abv m rs ks).length<=8 /\ ∀r∈abv m rs ks,r<m:=by
 refine⟨?_,λr a=>aC.mp (aB.mp a).1⟩;have:=db (λr=>ks.contains (rs.getD r 0)) (af m);rw[cM]at this;exact aD this hm
theorem BX{w:dV}{r:Ev}{Q:Bool×Sto->Prop}(C:AW m w rs)(k:0<m)(hm:m<=8)(hk:mQ m rs cs)(hc:cs=(af m).filter λr=>cs.contains r)(st:Er m ws cs)(ha:a∈ws)(hb:b∈ws)(j:a<b)(hr:rs.getD a 0=rs.getD b 0)(ho:fG o n)(hn:n<=2^38)(s:T.all (Ob.und (T.length+1))=M)(l:vn 1 [2,4,8,7] r=[Y,Z (.ref 0),Z (webD w),Z (eP ws cs),Z (.tup (nmD [a,b]))])(q:∀o' xs,fG o' (n+9000)->(∀x∈xs,x=D.bl M)->Q (J,o'::(T++[.lst xs]))):W (nZ (wb (mN (b1 qy) (dR (eK 1 [2,4,8,7] (oa (dR (mC (.int 3)) dS)) (gN 0) fm (eB (mN (dU 4 fI) (dR (mV 1) (dR (mV 2) (dR (mV 3) (dR (mV 4) dS))))))) dS))) r (o::T)) Q:=by
 simp only[nZ,wb,mN,dR,dS,dY,d7,b1,mO,Em,mC,Lq,oS1];rw[l];refine⟨eW (n:=3) (by lia),?_⟩;rw[show(Int.toNat 3)=3 from rfl];refine iS (λi f r S=>∃(o':Ob) (x:Option D),i<=3/\f=aP i (D.bl M)/\fG o' (n+3000*i)/\S=o'::T/\r=[x,Z (.ref 0),Z (webD w),Z (eP ws cs),Z (.tup (nmD [a,b]))]) (gi 0 3) 0 [] _ _ ⟨o,_,by lia,O,ho,O,O⟩ (λ_ _ _ _ _=>rfl) ?_ ?_
 ·rintro i d t f r S ⟨o',x,hi,rfl,c,rfl,rfl⟩;have h:=(Tg t).1;rw[eH]at h;rw[bO]at *
  walk_at"w";refine Fj C k hm hk hc st ha hb j hr c (by lia) s λp g=>?_;exact⟨p,_,by lia,by rw[List.replicate_succ'],g.more (by lia),O,O⟩
 ·rintro xs r S ⟨o',x,_,e,c,rfl,rfl⟩;rw[cY]at e;subst e;rw[eH,bO]at *
  refine⟨d3 (by rw[lR1];lia),?_⟩;refine W.of (x:=(.bl M,o'::(T++[.lst (aP 3 (.bl M))]))) ?_ ?_
  ·unfold qy;rw[bj,fP (xs:=aP 3 (D.bl M)) (by rw[lC1,gC1,d2];rfl)];rfl
  ·walk_at"w";exact q o' _ (c.more (by lia)) λx u=>(bD.mp u).2
theorem xJ:∀{xs:List D},(∀x∈xs,x=D.bl M)->D.unds 0 xs=M
 |[],_=>rfl
 |x::xs,h=>by
  rw[D.unds,h x mS1,xJ λy a=>h y (mC1 _ a)];rfl
theorem De{t:FT}{a b:FS}{r:Ev}{S':Sto}{c:Bool}{Q:Fl×Ev×Sto->Prop}(h:W (t r S) λp=>p=(c,S'))(q:W ((if c=M then a else b) r S') Q):W (fC t a b r S) Q:=by
 unfold fC;rw[dY];refine h.mono ?_;rintro p rfl;dsimp only;cases c
 ·rw[aj (by decide)]at q ⊢;exact q
 ·rw[ak O]at q ⊢;exact q
theorem Jo{f:Ob}{w:dV}{i j g N k:Option D}{Q:Fl×Ev×Sto->Prop}(C:AW m w rs)(e:0<m)(hm:m<=8)(hk:mQ m rs cs)(hc:cs=(List.range m).filter fun r=>cs.contains r)(st:Er m ws cs)(L:ws.Pairwise (· < ·))(ha:a∈ws)(hb:b∈ws)(o:a<b)(hr:rs.getD a 0=rs.getD b 0)(t:fG f (n+318))(hn:n<=2^30)(v:T.all (Ob.und (T.length+1))=true)(q:∀o' G P x,fG o' (n+10000)->G.all (Ob.und 0)=true->Q (.nx,[i,j,some (.ref 0),g,some (webD w),some (.tup (nmD rs)),some (.tup (nmD ws)),some (.tup (nmD [a,b])),some (eP ws cs),P,x],o'::(T++G))):
  W ((dZ (d4 (eQ (dR (mC (D.str "alike")) (dR (qv (b2 j4) (mV 6) (dR (m2 (b2 dW) (mV 7) (mC (D.int 0))) dS)) (dR (qv (b2 j4) (mV 6) (dR (m2 (b2 dW) (mV 7) (mC (D.int 1))) dS)) (dR (mV 5) dS))))) (gN 9)) (dZ (d4 (mN (dU 3 kH) (dR (mV 4) (dR (mV 8) (dR (mC (D.bl M)) dS)))) (gN 10)) (dZ (fC (mB (m2 (b2 iw) (mN (dU 4 ed) (dR (mV 4) (dR (mV 8) (dR (mC (D.bl M)) (dR (mV 9) dS))))) (mC (D.bl M)))) (eD (mC (D.bl J))) li) (dZ (fC (mB (m2 (b2 iw) (mN (dU 4 ed) (dR (mV 4) (dR (mV 8) (dR (mC (D.bl J)) (dR (mV 9) dS))))) (mC (D.bl J)))) (eD (mC (D.bl J))) li) (dZ (fC (CW (mB (m2 (b2 wW) (mV 10) (mC D.non))) (mB (m2 (b2 iw) (mN (dU 4 ed) (dR (mV 4) (dR (mV 8) (dR (mC (D.bl M)) (dR (mV 10) dS))))) (mC (D.bl M))))) (eD (mC (D.bl J))) li) (fC (nZ (wb (mN (b1 qy) (dR (eK 1 [2,4,8,7] (oa (dR (mC (D.int 3)) dS)) (gN 0) fm (eB (mN (dU 4 fI) (dR (mV 1) (dR (mV 2) (dR (mV 3) (dR (mV 4) dS))))))) dS)))) (eD (mC (D.bl J))) li)))))) [i,j,Z (.ref 0),g,Z (webD w),Z (.tup (nmD rs)),Z (.tup (nmD ws)),Z (.tup (nmD [a,b])),Z (eP ws cs),N,k] (f::T)) Q:=by
 have l:=st.rs;have U:=st.few;have R:∀S,dW (.tup (nmD [a,b])) (.int 0) S=Z (.int (a:Nat),S):=λS=>rfl;have V:∀S,dW (.tup (nmD [a,b])) (.int 1) S=Z (.int (b:Nat),S):=λS=>rfl;have hi:=KG L ha hb o;have y:=dw hb;have B:∀c∈ws,ws.getD (ws.idxOf c) 0=c:=λc hc=>by rw[bJ,pG hc];rfl
 have h:rs.getD (ws.getD (ws.idxOf a) 0) 0=rs.getD (ws.getD (ws.idxOf b) 0) 0:=by rw[B a ha,B b hb,hr]
 refine ei (λr S=>S=f::T/\r=[i,j,Z (.ref 0),g,Z (webD w),Z (.tup (nmD rs)),Z (.tup (nmD ws)),Z (.tup (nmD [a,b])),Z (eP ws cs),Z (alD (ws.idxOf a) (ws.idxOf b) rs),k]) ?_ ?_
 ·walk_at"w";refine uj (ws:=ws) (p:=a) O O ha ?_;walk_at"w";refine uj (ws:=ws) (p:=b) O O hb ?_;walk_at"w";exact O
 rintro r S ⟨rfl,rfl⟩;refine ei (λr S=>∃d,Nv m w ws cs M d/\S=f::T/\r=[i,j,Z (.ref 0),g,Z (webD w),Z (.tup (nmD rs)),Z (.tup (nmD ws)),Z (.tup (nmD [a,b])),Z (eP ws cs),Z (alD (ws.idxOf a) (ws.idxOf b) rs),Z d]) ?_ ?_
 ·walk_at"w";refine F1 C.web.toWebJ e hm l (by lia) λd s=>?_;exact⟨d,s,O,O⟩
 rintro r S ⟨d,s,rfl,rfl⟩;have av:Fit m w (sgL m ws cs J) (upI rs):=yO C hk;have sh:∀(z:Bool) (Q:D×Sto->Prop),Q (.bl z,f::T)->W (dU 4 ed [webD w,eP ws cs,.bl z,alD (ws.idxOf a) (ws.idxOf b) rs] (f::T)) Q:=λz Q q=>uB C.web.toWebJ e hm C.len av l hi y h q;have u:∀(Q:D×Sto->Prop),Q (.bl M,f::T)->W (dU 4 ed [webD w,eP ws cs,.bl M,d] (f::T)) Q:=λQ q=>by
  rcases Cu C hk l e hi y h s with⟨H,rfl,rfl,hn⟩|⟨p,ao,rfl,b1,b2,b3⟩
  ·exact BH C.web.toWebJ e hm hn q
  ·exact uB C.web.toWebJ e hm mE (vO C.web.toWebJ e) l b1 b2 b3 q
 have K:∀S,wW d .non S=Z (.bl J,S):=λS=>by
  rcases Cu C hk l e hi y h s with⟨H,rfl,rfl,hn⟩|⟨p,ao,rfl,b1,b2,b3⟩<;>rfl
 have E:∀S,iw (.bl M) (.bl M) S=Z (.bl J,S):=λS=>rfl;have aq:∀S,iw (.bl J) (.bl J) S=Z (.bl J,S):=λS=>rfl;refine ei (λr S=>S=f::T/\r=[i,j,Z (.ref 0),g,Z (webD w),Z (.tup (nmD rs)),Z (.tup (nmD ws)),Z (.tup (nmD [a,b])),Z (eP ws cs),Z (alD (ws.idxOf a) (ws.idxOf b) rs),Z d]) ?_ ?_
 ·refine De (c:=J) (S':=f::T) ?_ ?_
  ·walk_at"w";refine sh M _ ?_
   wp_walk using E
  ·rw[aj (by decide)];walk_at"w"
 rintro r S ⟨rfl,rfl⟩;refine ei (λr S=>S=f::T/\r=[i,j,Z (.ref 0),g,Z (webD w),Z (.tup (nmD rs)),Z (.tup (nmD ws)),Z (.tup (nmD [a,b])),Z (eP ws cs),Z (alD (ws.idxOf a) (ws.idxOf b) rs),Z d]) ?_ ?_
 ·refine De (c:=J) (S':=f::T) ?_ ?_
  ·walk_at"w";refine sh J _ ?_
   wp_walk using aq
  ·rw[aj (by decide)];walk_at"w"
 rintro r S ⟨rfl,rfl⟩;refine ei (λr S=>S=f::T/\r=[i,j,Z (.ref 0),g,Z (webD w),Z (.tup (nmD rs)),Z (.tup (nmD ws)),Z (.tup (nmD [a,b])),Z (eP ws cs),Z (alD (ws.idxOf a) (ws.idxOf b) rs),Z d]) ?_ ?_
 ·refine De (c:=J) (S':=f::T) ?_ ?_
  ·wp_walk using K
   refine u _ ?_
   wp_walk using E
  ·rw[aj (by decide)];walk_at"w"
 rintro r S ⟨rfl,rfl⟩;unfold fC;rw[dY];refine BX C e hm hk hc st ha hb o hr t (by lia) v O λF xs A I=>?_;walk_at"w";refine q F [.lst xs] _ _ (A.more (by lia)) ?_;rw[bQ,Ob.und,xJ I];rfl
theorem Km{p t l x4 x5 wq X F s f:Option D}{Q:Fl×Ev×Sto->Prop}(ho:fG o n)(hn:n<=2^30)(hT:T.all (Ob.und 0)=M)(q:∀o' G y4 y5 y6 y7 y8 aq k,fG o' (n+10000)->G.all (Ob.und 0)=M->Q (.nx,[p,t,Z (.ref 0),l,y4,y5,y6,y7,y8,aq,k],o'::(T++G))):W (s0 [p,t,Z (.ref 0),l,x4,x5,wq,X,F,s,f] (o::T)) Q:=by
 have i:T.all (Ob.und (T.length+1))=M:=bB.mpr λx hx=>hR (bi _) (bB.mp hT x hx);unfold s0;refine ei (λr S=>∃(m:Nat) (w:dV) (rs:List Nat) (o':Ob),0<m/\m<=8/\AW m w rs/\fG o' (n+300)/\S=o'::T/\r=[p,t,Z (.ref 0),l,Z (webD w),Z (.tup (nmD rs)),wq,X,F,s,f]) ?_ ?_
 ·walk_at"w";refine DM ho (by lia) i λm w rs o' h1 h2 C h=>?_;walk_at"w";exact⟨m,w,rs,o',h1,h2,C,h,O,O⟩
 rintro r S ⟨m,w,rs,o1,A,u,C,H,rfl,rfl⟩;refine ei (λr S=>∃(ws d:List Nat) (o':Ob),(∀x∈d,x∈ws)/\d.Pairwise (· <= ·)/\ws.Pairwise (· < ·)/\(∀x∈ws,x<m)/\ws.length<=8/\d.length<=2/\fG o' (n+310)/\S=o'::T/\r=[p,t,Z (.ref 0),l,Z (webD w),Z (.tup (nmD rs)),Z (.tup (nmD ws)),Z (.tup (nmD d)),F,s,f]) ?_ ?_
 ·walk_at"w";refine zn C.web.len A u C.len H (by lia) i λws d o' h1 h2 ao y K E h=>?_;walk_at"w";exact⟨ws,d,o',h1,h2,ao,y,K,E,h,O,O⟩
 rintro r S ⟨ws,d,o2,h1,h2,ao,y,K,E,I,rfl,rfl⟩;refine ei (λr S=>∃(ks:List Nat) (o':Ob),fG o' (n+318)/\S=o'::T/\r=[p,t,Z (.ref 0),l,Z (webD w),Z (.tup (nmD rs)),Z (.tup (nmD ws)),Z (.tup (nmD d)),Z (eP ws (abv m rs ks)),s,f]) ?_ ?_
 ·simp(implicitDefEqProofs:=J) only[d4,gN,cO,c7,oS1,dY,d7,true_and,Ek,dR,mV,gC1,c6,mN,dS,lC1,bf,c8,O2,OZ];refine Kw C.web.len u C.len I (by lia) i λks o' h=>?_;walk_at"w";exact⟨ks,o',h,O,O⟩
 rintro r S ⟨ks,B,v,rfl,rfl⟩;have g:∀(S:Sto),Q (.nx,[p,t,Z (.ref 0),l,Z (webD w),Z (.tup (nmD rs)),Z (.tup (nmD ws)),Z (.tup (nmD d)),Z (eP ws (abv m rs ks)),s,f],B::T):=λ_=>by
  have:=q B [] (Z (webD w)) (Z (.tup (nmD rs))) (Z (.tup (nmD ws))) (Z (.tup (nmD d))) (Z (eP ws (abv m rs ks))) s f (v.more (by lia)) O;rw[aN]at this;exact this
 generalize j:abv m rs ks=cs at *
 have hk:mQ m rs cs:=j ▸ Ed;have hc:cs=(af m).filter λr=>cs.contains r:=j ▸ Eb;have st:Er m ws cs:=⟨K,j ▸ (Ec u).1,y,j ▸ (Ec u).2⟩
 match d,E with
 |[],_=>
  wp_walk using eG
  exact g T
 |[a],_=>
  wp_walk using eG
  exact g T
 |[a,b],_=>
  have P:a∈ws:=h1 a (by simp);have au:b∈ws:=h1 b (by simp);have U:∀S,dW (.tup (nmD [a,b])) (.int 0) S=Z (.int (a:Nat),S):=λS=>rfl;have g1:∀S,dW (.tup (nmD [a,b])) (.int 1) S=Z (.int (b:Nat),S):=λS=>rfl;have av:∀S,dW (.tup (nmD rs)) (.int (a:Nat)) S=Z (.int (rs.getD a 0:Nat),S):=λS=>zi (by rw[C.len];exact y a P);have gb:∀S,dW (.tup (nmD rs)) (.int (b:Nat)) S=Z (.int (rs.getD b 0:Nat),S):=λS=>zi (by rw[C.len];exact y b au);by_cases V:a≠b/\rs.getD a 0=rs.getD b 0
  ·obtain ⟨hab,R⟩:=V;have L:a<b:=by
    have:=List.rel_of_pairwise_cons h2 (a':=b) (by simp);lia
   refine De (c:=M) (S':=B::T) ?_ ?_
   ·wp_walk using U,g1,av,gb,eG
    have N:((a:Int) == (b:Int))=J:=by rw[S6];lia
    rw[N,R];simp only[Sa,cI,Rf];exact trivial
   rw[ak O];exact Jo C A u hk hc st ao P au L R v hn i λo' G aq k=>q o' G _ _ _ _ _ aq k
  ·refine De (c:=J) (S':=B::T) ?_ ?_
   ·wp_walk using U,g1,av,gb,eG
    by_cases e:a=b
    ·subst e;simp
    ·have N:((a:Int) == (b:Int))=J:=by rw[S6];lia
     have e2:(((rs.getD a 0:Nat):Int) == ((rs.getD b 0:Nat):Int))=J:=by rw[S6];exact λz=>V ⟨e,by lia⟩
     rw[N,e2];simp
   ·rw[aj (by decide)];walk_at"w";exact g T
inductive TB (N:D)(k:Int)(i:Nat):Ev->Sto->Prop
 |mk (o:Ob) (G:Sto) (x4 x5 x6 x7 x8 x9 x10:Option D) (hi:i<=2) (ho:fG o (10000*i)) (hG:G.all (Ob.und 0)=true) (x3:Option D):TB N k i [some N,some (.int k),some (.ref 0),x3,x4,x5,x6,x7,x8,x9,x10] (o::G)
theorem Iu(ns:List Int)(k:Int)(A:0<=k)(hk:k<63):W (sZ [Z (.rol (ns.map D.int)),Z (.int k),Y,Y,Y,Y,Y,Y,Y,Y,Y] []) λp=>p.1 = .nx /\ ∃l,p.2.1=Z (.rol (ns.map D.int))::l/\l.length=10:=by
 unfold sZ;generalize y:D.rol (ns.map D.int)=N;refine ei (λr S=>∃o,fG o 0/\S=[o]/\r=[Z N,Z (.int k),Z (.ref 0),Y,Y,Y,Y,Y,Y,Y,Y]) ?_ ?_
 ·obtain⟨o,e,g⟩:=GN ns k A hk;rw[y]at e
  wp_walk using e
  exact⟨o,g,O,trivial⟩
 rintro r S ⟨o,g,rfl,rfl⟩;walk_at"w";refine⟨eW (n:=2) (by lia),?_⟩;rw[show((2:Int).toNat)=2 from rfl];refine eY (TB N k) (gi 0 2) 0 _ _ ⟨o,[],_,_,_,_,_,_,_,by lia,g,O,_⟩ (λ_ _ _ _=>rfl) ?_ ?_
 ·rintro i d w r S ⟨ao,G,q,u,B,v,s,z,b,hi,a,j,m⟩;have c:=(Tg w).1;rw[eH]at c;rw[bO]at *
  walk_at"w";refine Km a (by lia) j λo' t C I H K E F x h f=>?_;exact⟨O,o',G++t,_,_,_,_,_,_,_,by lia,h.more (by lia),by rw[cW,j,f];rfl,_⟩
 ·rintro r S ⟨o,G,q,u,B,v,s,z,b,_,_,_,m⟩;exact⟨O,_,O,O⟩
theorem truth(ns:List Int)(B:ns.length<=63):∃S,m_law [.rol (ns.map D.int)] []=Z (.bl M,S):=by
 have g:W (m_law [.rol (ns.map D.int)] []) λp=>p.1 = .bl M:=by
  unfold m_law;refine jl ?_;unfold D3;have l:(D.rol (ns.map D.int)).und 0=M:=by simp[D.und,mS]
  have y:=λk u m=>Iu ns k u m;generalize q:D.rol (ns.map D.int)=N at *
  have b:eM N []=Z (.int ns.length,[]):=by rw[<- q];simp[eM,ee]
  refine ei (λr S=>S=[]/\r=[Z N,Y,Y,Y,Y,Y,Y,Y,Y,Y,Y]) ?_ ?_
  ·simp only [ic,mP1,aZ,lC1,bf,c8,Nat.reduceSub,LU,bj,cY,fO,dY,Em,dR,mN,mC,mV,dS,b1,b2,GR,GQ,b,d7,oS1,c6,Lq];have v:∃ t:Nat,t<=4/\(if (if (ns.length:Int)<4 then (ns.length:Int) else 4)>1 then (if (ns.length:Int)<4 then (ns.length:Int) else 4) else 1)=(t:Int):=by
    by_cases h1:(ns.length:Int)<4
    ·rw[ak h1];by_cases h2:(ns.length:Int)>1
     ·rw[ak h2];exact⟨ns.length,by lia,O⟩
     ·rw[aj h2];exact⟨1,by lia,O⟩
    ·rw[aj h1];exact⟨4,by lia,by decide⟩
   obtain⟨t,A,te⟩:=v;rw[te,Ra];refine⟨eW (by lia),?_⟩;refine eY (λ_ r S=>S=[]/\r=[Z N,Y,Y,Y,Y,Y,Y,Y,Y,Y,Y]) _ 0 _ _ ⟨O,O⟩ (λ_ _ _ _=>rfl) ?_ ?_
   ·rintro i d n r S ⟨rfl,rfl⟩;obtain⟨k,e,o,z⟩:=u7 (gM1 n);subst e;simp only[gN,cO,c7,d7];obtain⟨⟨f,r2,C⟩,s,j,w,a,c⟩:=y k o (by lia);dsimp only at j a;subst j;subst a;refine W.of (x:=(.nx,[Z N,Y,Y,Y,Y,Y,Y,Y,Y,Y,Y],[])) ?_ ⟨O,O,O⟩
    match w,c with
    |[z1,z2,z3,z4,z5,z6,z7,z8,z9,z10],_=>
     unfold ye rB;simp[gm,lS,D.und,l,s]
   ·rintro r S ⟨rfl,rfl⟩;exact⟨O,O,O⟩
  ·rintro r S ⟨rfl,rfl⟩;simp only[eD,mC,oS1,d7]
 obtain⟨⟨d,S⟩,e,h⟩:=g;dsimp only at h;exact⟨S,by rw[e,h]⟩
end Law
end
open PySem PySem.W PyProof.Rows
namespace PySem.W.Fast
def tw2113391973035490129:=()
def tw6494575527692580723:=()
def tw8037467653422534406:=()
def tw3840855399034736231:=()
def tw1595309761484774170:=()
def tw16584687777339780745:=()
def tw11847047054002031525:=()
def tw2208818818748320760:=()
def tw10506432564181404780:=()
def tw18149080604135337594:=()
def tw8827110589740545348:=()
def tw12513684992816183162:=()
def tw4567751416097380750:=()
def tw3488602572678777987:=()
def tw1914851318683508674:=()
def tw5428930128987198873:=()
def tw9576147128832361693:=()
def tw4680094104227546386:=()
def tw16297281178580559704:=()
def tw353114170651981565:=()
def tw5670465453007539574:=()
def tw2859285595019875046:=()
def tw13608940547181639960:=()
def tw13012367605360373623:=()
def tw3971668558076792690:=()
def tw17245672979509662140:=()
def tw16769010111848811177:=()
def tw15114166458753814396:=()
def tw5066265662185048408:=()
def tw7813323398742699314:=()
def tw5945862956287035743:=()
def tw386137182277614929:=()
def tw4447077032740960447:=()
def tw6941527384815387572:=()
def tw8681680221581546622:=()
def tw13946249182560350346:=()
def tw2069283022718954194:=()
def tw8359303431384943371:=()
def tw13139700338816680519:=()
def tw16945225039404828647:=()
def tw9273907896759241725:=()
def tw628605668369704770:=()
def tw2514480273379121625:=()
def tw8942086222780403424:=()
def tw9434020258251070334:=()
def tw8657896161194559964:=()
def tw16157860508233900571:=()
def tw15031039585562951160:=()
def tw6941110707988974009:=()
def tw14716006330609124573:=()
def tw2287131071710149316:=()
def tw9408386031872956339:=()
def tw14812034786665995074:=()
def tw9017572977522765395:=()
def tw5562280196782610622:=()
def tw16294174674075242691:=()
def tw1899941003799454896:=()
def tw14206847784582632675:=()
def tw1742807134191568285:=()
def tw1632282879547462103:=()
def tw5373562461447359124:=()
def tw8612084451580540301:=()
def tw791674038149069251:=()
def tw15037659975023382478:=()
def tw4526335928216241475:=()
def tw18167856416855774709:=()
def tw14697935245711504324:=()
def tw8954994816133582162:=()
def tw4212341814063260819:=()
def tw16398695434454067634:=()
def tw12200291864227910212:=()
def tw7894127273291439536:=()
def tw15505189566241641913:=()
def tw10766833682547290727:=()
def tw324238125453050700:=()
def tw12625618899232460146:=()
def tw14476385381421951774:=()
def tw12510989443128581215:=()
def tw15351075334391639441:=()
def tw12364167670140476081:=()
def tw9556943763277788650:=()
def tw10317572902829625861:=()
def tw15283783248431278642:=()
def tw13403289563051027071:=()
def tw2547280908480377973:=()
def tw9611225045018605834:=()
def tw14179785396295506220:=()
def tw12963006555037401222:=()
def tw17199381834507396897:=()
def tw4237449616699446837:=()
def tw16767854451065451325:=()
def tw13063015609476213361:=()
def tw10923694196085260411:=()
def tw7438946122365733725:=()
def tw300879127441861914:=()
def tw17848845526588131448:=()
def tw11403273851030363004:=()
def tw7451701265290084334:=()
def tw7927596832966317682:=()
def tw12349101147930478679:=()
def tw812791958514883617:=()
def tw3139935755638633997:=()
def tw8573220965724468429:=()
def tw14396891109487398350:=()
def tw2816765670745893184:=()
def tw2103408952538606684:=()
def tw638250811097922605:=()
def tw5958770421261541088:=()
def tw17558134707526943809:=()
def tw14199993132251083091:=()
def tw116828115012240846:=()
def tw10232721645418563293:=()
def tw17394224603888826980:=()
def tw7179309215223749036:=()
def tw14555941882815482518:=()
def tw8340342649698324046:=()
def tw2573925913767341550:=()
def tw12989679043394575266:=()
def tw6980825405821224095:=()
def tw4805309473639857552:=()
def tw13719231174525126215:=()
def tw12974034024006443993:=()
def tw882330679130967469:=()
def tw14545273916391411193:=()
def tw15577898926228175596:=()
def tw12461449824164387596:=()
def tw9676466900344882056:=()
def tw12894160477729404549:=()
def tw15192677842021492498:=()
def tw3206853744189959765:=()
def tw5294341390255904286:=()
def tw5010517263302064092:=()
def tw8988807981488807017:=()
def tw3408237619183230587:=()
def tw1757376143242092398:=()
def tw9867073413407797671:=()
def tw6857934491790382368:=()
def tw9307788096228044479:=()
def tw536194573642952016:=()
def tw10658530465693257656:=()
def tw10557376542645752310:=()
def tw12510259956336025475:=()
def tw9528250036200005857:=()
def tw6682401608426872743:=()
def tw9928868929812062100:=()
def tw15845568761295051432:=()
def tw13861874267507485093:=()
def tw14957944504760946081:=()
def tw240572169347047954:=()
def tw15142189591472481187:=()
def tw15783057872289747954:=()
def tw2949677677573028755:=()
def tw8345040963072472248:=()
def tw2303198069913478526:=()
def tw16113793671530179300:=()
def tw16869994030295999104:=()
def tw14417025924125981072:=()
def tw4835015592035891832:=()
def tw11658101627213025799:=()
def tw15470454316366236182:=()
def tw8301018899589525728:=()
def tw9423422683274070076:=()
def tw7419257516579892521:=()
def tw3015215377583728065:=()
def tw10113594645426331117:=()
end PySem.W.Fast
set_option maxRecDepth 100000 in
set_option maxHeartbeats 0 in
theorem PySem.Challenge.cw_ringmeet_k39_whole_alike_ones_never_meet_holds : PySem.Challenge.rw_ringmeet_k39_whole_alike_ones_never_meet.Holds := by
 w_on;refine PySem.W.holds_law (by decide+kernel) fun d=>?_;k_head;(case hw=>w_witness2)
 k_fill
 refine Mi.walk_m (l:=PySem.Challenge.rw_ringmeet_k39_whole_alike_ones_never_meet) (m:=Law.m_law) (k:=6) (x:="_law_script") rfl rfl ⟨rfl,by decide,by decide,rfl⟩ (fun w h Y=>PySem.W.kIn_of Y) Law.truth ?F
 case F=>
  intro w mg f h e G b;refine' Law.all_mk e G b ?a1 ?a2 ?a3 ?a4 ?a5 ?a6 ?a7 ?a8 ?a9 ?a10 ?a11 ?a12 ?a13 ?a14 ?a15 ?a16 ?a17 ?a18 ?a19 ?a20 ?a21 ?a22 ?a23 ?a24 ?a25 ?a26 ?a27 ?a28 ?a29 ?a30 ?a31 ?a32 ?a33 ?a34 ?a35 ?a36 ?a37 ?a38 ?a39 ?a40 ?e_PARTS ?h1 ?h2 ?h5 ?h8 ?h11 ?z
  all_goals try (refine' Mi.MM ?a ?l ?c ?k;(case a=>k_is);(case l=>k_is);(case c=>k_is);(case k=>k_is))
  (case e_PARTS=>k_is)
  (case h1=>k_is)
  (case h2=>k_is)
  (case h5=>k_is)
  (case h8=>k_is)
  (case h11=>k_is)
  (case z=>exact ⟨by k_is,by k_is,by k_is,by k_is,by k_is,by k_is,by k_is,by k_is,by k_is,by k_is,by k_is,by k_is,by k_is,by k_is,by k_is,trivial⟩)

