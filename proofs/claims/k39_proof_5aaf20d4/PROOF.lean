import PyProof.Rows.All
import Wide.All
import OpenK.AllK
import Wide.FinOn
import Lean
import PyProof.EqAt
import PyProof.EqKinds
import PyProof.TupleCall
import PySem.Challenge.RW_ringmeet_k39_whole_alike_ones_never_meet
set_option Elab.async false
set_option compiler.extract_closed false
set_option genSizeOf false
set_option bootstrap.genMatcherCode false
set_option linter.all false
set_option maxRecDepth 100000
set_option maxHeartbeats 4000000
open List renaming getElem?_eq_some_iff → gE1, getElem?_append_left → gL1, getElem?_eq_getElem → gG1, mem_of_getElem? → gM1, getElem?_set_ne → gS1, length_append → lA1, length_map → lM1, getElem?_cons_succ → gC1, mem_cons_of_mem → mC1, mem_cons_self → mS1, getElem?_map → gP1, getElem?_append_right → gR1, size_toArray → sT1, map_cons → mP1, length_cons → lC1, length_replicate → lR1, mem_append_right → mA1
open Option renaming bind_eq_some_iff → oB1, map_eq_some_iff → oM1, bind_some → oS1, map_some → oP1
open Nat renaming le_refl → nR1, lt_of_lt_of_le → nL1, ne_of_lt → nN1, ne_of_gt → nG1
open Bool renaming and_eq_true → bA1, false_eq_true → bF1
open Array renaming getElem?_eq_getElem → aG1, getElem?_toList → aT1
open PySem.W renaming Frag → Fg1, nsIn → wN1, keepIn → wK1, codeIn → wC1, fnOf → wF1, mg_of → wM1
open PySem.Heap renaming get?_push_of_some → hP1, get?_push_size → hS1, lt_size → hL1, size_push → hZ1, get?_update_ne → hU1, get?_update_self → hW1
open PySem renaming wpAny_bind → wB1, wpAny_pure → wP1, wpAny_setField_rec → wS1, wpAny_newObj_type → wO1, codeAny_builtin → wD1, wpAny_call_entry → wE1
open List renaming take_nil → aw, drop_nil → ay, mem_filter → aB, mem_range → aC, filterMap_cons → aE, mem_cons → aF, mem_append → aG, mem_append_left → aH, getElem_inj → aI, getElem?_set_self → aJ, mem_filterMap → aM, append_nil → aN, nodup_cons → aO, replicate → aP, length_take → aR, getElem?_replicate → aS, getElem?_take_of_lt → aT, take_sublist → aU, length_set → aV, reverse_cons → aW, length_singleton → aY, map_nil → aZ, find?_cons → bc, any_cons → bd, length_nil → bf, cons_append → bj, range' → bn, prefix_rfl → bo, nodup_nil → bp, getElem?_of_mem → bq, map_map → bu, prefix_append → bv, nodup_append → bx, all_eq_true → bA, mem_replicate → bC, lookup_cons → bD, append_assoc → bE, getD_eq_getElem?_getD → bH, not_mem_nil → bI, all_cons → bN, any_eq_true → bP, getElem_mem → bQ, zip_cons_cons → bR, cons_prefix_cons → bT, take_length → bU, ext_getElem? → bW, getElem?_eq_none → bX, findIdx?_eq_some_iff_getElem → bZ, foldl_cons → b4, contains_cons → b5, pairwise_cons → b6, pairwise_iff_getElem → b7, take_of_length_le → ca, pairwise_lt_range → cb, map_append → cc, mem_map → cf, take_succ → cg, foldl_append → ci, take_append_drop → cm, eraseIdx_eq_take_drop_succ → cq, getElem?_range → cr, mem_singleton → cv, range'_succ → cy, nodup_range → cA, length_range → cB, mem_of_mem_take → cC, set_cons_succ → cD, getElem?_zip_eq_some → cH, contains_iff_mem → cJ, forall_mem_nil → cK, map_congr_left → cM, all_append → cN, nil_append → cP, mem_zipIdx_iff_getElem? → cQ, pairwise_map → cR, getElem?_cons_zero → cS, set_cons_zero → cT, flatten_cons → cW, length_filter_le → cX, filter_append → cY, set_append_right → cZ, getElem?_concat_length → c5, getElem?_zipIdx → c6, range_succ → c9, filter_cons_of_pos → da, filter_cons_of_neg → db, mem_flatMap → de, idxOf_lt_length_of_mem → df, getElem_idxOf → dg
open Option renaming some → az, isSome_iff_exists → aQ, isSome_map → bg, getD_some → b0, join_some → cV
open Nat renaming lt_irrefl → aA, le_trans → aD, le_succ → aX, le_of_not_lt → a0, lt_trans → bh, zero_le → bi, add_assoc → bm, le_add_right → br, not_lt_zero → bw, lt_succ_self → bB, lt_of_le_of_lt → bF, le_of_succ_le → bG, succ_pos → bK, zero_add → bL, lt_or_ge → bS, lt_trichotomy → b8, lt_succ_of_lt → cj, mod_lt → ck, sub_self → cF, reduceAdd → cU, lt_succ_iff_lt_or_eq → c7, mul_le_mul_right → c8
open Array renaming length_toList → aK, forIn_toList → bV, toList_push → b9, getElem?_eq_none → cu, getD_eq_getD_getElem? → cE
open Bool renaming false_ne_true → aL, and_true → bJ, or_eq_true → bM, eq_iff_iff → bO, not_true → bY, not_eq_true → cG, not_false → cI, eq_false_iff → cO
open PySem renaming Value → di, Shared → dj, Addr → dk, Program → dn, Around → dq, World → dr, mainGlobals → dv, starEach → dw, sizeLine → dy, wpAny → dz, codeAny → dA, Heap → dB, FuncData → dD, Stmt → dE, Scope → dF
open Option renaming some → Z, none → Y
open Bool renaming true → M, false → J
theorem gu0(h0:True:=by repeat first|rfl|exact .inl rfl|assumption|apply Or.inr)(h1:True:=by decide)(h2:True:=by rfl)(h3:True:=by intro _;rfl)(h4:True:=by decide+kernel)(h5:True:=by assumption):True:=h0
namespace gu0
end gu0
open gu0 renaming _auto_1 → au0, _auto_2 → bu0, _auto_3 → cu0, _auto_4 → du0, _auto_5 → eu0, _auto_6 → fu0
theorem Mi.O{α}{a:α}:a=a:=rfl
open Mi (O)
open PySem renaming hashInt → aa, sysModules → Pm, intKind → Pn, bootBuiltins → Po, model → Pt, backTo → Pu, wpAny_mono → Pv, wpAny_Name → Pw, wpAny_loadName_local → Px, wpAny_truthy_bool → Py, wpAny_execs_nil → PB, swapsWith → PC, assign → PD, assignEach → PF, Operator → PH, holding → PJ, standAt → PK, wpAny_holding → PM, wpAny_standAt → PN, swapsWithSole → PP, swappedStores → PQ, wpAny_rule → PR, PassesOwn → PV, wpAny_passesOwn → PX, pyNext → PY, letOwnedTupleGo → PZ, pyIter → P0, rawInt → P1, wpAny_pyNext_list_item → P2, wpAny_pyNext_list_end → P3, foldedSetIterable → P5, binaryOp → P6, compareOp → P7, CmpOp → P8, behindInMarks → P9, sizeLine_eq → Qa, cLine → Qe, Result → Qf, codeAny_mono → Qg, wpAny_Call_Name_kw → Qh, Keyword → Qi, NameKind → Qj, cellsFrom → Ql, mem_of_lookup → Qn, IsPart → Qw, wpAny_field → Qx, wpAny_callSpecial?_slot → Qy, wpAny_typeOf → QC, sliceBounds → QG, attributeBase → QI, backToKw → QJ, keywordEach → QK, valueAt → QO, atKey → QP, tupleKind_room_in1 → QQ, SetTable → QW, pushCells_keeps → QZ, compTurn → Q0, codeAny_of_tree → Q1, wpAny_askSetting → Q2, wpAny_of_eq → Q3, wpAny_seqItems → Q6, firstArgMember → Q8, IsEnum → Q9, wpAny_attempt → Ra, wpAny_letGo → Rf, wpAny_isInstance → Rg, isSubtype_stop → Rh, IsZip → Ri, IsPair → Rj, wpAny_updateSeq_pair → Rl, wpAny_forIn_list → Rp, plainId_quiet → Rq, wpAny_specialOf → Rs, wpAny_callSpecialIfBoundUnlessNone?_slot → Rt, eqIsQuiet_byValue → Rv, scanBound → RB, wpAny_setState_of → RI, wpAny_storeSet_of → RK, fits_of_scanBound → RL
open PySem.Value renaming int → ab, str → ae, none → Ph, bool → Pi, ref → Pj, type → Pk
open PyProof.Rows renaming AllBare → Pp, callWith_type1 → P4, envOfC → Qk, slot_tuple_getitem → QA, subscriptTail → QE, IntsAre → QN, step_dedup → Rz, SortKind → RC, Keyed → RD
open PySem.Heap renaming get?_none_of_le → Pq, SameBut → Ps
open Ne renaming symm → Pr
open False renaming elim → Pz
open PySem.W renaming kitOne → Qb, kia_one → Qc, cellsFrom_some → Qm
open True renaming intro → Qd
open PySem.F renaming slot_tuple_add → Qo, entry_tuple_add → Qp, args_tuple_add_2 → Qq, slot_tuple_iterator_next → Q5, slot_enumerate_next → Rb, slot_zip_next → Rk, plain_extend_loop → RP, slot_tuple_index → RX, type_tuple_index → RY
open Int renaming toNat_natCast → Qr, emod_nonneg → RQ, emod_lt_of_pos → RR
open PySem.Builtin.Slice renaming sliceAdjust → Qs, slicePlaces → Qu
open PySem.Str renaming ofString → Qz
open PySem.Builtin.Tuple renaming tupleItemsOf → QB, tupleExact → QD, tupleHashOf → QR
open PySem.Obj renaming mapSeq → QF
open PySem.SeqAt renaming EqAt → QH, RcAt → Ro
open PySem.Calls renaming callWith_builtin → QL, evalArgs_plain → QM
open PySem.SetTable renaming runEnd → QS, leap → QT, turns → QU, bits → QV, below → RE, insertAt → RF, Probe → RG, grown → RJ
open PySem.NameKind renaming cell → QY
open PySem.Builtin.SmallTypes renaming nextOf → Q4, ownedTupleIsFree → Rc, ownedTupleHandOut → Re
open PySem.Heap.SameBut renaming update → Q7
open PySem.Around renaming under_plainId → Rr
open Classical renaming byContradiction → Ru, choose_spec → RZ
open PySem.AutoSeq1 renaming wpAny_loadPart' → Rx
open PySem.MeetsSeq renaming plain_index_loop → Ry
open PySem.SetTable.probe renaming go → RH
open PyProof.Rows.F renaming entry_set_update_loop → RM, plain_set_update_loop → RN
open PySem.PassesOwn renaming never → RU
open Or renaming inl → RV, inr → RW
open Prod.mk renaming injEq → R0
noncomputable def Mi.Qt:=@if_false
noncomputable def Mi.Qv:=@if_true
noncomputable def Mi.QX:=@of_decide_eq_true
noncomputable def Mi.Rm:=@or_false
noncomputable def Mi.Rn:=@beq_self_eq_true
noncomputable def Mi.RO:=@beq_iff_eq
noncomputable def Mi.RT:=@beq_eq_false_iff_ne
noncomputable def Mi.R1{α}{l:List α}{i:Nat}{a:α}:=(List.getElem?_eq_some_iff (l:=l) (i:=i) (a:=a)).mp
noncomputable def Mi.R3{α β}{x:Option α}{f:α->Option β}{b:β}:=(Option.bind_eq_some_iff (x:=x) (f:=f) (b:=b)).mp
noncomputable def Mi.R4{α β}{x:Option α}{f:α->β}{b:β}:=(Option.map_eq_some_iff (x:=x) (f:=f) (b:=b)).mp
open Mi (Qt Qv QX Rm Rn RO RT R1 R3 R4)
theorem Mi.am{p:Prop}[Decidable p]:(decide p=true)=p:=decide_eq_true_eq
theorem Mi.ak{c:Prop}{h:Decidable c}(a:c){α:Sort _}{t e:α}:ite c t e=t:=if_pos a
theorem Mi.aj{c:Prop}{h:Decidable c}(a:¬c){α:Sort _}{t e:α}:ite c t e=e:=if_neg a
theorem Mi.ai{p:Prop}[Decidable p]:¬p→decide p=false:=decide_eq_false
theorem Mi.ah{p:Prop}[Decidable p]:p→decide p=true:=decide_eq_true
open List renaming range → af
open Mi (am ak aj ai ah)
noncomputable section
namespace L2
open PySem PySem.Spec PyProof.Rows
abbrev Key:=Sum Int Str
noncomputable def qT:Key->di->Bool
 | .inl k,v=>Value.isInt k v
 | .inr x,v=>Value.isStrOf x v
noncomputable def Nx(w:dr):Key->Int
 | .inl k=>aa k
 | .inr x=>hashStr w x
theorem fg:∀{k:Key} {v:di},qT k v=M->(∃i t,k=Sum.inl i/\v=ab i t)\/(∃x t,k=Sum.inr x/\v=ae x t)
 | .inl i,v,h=>by
  obtain⟨t,e⟩:=Value.isInt_shape (k:=i) (v:=v) h;exact .inl ⟨i,t,O,e⟩
 | .inr x,v,h=>by
  obtain⟨t,e⟩:=Value.isStrOf_shape (x:=x) (v:=v) h;exact .inr ⟨x,t,O,e⟩
theorem zw(i:Int)(t:Tok):qT (.inl i) (.int i t)=M:=by simp[qT,Value.isInt]
theorem zv(x:Str)(t:Tok):qT (.inr x) (.str x t)=M:=by simp[qT,Value.isStrOf]
theorem JI(a b:Int):decide ((Sum.inl a:Key)=Sum.inl b)=(a == b):=by
 by_cases e:a=b
 ·subst e;simp
 ·have h:¬ (Sum.inl a:Key)=Sum.inl b:=λq=>e (Sum.inl.inj q);rw[ai h];exact(RT.mpr e).symm
theorem JF(a b:Str):decide ((Sum.inr a:Key)=Sum.inr b)=decide (a=b):=by
 by_cases e:a=b
 ·subst e;simp
 ·have h:¬ (Sum.inr a:Key)=Sum.inr b:=λq=>e (Sum.inr.inj q);rw[ai h,ai e]
theorem JH(a:Int)(b:Str):decide ((Sum.inl a:Key)=Sum.inr b)=J:=ai (λq=>nomatch q)
theorem JG(a:Str)(b:Int):decide ((Sum.inr a:Key)=Sum.inl b)=J:=ai (λq=>nomatch q)
def fc(prog:dn)(w:dr):PySem.KeyKind prog w Key where
 is:=qT
 hash:=Nx w
 inj:=λv a b ha hb=>by
  rcases fg ha with⟨i,t,rfl,rfl⟩|⟨x,t,rfl,rfl⟩
  ·rcases fg hb with⟨j,u,rfl,e⟩|⟨y,u,rfl,e⟩
   ·injection e with e1 _;rw[e1]
   ·exact nomatch e
  ·rcases fg hb with⟨j,u,rfl,e⟩|⟨y,u,rfl,e⟩
   ·exact nomatch e
   ·injection e with e1 _;rw[e1]
 byValue:=λk v h=>by
  rcases fg h with⟨i,t,rfl,rfl⟩|⟨x,t,rfl,rfl⟩<;>rfl
 pyHash:=λhv h=>by
  rcases fg hv with⟨i,t,rfl,rfl⟩|⟨x,t,rfl,rfl⟩
  ·exact wpAny_pyHash_int h
  ·exact wpAny_pyHash_str h
 eqBool:=λhu hv h=>by
  rcases fg hu with⟨i,t,rfl,rfl⟩|⟨x,t,rfl,rfl⟩
  ·rcases fg hv with⟨j,u,rfl,rfl⟩|⟨y,u,rfl,rfl⟩
   ·rw[JI]at h;exact wpAny_eqBool_int h
   ·rw[JH]at h;exact SeqAt.EqAt.int_str i t y u _ _ _ _ h
  ·rcases fg hv with⟨j,u,rfl,rfl⟩|⟨y,u,rfl,rfl⟩
   ·rw[JG]at h;exact SeqAt.EqAt.str_int x t j u _ _ _ _ h
   ·rw[JF]at h;exact wpAny_eqBool_str h
 «strs» :=λk x t v h=>by
  rcases fg h with⟨i,u,rfl,e⟩|⟨y,u,rfl,e⟩
  ·exact nomatch e
  ·injection e with e1 _;subst e1;cases v<;>rfl
theorem uB(prog:dn)(w:dr)(i:Int)(t:Tok):(fc prog w).is (.inl i) (.int i t)=M:=zw i t
theorem uA(prog:dn)(w:dr)(x:Str)(t:Tok):(fc prog w).is (.inr x) (.str x t)=M:=zv x t
inductive V where
 |non|bl (b:Bool)|int (i:Int)|str (x:Str)|byt (b:Array UInt8)|flt (b:UInt64)|ref (a:dk)|ty (n:String)
 deriving DecidableEq
def d3:V->di->Prop
 | .non,u=>u=Ph
 | .bl b,u=>u=Pi b
 | .int i,u=>∃t,u=ab i t
 | .str x,u=>∃t,u=ae x t
 | .byt b,u=>∃t,u=Value.bytes b t
 | .flt b,u=>∃t,u=Value.float b t
 | .ref a,u=>u=Pj a
 | .ty n,u=>u=Pk n
abbrev ed:List V->List di->Prop:=Paired d3
theorem ed.length{xs:List V}{a:List di}(r:ed xs a):xs.length=a.length:=Paired.length r
theorem ed.get:∀{xs:List V} {a:List di} {i:Nat} {x:V},ed xs a->xs[i]?=Z x -> ∃u,a[i]?=Z u/\d3 x u:=by
 intro xs a i x h e
 induction h generalizing i with
 |nil=>cases e
 |cons r t ih=>cases i with
  |zero=>cases e;exact⟨_,O,r⟩
  |succ i=>exact ih (i:=i) e
theorem ed.set{x:V}{u:di}(r:d3 x u):∀{xs:List V} {a:List di} (i:Nat),ed xs a->ed (xs.set i x) (a.set i u):=by
 intro xs a i h
 induction h generalizing i with
 |nil=>exact .nil
 |cons q t ih=>cases i with
  |zero=>exact .cons r t
  |succ i=>exact .cons q (ih i)
theorem ed.append:∀{xs ys:List V} {a ws:List di},ed xs a->ed ys ws->ed (xs++ys) (a++ws):=by
 intro xs ys a ws h s
 induction h with
 |nil=>exact s
 |cons r t ih=>exact .cons r ih
theorem ed.take:∀{xs:List V} {a:List di} (n:Nat),ed xs a->ed (xs.take n) (a.take n):=by
 intro xs a n h
 induction h generalizing n with
 |nil=>rw[aw,aw];exact .nil
 |cons r t ih=>cases n with
  |zero=>exact .nil
  |succ n=>exact .cons r (ih n)
theorem ed.drop:∀{xs:List V} {a:List di} (n:Nat),ed xs a->ed (xs.drop n) (a.drop n):=by
 intro xs a n h
 induction h generalizing n with
 |nil=>rw[ay,ay];exact .nil
 |cons r t ih=>cases n with
  |zero=>exact .cons r t
  |succ n=>exact ih n
def mW:Option V->Option di->Prop
 |some v,Z u=>d3 v u
 |none,Y=>True
 |_,_=>False
def KV{κ:Type}:List (κ×V)->List (κ×di)->Prop:=Paired λ(p:κ×V) (q:κ×di)=>p.1=q.1/\d3 p.2 q.2
noncomputable def kV:Key->V
 | .inl i=>.int i
 | .inr x=>.str x
inductive HO where
 /-- a list -/
 |lst (xs:List V)
 /-- a tuple (never changes) -/
 |tup (xs:List V)
 /-- a dict whose keys are ints and texts; one whose keys are tuples of ints and texts (the empty one is both) -/
 |dK (kvs:List (Key×V))|dT (kvs:List (List Key×V))
 /-- a set of ints: its members, its size -/
 |set (S:Int->Bool) (n:Nat)
 /-- an instance of the class at C, its dict at dx, its attributes -/
 |ins (C dx:dk) (fs:List (Str×V))
 /-- the dict of the instance at x -/
 |own (x:dk)
 /-- the dict of an exception -/
 |xd (fs:List (Str×V))
 /-- a bound method, f of x -/
 |met (f x:dk)
 /-- a range object lo, lo + 1, .. below hi -/
 |rng (lo hi:Int)
 /-- a thing that is known to the object (the script; a dict while a loop walks it): read, never written while it is so -/
 |frz (o:Obj) (u:HO)
 /-- a code object's table -/
 |tbl (ps:Array di)
 /-- any other thing, by what is true of its one object (a def of one's own: SetO a S n := HO.ext λh => ..) -/
 |ext (φ:dB->Prop)
abbrev Hp:=dk->Option HO
noncomputable def upd(H:Hp)(a:dk)(o:HO):Hp:=λb=>if b=a then Z o else H b
theorem d9{H:Hp}{a:dk}{o:HO}:upd H a o a=Z o:=by unfold upd;rw[ak O]
theorem d6{H:Hp}{a b:dk}{o:HO}(h:b≠a):upd H a o b=H b:=by unfold upd;rw[aj h]
theorem Lx{H:Hp}{a b:dk}{o u:HO}(h:H a=Z o)(h':H b=Z u)(d:o≠u):a≠b:=by
 intro e;subst e;rw[h]at h';exact d (Option.some.inj h')
theorem eu{H:Hp}{a b:dk}{o:HO}(h:H a=Z o)(h':H b=Y):a≠b:=by
 intro e;subst e;rw[h]at h';cases h'
def mq(h:dB)(a:dk)(items:Array di):Prop:=∃o,h.get? a=Z o/\o.cls = .type "tuple" /\ ∃n,o.data = .seq items n/\o.dict=Y
theorem mq.tup{h:dB}{a:dk}{items:Array di}(x:mq h a items):IsTup h a items:=by
 obtain⟨o,e,c,n,d,_⟩:=x;exact⟨o,e,c,n,d⟩
theorem mq.lt{h:dB}{a:dk}{items:Array di}(x:mq h a items):a<h.objs.size:=x.tup.lt
theorem mq.new(h:dB)(items:Array di):mq (h.push {cls:=.type "tuple",data:=.seq items}) h.objs.size items:=⟨_,hS1 _ O,O,0,O,O⟩
section
variable(P:dn) (w:dr)
def eQ(H:Hp)(h:dB)(a:dk):HO->Prop
 | .lst xs=>xs.length<=dy /\ ∃(its:List di) (n:Nat),ed xs its/\h.get? a=Z {cls:=.type "list",data:=.seq its.toArray n}
 | .tup xs=>xs.length<=dy /\ ∃its:List di,ed xs its/\mq h a its.toArray
 | .dK kvs=>kvs.length<=dy/\(a == Pm)=J /\ ∃vs,KV kvs vs/\h.DictOf (fc P w) a vs
 | .dT kvs=>kvs.length<=dy/\(a == Pm)=false /\ ∃ xs:List (List Key×dk×di),
   Paired (λ(p:List Key×V) (q:List Key×dk×di)=>p.1=q.1/\H q.2.1=Z (.tup (p.1.map kV))/\d3 p.2 q.2.2) kvs xs /\
   ∃o es ep,h.get? a=Z o/\o.ExactDict/\o.data = .dict es ep/\es.toList=xs.map (entryOfKey (tupleKind (fc P w)))/\(xs.map (·.1)).Nodup
 | .set S n=>h.SetOf (Pn P w) a S n
 | .ins C dx fs=>H dx=some (.own a)/\fs.length<=1000/\dx≠a/\h.get? a=some (PySem.W.instObj C dx) /\
   ∃mA,h.Ns1 dx mA/\(∀f,mW (fs.lookup f) (mA f))/\PySem.Within mA (fs.map (·.1))
 | .own _=>∃o,h.get? a=Z o
 | .xd fs=>∃mA,h.Ns1 a mA /\ ∀f,mW (fs.lookup f) (mA f)
 | .rng lo hi=>∃t u v,h.get? a=Z {cls:=.type "range",data:=.fields #[.int lo t,.int hi u,.int 1 v]}
 | .frz o u=>h.get? a=Z o/\eQ H h a u
 | .tbl ps=>h.get? a=Z {cls:=.none,data:=.fields ps}
 | .met f x=>h.get? a=Z (PySem.W.methodObj (.ref f) (.ref x))
 | .ext φ=>φ h/\(∃o,h.get? a=Z o) /\ ∀h1 h2:dB,φ h1->(∀o,h1.get? a=Z o->h2.get? a=Z o)->φ h2
def lr(H:Hp)(h:dB):Prop:=∀a o,H a=Z o->eQ P w H h a o
end
section
variable{P:dn}{w:dr}{H H':Hp}{h h':dB}{a:dk}{o:HO}
theorem eQ.lt(x:eQ P w H h a o):a<h.objs.size:=by
 cases o with
 |lst xs=>obtain⟨_,_,_,_,e⟩:=x;exact hL1 e
 |tup xs=>obtain⟨_,_,_,p⟩:=x;exact p.lt
 |dK kvs=>obtain⟨_,_,_,_,o,_,_,e,_⟩:=x;exact hL1 e
 |dT kvs=>obtain⟨_,_,_,_,o,_,_,e,_⟩:=x;exact hL1 e
 |set S n=>obtain⟨o,_,_,_,e,_⟩:=x;exact hL1 e
 |ins C dx fs=>obtain⟨_,_,_,e,_⟩:=x;exact hL1 e
 |own y=>obtain⟨_,e⟩:=x;exact hL1 e
 |xd fs=>obtain⟨_,⟨_,_,_,e,_⟩,_⟩:=x;exact hL1 e
 |rng lo hi=>obtain⟨_,_,_,e⟩:=x;exact hL1 e
 |frz b u=>obtain⟨e,_⟩:=x;exact hL1 e
 |tbl ps=>exact hL1 (show h.get? a=Z _ from x)
 |met f y=>exact hL1 (show h.get? a=Z _ from x)
 |ext φ=>obtain⟨_,⟨_,e⟩,_⟩:=x;exact hL1 e
theorem Paired.mapP{α β:Type}{F G:α->β->Prop}:∀{l₁:List α} {l₂:List β},Paired F l₁ l₂->(∀a b,F a b->G a b)->Paired G l₁ l₂:=by
 intro a b h f
 induction h with
 |nil=>exact .nil
 |cons r t ih=>exact .cons (f _ _ r) ih
theorem eQ.stay(x:eQ P w H h a o)(k:∀ b u,(b=a\/H b=Z (.own a))->h.get? b=Z u->h'.get? b=Z u)(ho:∀b,H b=Z (.own a)->H' b=Z (.own a))(ht:∀b xs,H b=Z (.tup xs)->H' b=Z (.tup xs)):eQ P w H' h' a o:=by
 induction o with
 |lst xs=>obtain⟨z,i,n,r,e⟩:=x;exact⟨z,i,n,r,k _ _ (.inl O) e⟩
 |tup xs=>obtain⟨z,i,r,g,e,c⟩:=x;exact⟨z,i,r,g,k _ _ (.inl O) e,c⟩
 |dK kvs=>obtain⟨z,y,vs,r,g,es,ep,e,c⟩:=x;exact⟨z,y,vs,r,g,es,ep,k _ _ (.inl O) e,c⟩
 |dT kvs=>
  obtain⟨z,y,xs,r,g,es,ep,e,c⟩:=x;exact⟨z,y,xs,Paired.mapP r λp q z=>⟨z.1,ht _ _ z.2.1,z.2.2⟩,g,es,ep,k _ _ (.inl O) e,c⟩
 |set S n=>obtain⟨g,es,ep,t,e,c⟩:=x;exact⟨g,es,ep,t,k _ _ (.inl O) e,c⟩
 |ins C dx fs=>
  obtain⟨d,z,ne,e,mA,⟨j,es,ep,l,c⟩,r⟩:=x;exact⟨ho _ d,z,ne,k _ _ (.inl O) e,mA,⟨j,es,ep,k _ _ (.inr d) l,c⟩,r⟩
 |own y=>obtain⟨g,e⟩:=x;exact⟨g,k _ _ (.inl O) e⟩
 |xd fs=>obtain⟨mA,⟨j,es,ep,e,c⟩,r⟩:=x;exact⟨mA,⟨j,es,ep,k _ _ (.inl O) e,c⟩,r⟩
 |rng lo hi=>obtain⟨t,u,v,e⟩:=x;exact⟨t,u,v,k _ _ (.inl O) e⟩
 |frz g u ih=>obtain⟨e,q⟩:=x;exact⟨k _ _ (.inl O) e,ih q⟩
 |tbl ps=>
  have e:h.get? a=Z {cls:=.none,data:=.fields ps}:=x;show h'.get? a=Z {cls:=.none,data:=.fields ps};exact k a _ (.inl O) e
 |met f y=>
  have e:h.get? a=Z (PySem.W.methodObj (.ref f) (.ref y)):=x;show h'.get? a=Z (PySem.W.methodObj (.ref f) (.ref y));exact k a _ (.inl O) e
 |ext φ=>obtain⟨p,⟨o,e⟩,st⟩:=x;exact⟨st _ _ p λo q=>k _ _ (.inl O) q,⟨o,k _ _ (.inl O) e⟩,st⟩
theorem lr.lt(x:lr P w H h)(e:H a=Z o):a<h.objs.size:=(x a o e).lt
theorem lr.fresh(x:lr P w H h)(e:h.objs.size<=a):H a=Y:=by
 cases q:H a with
 |none=>rfl
 |some u=>exact absurd (nL1 (x.lt q) e) (aA _)
theorem lr.kept(x:lr P w H h)(k:∀b u,h.get? b=Z u->h'.get? b=Z u):lr P w H h':=λa o e=>
 (x a o e).stay (λb u _ q=>k b u q) (λ_ q=>q) λ_ _ q=>q
theorem lr.laid(x:lr P w H h)(k:∀b u,h.get? b=Z u->h'.get? b=Z u)(hp:h.objs.size<=a)(new:eQ P w (upd H a o) h' a o):lr P w (upd H a o) h':=λb u e=>by
 have d:=x.fresh hp;by_cases f:b=a
 ·subst f;rw[d9]at e;cases e;exact new
 ·rw[d6 f]at e;exact(x b u e).stay (λc v _ q=>k c v q) (λc q=>by rw[d6 (eu q d)];exact q) λc xs q=>by rw[d6 (eu q d)];exact q
end
def Rd(H:Hp)(a:dk)(u:HO):Prop:=H a=Z u \/ ∃o,H a=Z (.frz o u)
theorem Rd.of{H:Hp}{a:dk}{u:HO}(h:H a=Z u):Rd H a u:=.inl h
theorem Rd.ok{P:dn}{w:dr}{H:Hp}{h:dB}{a:dk}{u:HO}(r:Rd H a u)(x:lr P w H h):eQ P w H h a u:=by
 rcases r with r|⟨o,r⟩
 ·exact x a u r
 ·obtain⟨_,q⟩:=x a _ r;exact q
def Kx:Option HO->Prop
 |some (.lst _)=>True
 |some (.dK _)=>True
 |some (.dT _)=>True
 |some (.set _ _)=>True
 |some (.ins _ _ _)=>True
 |some (.ext _)=>True
 |_=>False
section
variable{P:dn}{w:dr}{H:Hp}{h h':dB}{x e:dk}{o':HO}
theorem lr.write(ok:lr P w H h)(mu:Kx (H x))(he:e=x\/H e=Z (.own x))(k:∀ b u,b≠e->h.get? b=Z u->h'.get? b=Z u)(i:∃ u,h'.get? e=Z u)(new:eQ P w (upd H x o') h' x o'):lr P w (upd H x o') h':=λb u q=>by
 have d:∀c y,H c=Z (.own y)->c≠x:=λc y r z=>by subst z;rw[r]at mu;exact mu
 have f:∀c xs,H c=Z (.tup xs)->c≠x:=λc xs r z=>by subst z;rw[r]at mu;exact mu
 by_cases g:b=x
 ·subst g;rw[d9]at q;cases q;exact new
 ·rw[d6 g]at q;by_cases a:b=e
  ·have j:H b=some (.own x):=by
    rcases he with z|z
    ·exact absurd (a.trans z) g
    ·rw[a];exact z
   rw[q]at j;cases j;obtain⟨v,l⟩:=i;exact⟨v,by rw[a];exact l⟩
  ·refine(ok b u q).stay (λc v hc r=>k c v ?_ r) (λc r=>by rw[d6 (d c b r)];exact r) λc xs r=>by rw[d6 (f c xs r)];exact r
   rcases hc with rfl|hc
   ·exact a
   ·rintro rfl;rcases he with z|z
    ·exact d c b hc z
    ·rw[hc]at z;cases z;exact g O
end
structure Un (fs ex:List dk)(H H':Hp)(h h':dB):Prop where
 keep:∀b o,h.get? b=some o->H b=none->b∉fs->b∉ex->h'.get? b=some o
 slot:∀b o,h.get? b=some o->H b=none->b∈fs->b∉ex -> ∃sl,h'.get? b=some {o with slots:=sl}
 free:∀b o,h.get? b=some o->H b=none->b∉ex->H' b=none
 there:∀b o,h.get? b=some o->b∉ex -> ∃o',h'.get? b=some o'
 tups:∀b xs,H b=some (.tup xs)->H' b=some (.tup xs)
 frzs:∀b o u,H b=some (.frz o u)->H' b=some (.frz o u)
 tbls:∀b ps,H b=some (.tbl ps) -> ∃more,H' b=some (.tbl (ps++more))
section
variable{fs fs' ex ex':List dk}{H H1 H2:Hp}{h h1 h2 h':dB}{a x e:dk}{o:HO}
theorem Un.any(u:Un fs ex H H1 h h1){b:dk}{a:Obj}(q:h.get? b=Z a)(n:H b=Y)(hx:b∉ex):∃d,h1.get? b=Z {a with slots:=d}:=by
 by_cases c:b∈fs
 ·exact u.slot b a q n c hx
 ·exact⟨a.slots,u.keep b a q n c hx⟩
theorem Un.trans(a:Un fs ex H H1 h h1)(b:Un fs ex H1 H2 h1 h2):Un fs ex H H2 h h2 where
 keep:=λc e q n hc d=>b.keep c e (a.keep c e q n hc d) (a.free c e q n d) hc d
 slot:=λc e q n hc d=>by
  obtain⟨j,f⟩:=a.slot c e q n hc d;obtain⟨g,i⟩:=b.slot c _ f (a.free c e q n d) hc d;exact⟨g,i⟩
 free:=λc e q n d=>by
  obtain⟨o',f⟩:=a.there c e q d;exact b.free c o' f (a.free c e q n d) d
 there:=λc e q d=>by
  obtain⟨o',f⟩:=a.there c e q d;exact b.there c o' f d
 tups:=λc xs q=>b.tups c xs (a.tups c xs q)
 frzs:=λc e xs q=>b.frzs c e xs (a.frzs c e xs q)
 tbls:=λc ps q=>by
  obtain⟨m1,f⟩:=a.tbls c ps q;obtain⟨m2,i⟩:=b.tbls c _ f;exact⟨m1++m2,by rw[i,Array.append_assoc]⟩
theorem Un.kept(k:∀b u,h.get? b=Z u->h'.get? b=Z u):Un fs ex H H h h':=
 ⟨λb a q _ _ _=>k b a q,λb a q _ _ _=>⟨a.slots,k b a q⟩,λ_ _ _ n _=>n,λb a q _=>⟨a,k b a q⟩,λ_ _ q=>q,λ_ _ _ q=>q,λ_ ps q=>⟨#[],by rw[q];simp⟩⟩
theorem Un.refl:Un fs ex H H h h:=Un.kept λ_ _ q=>q
theorem Un.laid(k:∀b u,h.get? b=Z u->h'.get? b=Z u)(hp:h.objs.size<=a)(hn:H a=Y):Un fs ex H (upd H a o) h h' where
 keep:=λb u q _ _ _=>k b u q
 slot:=λb u q _ _ _=>⟨u.slots,k b u q⟩
 free:=λb u q n _=>by rw[d6 (nN1 (nL1 (hL1 q) hp))];exact n
 there:=λb u q _=>⟨u,k b u q⟩
 tups:=λb xs q=>by rw[d6 (eu q hn)];exact q
 frzs:=λb u xs q=>by rw[d6 (eu q hn)];exact q
 tbls:=λb ps q=>⟨#[],by rw[d6 (eu q hn),q];simp⟩
theorem Un.write(mu:Kx (H x))(he:e=x\/H e=Z (.own x))(k:∀b u,b≠e->h.get? b=Z u->h'.get? b=Z u)(d:∃u,h'.get? e=Z u):Un fs ex H (upd H x o) h h':=by
 have f:∀b,H b=Y->b≠x:=λb n z=>by subst z;rw[n]at mu;exact mu
 have g:∀b,H b=Y->b≠e:=λb n z=>by
  subst z;rcases he with r|r
  ·exact f b n r
  ·rw[n]at r;cases r
 have c:∀b u,H b=Z u -> ¬ Kx (Z u)->b≠x:=λb u q nm z=>by subst z;rw[q]at mu;exact nm mu
 refine⟨λb u q n _ _=>k b u (g b n) q,λb u q n _ _=>⟨u.slots,k b u (g b n) q⟩,λb u q n _=>by rw[d6 (f b n)];exact n,λb u q _=>?_,
  λb xs q=>by rw[d6 (c b _ q λz=>z)];exact q,λb u xs q=>by rw[d6 (c b _ q λz=>z)];exact q,λb ps q=>⟨#[],by rw[d6 (c b _ q λz=>z),q];simp⟩⟩
 by_cases a:b=e
 ·subst a;exact d
 ·exact⟨u,k b u a q⟩
end
noncomputable def trk(h:dB)(H:Hp):List dk:=(af h.objs.size).filter λa=>(H a).isSome
def sZ(h:dB)(H:Hp):dB:=PySem.W.hideAll h (trk h H)
theorem zG(h:dB)(H:Hp):(sZ h H).objs.size=h.objs.size:=PySem.W.hideAll_size _ _
theorem CG{h:dB}{H:Hp}{b:dk}{o:Obj}(e:h.get? b=Z o)(n:H b=Y):(sZ h H).get? b=Z o:=
 PySem.W.hideAll_get _ e λa=>by
  have q:(H b).isSome=M:=(aB.mp a).2;rw[n]at q;simp at q
theorem Fd{h:dB}{H:Hp}{b:dk}{o:Obj}(e:(sZ h H).get? b=Z o):h.get? b=Z o/\H b=Y:=by
 have a:h.get? b=Z o:=PySem.W.of_hideAll (trk h H) e;refine⟨a,?_⟩;cases q:H b with
 |none=>rfl
 |some x=>
  have c:b∈trk h H:=aB.mpr ⟨aC.mpr (hL1 a),by simp[q]⟩;have z:(sZ h H).get? b=Y:=PySem.W.hideAll_none (trk h H) c;rw[z]at e;cases e
noncomputable def GG(g h:dB)(L:dk):List (dk×Obj):=(af h.objs.size).filterMap λa=>if a=L\/(g.get? a).isSome=M then Y else(h.get? a).map λo=>(a,o)
def rest(g h:dB)(L d:dk):List (dk×Obj):=(GG g h L).filter λp=>decide (p.1≠d)
structure Mod (K:Fg1)(mg:Str->Option di)(base:dB):Prop where
 kin:K.In base
 glob:base.Ns dv mg
 blt:∃mb,base.Ns builtinsNs mb /\ ∀x:Str,x≠"__name__"->mb x=Po x
 nolimit:base.NoLimit
structure Cx where
 prog:dn
 w:dr
 K:Fg1
 mg:Str->Option di
 base:dB
 A:dq
 N:List Str
 s₀:dj
 H₀:Hp
 env:Env
 outer:List Env
 stack:List Env
 ex:List dk
 fn:Str->Bool
 calm:Bool
 pn:List (dk×Obj)
 xe:di->dj->Prop
noncomputable def frs(l:List Env):List dk:=l.filterMap (·.frame)
abbrev Cx.fs(X:Cx):List dk:=frs X.outer
def Vis(sc:dF)(x:Str):Prop:=sc.names.lookup x=Z .local\/sc.names.lookup x=Z .cell\/sc.names.lookup x=Z .free
def vy(sc:dF)(x:Str):Prop:=sc.names.lookup x=Z .local\/sc.names.lookup x=Z .cell
def NZ(env:Env)(h:dB)(m:Str->Option di)(x:Str)(u:di):Prop:=
 (env.kindOf x=Z .local/\m x=Z u)\/((env.kindOf x=Z .cell\/env.kindOf x=Z .free) /\ ∃c,env.cells.lookup x=Z c/\h.IsCell c (Z u))
structure Cx.Ok (X:Cx):Prop where
 mod:Mod X.K X.mg X.base
 kind:X.env.scope.kind = .function
 glob:X.env.globals=dv
 blt:X.env.builtins=builtinsNs
 above:X.s₀.heap.objs.size<=X.env.locals
 inj:∀x y c,X.env.cells.lookup x=some c->X.env.cells.lookup y=some c->x=y
 has:∀x,(X.env.kindOf x=some .cell\/X.env.kindOf x=some .free) -> ∃c,X.env.cells.lookup x=some c
 cab:∀x c,X.fn x=true->X.env.cells.lookup x=some c->X.s₀.heap.objs.size<=c
 hd:X.calm=true->X.A.handled=none
 frames:X.A.frames=some X.stack
 stk:X.stack=X.outer\/(X.stack=X.env::X.outer/\X.env.frame=some X.env.locals)
 exf:∀b∈X.ex,b≠X.env.locals /\ ∀x c,X.env.cells.lookup x=some c->c≠b
 bs:∀b o,X.base.get? b=some o->X.s₀.heap.get? b=some o/\X.H₀ b=none
 bsz:X.base.objs.size<=X.s₀.heap.objs.size
 noex:∀b o,X.base.get? b=some o->b∉X.ex
 exfs:∀b∈X.ex,b∉X.fs
 funs:X.s₀.heap.FunFrames X.base X.outer
 frf:∀b∈X.fs,X.H₀ b=none
structure Inv (X:Cx)(ag:List (dk×Obj))(σ:List (Option V))(H:Hp)(s:dj):Prop where
 ok:X.Ok
 os:s.os=X.s₀.os
 bare:Pp s.gens
 base:Un X.fs X.ex X.H₀ H X.s₀.heap s.heap
 loc:∃m,s.heap.Ns X.env.locals m /\ ∀(i:Nat) (x:Str) (v:V),X.N[i]?=some x->σ[i]?=some (some v)->Vis X.env.scope x -> ∃u,d3 v u/\NZ X.env s.heap m x u
 cell:∀x c,X.env.cells.lookup x=some c -> ∃v,s.heap.IsCell c v
 free:H X.env.locals=none
 freeC:∀x c,X.env.cells.lookup x=some c->H c=none
 pin:∀p∈X.pn++ag,s.heap.get? p.1=some p.2/\H p.1=none/\p.1≠X.env.locals/\p.1∉X.fs /\ ∀v,p.2.data ≠ .cell v
 hok:lr X.prog X.w H s.heap
 len:σ.length=X.N.length
variable{X:Cx}
section
variable{ag:List (dk×Obj)}{σ:List (Option V)}{H H':Hp}{s:dj}{h':dB}
theorem Cx.Ok.nofr(ok:X.Ok){b:dk}{o:Obj}(e:X.base.get? b=Z o):b∉X.fs:=λa=>by
 have:=(ok.funs.mem a).1;rw[e]at this;cases this
theorem Inv.bs(I:Inv X ag σ H s):∀b o,X.base.get? b=Z o->s.heap.get? b=Z o/\H b=Y:=λb o e=>
 ⟨I.base.keep b o (I.ok.bs b o e).1 (I.ok.bs b o e).2 (I.ok.nofr e) (I.ok.noex b o e),I.base.free b o (I.ok.bs b o e).1 (I.ok.bs b o e).2 (I.ok.noex b o e)⟩
theorem Inv.bk(I:Inv X ag σ H s):∀b o,X.base.get? b=Z o->s.heap.get? b=Z o:=λb o e=>(I.bs b o e).1
theorem Inv.mod(I:Inv X ag σ H s):Mod X.K X.mg X.base:=I.ok.mod
theorem Inv.kIn(I:Inv X ag σ H s):X.K.In s.heap:=I.ok.mod.kin.keeps I.bk
theorem Inv.lt(I:Inv X ag σ H s):X.env.locals<s.heap.objs.size:=let ⟨_,hn,_⟩:=I.loc;hn.lt
theorem Inv.sz(I:Inv X ag σ H s):X.s₀.heap.objs.size<=s.heap.objs.size:=aD I.ok.above (Nat.le_of_lt I.lt)
theorem Inv.nofs(I:Inv X ag σ H s){a:dk}(h:s.heap.objs.size<=a):a∉X.fs:=λb=>by
 obtain⟨_,o,c,_⟩:=I.ok.funs.mem b;exact absurd (nL1 (hL1 c) (aD I.sz h)) (aA _)
theorem Inv.cne(I:Inv X ag σ H s):∀x c,X.env.cells.lookup x=Z c->c≠X.env.locals:=λx c e z=>by
 obtain⟨v,o,f,d⟩:=I.cell x c e;obtain⟨m,⟨o',es,ep,b,a,_⟩,_⟩:=I.loc;rw[z,b]at f;cases f;rw[a]at d;cases d
theorem Inv.funs(I:Inv X ag σ H s):s.heap.FunFrames X.base X.outer:=by
 have all:∀(l:List Env),(∀b∈frs l,b∈X.fs)->X.s₀.heap.FunFrames X.base l->s.heap.FunFrames X.base l:=by
  intro l
  induction l with
  |nil=>intro _ _;trivial
  |cons j r ih=>
   intro f m;obtain⟨k,⟨L,o,c,g,n,h⟩,i⟩:=m;have a:L∈X.fs:=f L (by unfold frs;rw[aE,c];exact mS1);obtain⟨p,e⟩:=I.base.slot L o n (I.ok.frf L a) a λz=>I.ok.exfs L z a;exact⟨k,⟨L,_,c,g,e,h⟩,ih (λb d=>f b (by unfold frs;rw[aE,c];exact mC1 _ d)) i⟩
 exact all X.outer (λ_ d=>d) I.ok.funs
theorem Inv.stack(I:Inv X ag σ H s):s.heap.FunFrames X.base X.stack:=by
 rcases I.ok.stk with e|⟨e,b⟩
 ·rw[e];exact I.funs
 ·rw[e];obtain⟨m,a,_⟩:=I.loc;refine .cons (by rw[I.ok.kind];decide) b a ?_ I.funs;exact Pq (aD I.ok.bsz I.ok.above)
theorem Inv.stkSub(I:Inv X ag σ H s):∀b∈frs X.stack,b∈X.env.locals::X.fs:=λb a=>by
 rcases I.ok.stk with e|⟨e,c⟩
 ·rw[e]at a;exact mC1 _ a
 ·rw[e]at a;unfold frs at a;rw[aE,c]at a;exact a
theorem Inv.stkFree(I:Inv X ag σ H s):∀b∈frs X.stack,H b=Y:=λb a=>by
 rcases aF.mp (I.stkSub b a)with e|a
 ·rw[e];exact I.free
 ·obtain⟨_,o,c,_⟩:=I.ok.funs.mem a;exact I.base.free b o c (I.ok.frf b a) λz=>I.ok.exfs b z a
theorem Inv.step{g':Array GenState}{t':Nat}{d':Drawn}{ch:List dk}(I:Inv X ag σ H s)(g:∀b∈ch,(b∈X.ex\/X.s₀.heap.objs.size<=b)/\b≠X.env.locals/\(∀x c,X.env.cells.lookup x=some c->c≠b) /\ ∀p∈X.pn++ag,p.1≠b)(keep:∀b o,b≠X.env.locals->b∉X.fs->b∉ch->s.heap.get? b=some o->H b=none->h'.get? b=some o)(slot:∀b o,b≠X.env.locals->b∈X.fs->b∉ch->s.heap.get? b=some o->H b=none -> ∃L,h'.get? b=some {o with slots:=L})(free:∀b o,b∉ch->s.heap.get? b=some o->H b=none->H' b=none)(y:∀b o,b∉ch->s.heap.get? b=some o -> ∃o',h'.get? b=some o')(B:∀b xs,H b=some (.tup xs)->H' b=some (.tup xs))(E:∀b o u,H b=some (.frz o u)->H' b=some (.frz o u))(C:∀b ps,H b=some (.tbl ps) -> ∃more,H' b=some (.tbl (ps++more)))(ns:∀m,s.heap.Ns X.env.locals m->h'.Ns X.env.locals m)(ao:lr X.prog X.w H' h')(hg:Pp g'):
  Inv X ag σ H' {s with heap:=h',gens:=g',drawn:=d',toks:=t'}:=by
 have F:∀b o,X.s₀.heap.get? b=Z o->b≠X.env.locals:=λb o e=>nN1 (nL1 (hL1 e) I.ok.above);have j:∀b o,X.s₀.heap.get? b=Z o->b∉X.ex->b∉ch:=λb o e a w=>by
  rcases(g b w).1 with z|z
  ·exact a z
  ·exact absurd (nL1 (hL1 e) z) (aA _)
 have h:∀x c,X.env.cells.lookup x=Z c -> ∀v,s.heap.IsCell c v->h'.IsCell c v:=λx c e v ⟨o,A,G⟩=>by
  have f:c∉ch:=λz=>(g c z).2.2.1 x c e O;by_cases hc:c∈X.fs
  ·obtain⟨L,q⟩:=slot c o (I.cne x c e) hc f A (I.freeC x c e);exact⟨_,q,G⟩
  ·exact⟨o,keep c o (I.cne x c e) hc f A (I.freeC x c e),G⟩
 refine⟨I.ok,I.os,hg,⟨λb o e n w a=>?_,λb o e n w a=>?_,λb o e n a=>?_,λb o e a=>?_,λb xs e=>B b xs (I.base.tups b xs e),λb o xs e=>E b o xs (I.base.frzs b o xs e),λb ps e=>?_⟩,?_,λx c e=>?_,?_,λx c e=>?_,λp N=>?_,ao,I.len⟩
 ·exact keep b o (F b o e) w (j b o e a) (I.base.keep b o e n w a) (I.base.free b o e n a)
 ·obtain⟨L,t⟩:=I.base.slot b o e n w a;obtain⟨K,D⟩:=slot b _ (F b o e) w (j b o e a) t (I.base.free b o e n a);exact⟨K,D⟩
 ·obtain⟨o',t⟩:=I.base.there b o e a;exact free b o' (j b o e a) t (I.base.free b o e n a)
 ·obtain⟨o',t⟩:=I.base.there b o e a;exact y b o' (j b o e a) t
 ·obtain⟨m1,t⟩:=I.base.tbls b ps e;obtain⟨m2,D⟩:=C b _ t;exact⟨m1++m2,by rw[D,Array.append_assoc]⟩
 ·obtain⟨m,av,Q⟩:=I.loc;refine⟨m,ns m av,λi x v t D P=>?_⟩;obtain⟨u,r,l⟩:=Q i x v t D P;refine⟨u,r,?_⟩;rcases l with l|⟨k,c,e,z⟩
  ·exact .inl l
  ·exact .inr ⟨k,c,e,h x c e _ z⟩
 ·obtain⟨v,z⟩:=I.cell x c e;exact⟨v,h x c e v z⟩
 ·obtain⟨m,⟨o,_,_,A,_⟩,_⟩:=I.loc;exact free _ o (λz=>(g _ z).2.1 O) A I.free
 ·obtain⟨v,o,A,G⟩:=I.cell x c e;exact free c o (λz=>(g c z).2.2.1 x c e O) A (I.freeC x c e)
 ·obtain⟨e,n,ne,aq,d⟩:=I.pin p N;have f:p.1∉ch:=λz=>(g p.1 z).2.2.2 p N O;exact⟨keep p.1 p.2 ne aq f e n,free p.1 p.2 f e n,ne,aq,d⟩
theorem Inv.un{t':Nat}(I:Inv X ag σ H s)(u:Un X.fs [] H H' s.heap h')(c:lr X.prog X.w H' h'):Inv X ag σ H' {s with heap:=h',toks:=t'}:=by
 obtain⟨m,⟨o,es,ep,h,r⟩,_⟩:=id I.loc;obtain⟨p,i⟩:=u.any h I.free (by simp);exact I.step (g':=s.gens) (d':=s.drawn) (ch:=[]) (λ_ z=>nomatch z) (λb o _ f _ e n=>u.keep b o e n f (by simp)) (λb o _ f _ e n=>u.slot b o e n f (by simp)) (λb o _ e n=>u.free b o e n (by simp)) (λb o _ e=>u.there b o e (by simp)) u.tups u.frzs u.tbls (λl j=>by
  obtain⟨o',g,d,a,k⟩:=j;rw[h]at a;cases a;exact⟨_,g,d,i,k⟩) c I.bare
theorem Inv.call{g':Array GenState}{t':Nat}{d':Drawn}{ch:List dk}(I:Inv X ag σ H s)(u:Un (frs X.stack) ch H H' s.heap h')(g:lr X.prog X.w H' h')(hg:Pp g')(d:∀b∈ch,(b∈X.ex\/X.s₀.heap.objs.size<=b)/\b≠X.env.locals/\(∀x c,X.env.cells.lookup x=some c->c≠b) /\ ∀p∈X.pn++ag,p.1≠b):
  Inv X ag σ H' {s with heap:=h',gens:=g',drawn:=d',toks:=t'}:=by
 obtain⟨m,⟨o,es,ep,j,r⟩,_⟩:=id I.loc;obtain⟨v,f⟩:=u.any j I.free λz=>(d _ z).2.1 O;exact I.step (ch:=ch) d (λb o f q hc e n=>u.keep b o e n (λz=>(aF.mp (I.stkSub b z)).elim f q) hc) (λb o _ _ hc e n=>u.any e n hc) (λb o hc e n=>u.free b o e n hc) (λb o hc e=>u.there b o e hc) u.tups u.frzs u.tbls (λt k=>by
  obtain⟨o',i,h,a,l⟩:=k;rw[j]at a;cases a;exact⟨_,i,h,f,l⟩) g hg
theorem Inv.turned{t':Nat}{it:dk}(I:Inv X ag σ H s)(k:∀ b o,b≠it->s.heap.get? b=Z o->h'.get? b=Z o)(hn:H it=Y)(d:it≠X.env.locals)(h1:it∈X.ex\/X.s₀.heap.objs.size<=it)(h2:∀x c,X.env.cells.lookup x=Z c->c≠it)(f:∀p∈X.pn++ag,p.1≠it):Inv X ag σ H {s with heap:=h',toks:=t'}:=by
 have a:∀b u,H b=Z u->b≠it:=λb u e z=>by rw[z,hn]at e;cases e
 refine I.step (g':=s.gens) (d':=s.drawn) (ch:=[it]) (λb i=>?_) (λb o _ _ hc e _=>k b o (λz=>hc (by simp[z])) e) (λb o _ _ hc e _=>⟨o.slots,k b o (λz=>hc (by simp[z])) e⟩) (λ_ _ _ _ n=>n)
  (λb o hc e=>⟨o,k b o (λz=>hc (by simp[z])) e⟩) (λ_ _ e=>e) (λ_ _ _ e=>e) (λb ps e=>⟨#[],by rw[e];simp⟩) (λm g=>?_) (λb u e=>?_) I.bare
 ·have e:b=it:=by simpa using i
  subst e;exact⟨h1,d,h2,f⟩
 ·obtain⟨o,es,ep,h,r⟩:=g;exact⟨o,es,ep,k _ o (Pr d) h,r⟩
 ·refine(I.hok b u e).stay (λc v hc q=>k c v ?_ q) (λ_ q=>q) λ_ _ q=>q;rcases hc with z|z
  ·rw[z];exact a b u e
  ·exact a c _ z
theorem Inv.tok(I:Inv X ag σ H s)(t:Nat):Inv X ag σ H {s with toks:=t}:=I.un (h':=s.heap) (t':=t) Un.refl I.hok
theorem Inv.kept{t':Nat}(I:Inv X ag σ H s)(k:∀b u,s.heap.get? b=Z u->h'.get? b=Z u):Inv X ag σ H {s with heap:=h',toks:=t'}:=I.un (Un.kept k) (I.hok.kept k)
theorem Inv.laid{a:dk}{o:HO}{t':Nat}(I:Inv X ag σ H s)(k:∀ b u,s.heap.get? b=some u->h'.get? b=some u)(hp:s.heap.objs.size<=a)(new:eQ X.prog X.w (upd H a o) h' a o):
  Inv X ag σ (upd H a o) {s with heap:=h',toks:=t'}:=I.un (Un.laid k hp (I.hok.fresh hp)) (I.hok.laid k hp new)
theorem Inv.write{x e:dk}{o:HO}{t':Nat}(I:Inv X ag σ H s)(mu:Kx (H x))(he:e=x\/H e=Z (.own x))(k:∀ b u,b≠e->s.heap.get? b=Z u->h'.get? b=Z u)(a:∃ u,h'.get? e=Z u)(new:eQ X.prog X.w (upd H x o) h' x o):Inv X ag σ (upd H x o) {s with heap:=h',toks:=t'}:=I.un (Un.write mu he k a) (I.hok.write mu he k a new)
theorem Inv.pins_of{a:List (dk×Obj)}(I:Inv X ag σ H s)(h:∀p∈a,s.heap.get? p.1=Z p.2/\H p.1=Y/\p.1≠X.env.locals/\p.1∉X.fs /\ ∀v,p.2.data ≠ .cell v):Inv X a σ H s:=
 ⟨I.ok,I.os,I.bare,I.base,I.loc,I.cell,I.free,I.freeC,λp b=>(aG.mp b).elim (λz=>I.pin p (aH _ z)) (h p),I.hok,I.len⟩
theorem ux{N:List Str}(hN:N.Nodup){i j:Nat}{x:Str}(a:N[i]?=Z x)(b:N[j]?=Z x):i=j:=by
 obtain⟨h1,d⟩:=R1 a;obtain⟨h2,c⟩:=R1 b;exact(aI hN).mp (d.trans c.symm)
theorem yP{aq:Model}{A:dq}{E:di->dj->Prop}{i:Nat}{x:Str}{v:V}{u:di}{Q:Unit->dj->Prop}(I:Inv X ag σ H s)(hN:X.N.Nodup)(hi:X.N[i]? = Z x)(hx:vy X.env.scope x)(r:d3 v u)(h:∀s',Inv X ag (σ.set i (Z v)) H s'->(∃a,Ps a s.heap s'.heap/\(a=X.env.locals\/X.env.cells.lookup x=Z a))->Q () s')(hf:autoParam (X.fn x=M\/X.env.scope.names.lookup x=Z .local) au0):dz aq A (storeName X.env x u) Q E s:=by
 obtain⟨m,R,hl⟩:=id I.loc;have G:(X.env.scope.kind == .class||(X.env.scope.kind == .module&&X.env.locals != X.env.globals))=J:=by rw[I.ok.kind];rfl
 have w:i<σ.length:=by rw[I.len];exact(R1 hi).1
 have cne:=I.cne;have tracked:∀{a:dk} {h':dB},(∃o,s.heap.get? a=Z o/\H a=Y)->Ps a s.heap h'->lr X.prog X.w H h':=λ{a h'} ha f b ob e=>by
  obtain⟨_,_,l⟩:=ha;refine(I.hok b ob e).stay (λc av hc q=>(f.2 c ?_).trans q) (λ_ q=>q) λ_ _ q=>q;rintro rfl;rcases hc with rfl|hc
  ·rw[l]at e;cases e
  ·rw[l]at hc;cases hc
 rcases hx with B|B
 ·refine wpAny_storeName_local B R (λh' au f=>?_) G;obtain⟨oL,_,_,W,_⟩:=id R;refine h _ ⟨I.ok,I.os,I.bare,⟨λb o e n D hx=>?_,λb o e n D hx=>?_,I.base.free,λb o e hx=>?_,I.base.tups,I.base.frzs,I.base.tbls⟩,⟨_,au,λj y wq g t e3=>?_⟩,λy c e=>?_,I.free,I.freeC,λp T=>?_,tracked ⟨oL,W,I.free⟩ f,by simpa using I.len⟩ ⟨_,f,.inl O⟩
  ·exact(f.2 b (nN1 (nL1 (hL1 e) I.ok.above))).trans (I.base.keep b o e n D hx)
  ·obtain⟨sl,g⟩:=I.base.slot b o e n D hx;exact⟨sl,(f.2 b (nN1 (nL1 (hL1 e) I.ok.above))).trans g⟩
  ·obtain⟨o',g⟩:=I.base.there b o e hx;exact⟨o',(f.2 b (nN1 (nL1 (hL1 e) I.ok.above))).trans g⟩
  ·by_cases C:j=i
   ·subst C;rw[hi]at g;cases g;rw[aJ w]at t;cases t;exact⟨u,r,.inl ⟨B,by simp⟩⟩
   ·rw[gS1 (Pr C)]at t;obtain⟨u',U,q⟩:=hl j y wq g t e3;refine⟨u',U,?_⟩;rcases q with⟨k,e⟩|⟨k,c,e,z⟩
    ·refine .inl ⟨k,?_⟩;have:y≠x:=λe=>C (ux hN g (e ▸ hi));simp[this,e]
    ·exact .inr ⟨k,c,e,z.sameBut f (cne y c e)⟩
  ·obtain⟨av,z⟩:=I.cell y c e;exact⟨av,z.sameBut f (cne y c e)⟩
  ·obtain⟨e,n,ne,S,d⟩:=I.pin p T;exact⟨(f.2 p.1 ne).trans e,n,ne,S,d⟩
 ·have F:X.fn x=true:=by
   rcases hf with z|z
   ·exact z
   ·rw[z]at B;cases B
  obtain⟨c,hc⟩:=I.ok.has x (.inl B);obtain⟨av,z⟩:=I.cell x c hc;refine wpAny_storeName_cell I.ok.kind B hc z (λh' N f=>?_);obtain⟨oc,K,ao⟩:=id z;refine h {s with heap:=h'} ⟨I.ok,I.os,I.bare,⟨λb o e n D hx=>?_,λb o e n D hx=>?_,I.base.free,λb o e hx=>?_,I.base.tups,I.base.frzs,I.base.tbls⟩,⟨m,R.sameBut f (Pr (cne x c hc)),λj y wq g t e3=>?_⟩,λy P e=>?_,I.free,I.freeC,λp T=>?_,tracked ⟨oc,K,I.freeC x c hc⟩ f,by simpa using I.len⟩ ⟨c,f,.inr hc⟩
  ·exact(f.2 b (nN1 (nL1 (hL1 e) (I.ok.cab x c F hc)))).trans (I.base.keep b o e n D hx)
  ·obtain⟨sl,g⟩:=I.base.slot b o e n D hx;exact⟨sl,(f.2 b (nN1 (nL1 (hL1 e) (I.ok.cab x c F hc)))).trans g⟩
  ·obtain⟨o',g⟩:=I.base.there b o e hx;exact⟨o',(f.2 b (nN1 (nL1 (hL1 e) (I.ok.cab x c F hc)))).trans g⟩
  ·by_cases C:j=i
   ·subst C;rw[hi]at g;cases g;rw[aJ w]at t;cases t;exact⟨u,r,.inr ⟨.inl B,c,hc,N⟩⟩
   ·rw[gS1 (Pr C)]at t;obtain⟨u',U,q⟩:=hl j y wq g t e3;refine⟨u',U,?_⟩;rcases q with q|⟨k,P,e,z'⟩
    ·exact .inl q
    ·refine .inr ⟨k,P,e,z'.sameBut f ?_⟩;rintro rfl;exact C (ux hN g (I.ok.inj _ _ _ e hc ▸ hi))
  ·by_cases L:P=c
   ·subst L;exact⟨_,N⟩
   ·obtain⟨w2,z2⟩:=I.cell y P e;exact⟨w2,z2.sameBut f L⟩
  ·obtain⟨e,n,ne,S,d⟩:=I.pin p T;refine⟨(f.2 p.1 ?_).trans e,n,ne,S,d⟩;intro q;rw[q,K]at e;have q':oc=p.2:=Option.some.inj e;exact d av (by rw[<- q'];exact ao)
theorem jx{aq:Model}{A:dq}{E:di->dj->Prop}{i:Nat}{x:Str}{v:V}{u:di}{Q:Unit->dj->Prop}(I:Inv X ag σ H s)(hN:X.N.Nodup)(hi:X.N[i]? = Z x)(hx:vy X.env.scope x)(r:d3 v u)(h:∀s',Inv X ag (σ.set i (Z v)) H s'->Q () s')(hf:autoParam (X.fn x=M\/X.env.scope.names.lookup x=Z .local) au0):dz aq A (storeName X.env x u) Q E s:=
 yP I hN hi hx r (λs' a _=>h s' a) hf
theorem Inv.call'{s':dj}{ch:List dk}(I:Inv X ag σ H s)(ho:s'.os=s.os)(u:Un (frs X.stack) ch H H' s.heap s'.heap)(a:lr X.prog X.w H' s'.heap)(hg:Pp s'.gens)(d:∀b∈ch,(b∈X.ex\/X.s₀.heap.objs.size<=b)/\b≠X.env.locals/\(∀x c,X.env.cells.lookup x=Z c->c≠b) /\ ∀p∈X.pn++ag,p.1≠b):Inv X ag σ H' s':=by
 obtain⟨h',g,f,h,o'⟩:=s';have e:o'=s.os:=ho;subst e;exact I.call (g':=g) (t':=h) (d':=f) u a hg d
end
abbrev XK:=di->Option dk->Hp->Prop
abbrev St:=List (Option V)
abbrev VK:=V->Hp->Prop
abbrev TE:=St->Hp->VK->Prop
abbrev TT:=St->Hp->(Bool->Hp->Prop)->Prop
abbrev TA:=St->Hp->(List V->Hp->Prop)->Prop
structure ju where
 nx:St->Hp->Prop
 rt:VK
 bk:St->Hp->Prop:=λ_ _=>False
 ct:St->Hp->Prop:=λ_ _=>False
abbrev TS:=ju->St->Hp->Prop
def EP(X:Cx)(ag:List (dk×Obj))(σ:St)(Q:VK)(u:di)(s':dj):Prop:=∃v H',Inv X ag σ H' s'/\d3 v u/\Q v H'
def TP(X:Cx)(ag:List (dk×Obj))(σ:St)(Q:Bool->Hp->Prop)(b:Bool)(s':dj):Prop:=∃H',Inv X ag σ H' s'/\Q b H'
def AP(X:Cx)(ag:List (dk×Obj))(σ:St)(Q:List V->Hp->Prop)(us:List di)(s':dj):Prop:=∃vs H',Inv X ag σ H' s'/\ed vs us/\Q vs H'
def SP(X:Cx)(ag:List (dk×Obj))(D:ju)(f:Flow)(s':dj):Prop:=
 match f with
 | .next=>∃ σ' H',Inv X ag σ' H' s'/\D.nx σ' H'
 | .brk=>∃ σ' H',Inv X ag σ' H' s'/\D.bk σ' H'
 | .cont=>∃ σ' H',Inv X ag σ' H' s'/\D.ct σ' H'
 | .ret u=>∃v σ' H',Inv X ag σ' H' s'/\d3 v u/\D.rt v H'
def PE(X:Cx)(e:Expr)(t:TE):Prop:=
 ∀(ag:List (dk×Obj)) (s:dj) (σ:St) (H:Hp) (Q:VK),Inv X ag σ H s->t σ H Q->dz (Pt X.prog X.w) X.A (eval e X.env) (EP X ag σ Q) X.xe s
def PT(X:Cx)(e:Expr)(t:TT):Prop:=
 ∀(ag:List (dk×Obj)) (s:dj) (σ:St) (H:Hp) (Q:Bool->Hp->Prop),Inv X ag σ H s->t σ H Q->dz (Pt X.prog X.w) X.A (isTrue e X.env (eval e X.env)) (TP X ag σ Q) X.xe s
def PW(X:Cx)(e:Expr)(t:TT):Prop:=
 ∀(whole:Sem di) (ag:List (dk×Obj)) (s:dj) (σ:St) (H:Hp) (Q:Bool->Hp->Prop),Inv X ag σ H s->t σ H Q->dz (Pt X.prog X.w) X.A (isTrue e X.env whole) (TP X ag σ Q) X.xe s
theorem PW.pt{X:Cx}{e:Expr}{t:TT}(h:PW X e t):PT X e t:=h _
def PA(X:Cx)(es:List Expr)(t:TA):Prop:=
 ∀(pos:Pos) (ag:List (dk×Obj)) (s:dj) (σ:St) (H:Hp) (Q:List V->Hp->Prop),Inv X ag σ H s->t σ H Q->dz (Pt X.prog X.w) X.A (spliced (Pu pos (dw es X.env))) (AP X ag σ Q) X.xe s
def PS(X:Cx)(st:dE)(t:TS):Prop:=
 ∀(ag:List (dk×Obj)) (s:dj) (σ:St) (H:Hp) (D:ju),Inv X ag σ H s->t D σ H->dz (Pt X.prog X.w) X.A (exec st X.env) (SP X ag D) X.xe s
def vE(X:Cx)(st:List dE)(t:TS):Prop:=
 ∀(ag:List (dk×Obj)) (s:dj) (σ:St) (H:Hp) (D:ju),Inv X ag σ H s->t D σ H->dz (Pt X.prog X.w) X.A (execs st X.env) (SP X ag D) X.xe s
theorem fh{α:Type}{t:Sem α}{Q b:α->dj->Prop}{aq:Model}{A:dq}{E:di->dj->Prop}{s:dj}(h:dz aq A t Q E s)(c:∀a s,Q a s->b a s):dz aq A t b E s:=Pv h c λ_ _ x=>x
section
theorem Pb{a b:Expr}{ta tb:TE}(ha:PE X a ta)(hb:PE X b tb){ag:List (dk×Obj)}{s:dj}{σ:St}{H:Hp}{R:V->V->Hp->Prop}(I:Inv X ag σ H s)(h:ta σ H fun x H1=>tb σ H1 fun y H2=>R x y H2){α:Type}{Q:α->dj->Prop}{f:di->di->Sem α}(hf:∀v u e x y H2,Inv X ag σ H2 e->d3 x v->d3 y u->R x y H2->dz (Pt X.prog X.w) X.A (f v u) Q X.xe e):
  dz (Pt X.prog X.w) X.A (eval a X.env) (λv d=>dz (Pt X.prog X.w) X.A (eval b X.env) (λu c=>dz (Pt X.prog X.w) X.A (f v u) Q X.xe c) X.xe d) X.xe s:=by
 refine fh (ha ag s σ H _ I h) λv l ⟨x,H1,i,k,g⟩=>?_;refine fh (hb ag l σ H1 _ i g) λu e ⟨y,H2,m,r2,j⟩=>?_;exact hf v u e x y H2 m k r2 j
noncomputable def MY(i:Nat):TE:=fun σ H Q=>∃v,σ[i]?=Z (Z v)/\Q v H
noncomputable def tC(v:V):TE:=λ_ H Q=>Q v H
theorem Io {i:Nat}{x:Str}{pos:Pos}(hN:X.N[i]?=Z x)(hv:Vis X.env.scope x)(hd:autoParam ((x == ("__debug__":Str))=J) bu0)(hcd:autoParam ((x == ("__classdict__":Str))=J) bu0):PE X (.Name x pos) (MY i):=by
 intro ag s σ H Q I h;obtain⟨v,e,h⟩:=h;obtain⟨m,f,j⟩:=I.loc;obtain⟨u,r,l⟩:=j i x v hN e hv;have d:EP X ag σ Q u s:=⟨v,H,I,r,h⟩;rcases l with⟨b,g⟩|⟨b,c,hc,a⟩
 ·exact Pw (Px I.ok.kind b f g d) hd
 ·rcases b with b|b
  ·exact Pw (wpAny_loadName_cell I.ok.kind b hc a d) hd
  ·exact Pw (wpAny_loadName_free I.ok.kind b hc a d hcd) hd
theorem Ix{i j pos}:PE X (.Constant (.int i) j pos) (tC (.int i)):=λ_ _ _ H _ I h=>wpAny_Constant_int ⟨.int i,H,I.tok _,⟨_,O⟩,h⟩
theorem Lo{b j pos}:PE X (.Constant (.bool b) j pos) (tC (.bl b)):=λ_ _ _ H _ I h=>Constant_bool ⟨.bl b,H,I,O,h⟩
theorem Iv{j pos}:PE X (.Constant .none j pos) (tC .non):=λ_ _ _ H _ I h=>Constant_none ⟨.non,H,I,O,h⟩
theorem Iq{x j pos}:PE X (.Constant (.str x) j pos) (tC (.str x)):=λ_ _ _ H _ I h=>Calls.Constant_str ⟨.str x,H,I.tok _,⟨_,O⟩,h⟩
def Gl(X:Cx)(x:Str):Prop:=X.env.kindOf x=Z .globalImplicit
theorem xR {E:di->dj->Prop}{ag:List (dk×Obj)}{s:dj}{σ:St}{H:Hp}{x:Str}{u:di}{pos:Pos}{Q:di->dj->Prop}(I:Inv X ag σ H s)(hg:Gl X x)(hm:X.mg x=some u)(h:Q u s)
  (hd:autoParam ((x == ("__debug__":Str))=J) bu0):dz (Pt X.prog X.w) X.A (eval (.Name x pos) X.env) Q E s:=
 Calls.Name_function_global I.ok.kind hg (Calls.loadGlobal_global (by rw[I.ok.glob];exact I.mod.glob.keeps I.bk) hm h) hd
theorem jN {E:di->dj->Prop}{ag:List (dk×Obj)}{s:dj}{σ:St}{H:Hp}{x:Str}{u:di}{pos:Pos}{Q:di->dj->Prop}(I:Inv X ag σ H s)(hg:Gl X x)(hm:X.mg x=none)(hv:Po x=some u)(h:Q u s)
  (hn:autoParam (x≠"__name__") bu0) (hd:autoParam ((x == ("__debug__":Str))=J) bu0):dz (Pt X.prog X.w) X.A (eval (.Name x pos) X.env) Q E s:=by
 obtain⟨a,h1,h2⟩:=I.mod.blt;exact Calls.Name_function_global I.ok.kind hg (Calls.loadGlobal_builtin (by rw[I.ok.glob];exact I.mod.glob.keeps I.bk) hm (by rw[I.ok.blt];exact h1.keeps I.bk) ((h2 x hn).trans hv) h) hd
theorem EZ {x:Str}{v:V}{u:di}{pos:Pos}(hg:Gl X x)(hm:X.mg x=Z u)(r:d3 v u)(hd:autoParam ((x == ("__debug__":Str))=J) bu0):PE X (.Name x pos) (tC v):=
 λ_ _ _ H _ I h=>xR I hg hm ⟨v,H,I,r,h⟩ hd
theorem E6 {x:Str}{v:V}{u:di}{pos:Pos}(hg:Gl X x)(hm:X.mg x=Y)(hv:Po x=Z u)(r:d3 v u)(hn:autoParam (x≠"__name__") bu0)(hd:autoParam ((x == ("__debug__":Str))=J) bu0):PE X (.Name x pos) (tC v):=
 λ_ _ _ H _ I h=>jN I hg hm hv ⟨v,H,I,r,h⟩ hn hd
variable{a b:Expr}{ta tb:TE}{pos:Pos}
noncomputable def tB(t:TE):TT:=fun σ H Q=>t σ H λx H1=>∃c,x = .bl c/\Q c H1
variable{tA tB':TT}{rest:List Expr}
noncomputable def Nd(t u:TT):TT:=fun σ H Q=>t σ H λc H1=>if c=M then u σ H1 Q else Q J H1
noncomputable def Ot(t u:TT):TT:=fun σ H Q=>t σ H λc H1=>if c=M then Q M H1 else u σ H1 Q
noncomputable def M4(t:TT):TT:=fun σ H Q=>t σ H λc H1=>Q (!c) H1
theorem EJ(ha:PT X a tA):PW X (.BoolOp .And [a] pos) tA:=by
 intro b ag s σ H Q I h;refine isTrue_and (fh (ha ag s σ H Q I h) λc d e=>?_);cases c with
 |true=>exact isTrue_and_nil e
 |false=>exact e
theorem HY(ha:PT X a tA):PW X (.BoolOp .Or [a] pos) tA:=by
 intro b ag s σ H Q I h;refine isTrue_or (fh (ha ag s σ H Q I h) λc d e=>?_);cases c with
 |false=>exact isTrue_or_nil e
 |true=>exact e
theorem HZ(ha:PT X a tA)(hb:PW X (.BoolOp .And (b::rest) pos) tB'):PW X (.BoolOp .And (a::b::rest) pos) (Nd tA tB'):=by
 intro f ag s σ H Q I h;refine isTrue_and (fh (ha ag s σ H _ I h) λc g ⟨H1,e,d⟩=>?_);cases c with
 |true=>exact hb f ag g σ H1 Q e d
 |false=>exact⟨H1,e,d⟩
theorem Lf(ha:PT X a tA)(hb:PW X (.BoolOp .Or (b::rest) pos) tB'):PW X (.BoolOp .Or (a::b::rest) pos) (Ot tA tB'):=by
 intro f ag s σ H Q I h;refine isTrue_or (fh (ha ag s σ H _ I h) λc g ⟨H1,e,d⟩=>?_);cases c with
 |true=>exact⟨H1,e,d⟩
 |false=>exact hb f ag g σ H1 Q e d
theorem H7(ha:PT X a tA):PT X (.UnaryOp .Not a pos) (M4 tA):=by
 intro ag s σ H Q I h;exact isTrue_not (ha ag s σ H (λc H1=>Q (!c) H1) I h)
noncomputable def K3(ta tb:TE):TE:=fun σ H Q=>ta σ H λx H1=>∃c,x = .bl c/\if c=M then tb σ H1 Q else Q (.bl J) H1
noncomputable def KU(ta:TE):TE:=fun σ H Q=>ta σ H λx H1=>∃c,x = .bl c/\Q (.bl (!c)) H1
theorem Ir{op}{t:TE}(h:PE X a t):PE X (.BoolOp op [a] pos) t:=λag s σ H Q I b=>BoolOp_one (h ag s σ H Q I b)
theorem IA(ha:PE X a ta)(hb:PE X (.BoolOp .And (b::rest) pos) tb):PE X (.BoolOp .And (a::b::rest) pos) (K3 ta tb):=by
 intro ag s σ H Q I h;refine BoolOp_and (fh (ha ag s σ H _ I h) λv g ⟨x,H1,e,f,d⟩=>?_);obtain⟨c,rfl,d⟩:=d;cases f;refine Py ?_;cases c with
 |true=>exact hb ag g σ H1 Q e d
 |false=>exact⟨.bl J,H1,e,O,d⟩
theorem Iu(ha:PE X a ta):PE X (.UnaryOp .Not a pos) (KU ta):=by
 intro ag s σ H Q I h;refine UnaryOp_ (fh (ha ag s σ H _ I h) λv f ⟨x,H1,e,d,b⟩=>?_);obtain⟨c,rfl,b⟩:=b;cases d;exact not_of (Py ⟨.bl (!c),H1,e,O,b⟩)
noncomputable def Ov(t:TT)(ta tb:TE):TE:=fun σ H Q=>t σ H λc H1=>if c=M then ta σ H1 Q else tb σ H1 Q
theorem BG{c:Expr}(hc:PT X c tA)(ha:PE X a ta)(hb:PE X b tb):PE X (.IfExp c a b pos) (Ov tA ta tb):=by
 intro ag s σ H Q I h;refine wpAny_IfExp (fh (hc ag s σ H _ I h) λd g ⟨H1,f,e⟩=>?_);cases d with
 |true=>exact ha ag g σ H1 Q f e
 |false=>exact hb ag g σ H1 Q f e
end
def mU(K:Fg1)(H:Hp)(a:dk)(xs:List V):Prop:=
 Rd H a (.lst xs) \/
  ∃(o:Obj) (its:Array di) (n:Nat),K.lookup a=Z o/\o.cls = .type "list"/\o.dict=Y/\o.data = .seq its n/\its.size<=dy/\ed xs its.toList
def kA(K:Fg1)(H:Hp)(a:dk)(xs:List V):Prop:=
 Rd H a (.tup xs) \/
  ∃(o:Obj) (its:Array di) (n:Nat),K.lookup a=Z o/\o.cls = .type "tuple"/\o.dict=Y/\o.data = .seq its n/\its.size<=dy/\ed xs its.toList
noncomputable def NQ:di->Option V
 | .none=>Z .non
 | .bool b=>Z (.bl b)
 | .int i _=>Z (.int i)
 | .str x _=>Z (.str x)
 | .bytes b _=>Z (.byt b)
 | .float b _=>Z (.flt b)
 | .ref a=>Z (.ref a)
 | .type n=>Z (.ty n)
 |_=>Y
theorem d3.abs{x:V}{u:di}(r:d3 x u):NQ u=Z x:=by
 cases x with
 |non=>cases r;rfl
 |bl _=>cases r;rfl
 |int _=>obtain⟨t,rfl⟩:=r;rfl
 |str _=>obtain⟨t,rfl⟩:=r;rfl
 |byt _=>obtain⟨t,rfl⟩:=r;rfl
 |flt _=>obtain⟨t,rfl⟩:=r;rfl
 |ref _=>cases r;rfl
 |ty _=>cases r;rfl
theorem d3.inj{x y:V}{u:di}(r:d3 x u)(q:d3 y u):x=y:=Option.some.inj (r.abs.symm.trans q.abs)
theorem ed.inj:∀{xs ys:List V} {a:List di},ed xs a->ed ys a->xs=ys:=by
 intro xs ys a h g
 induction h generalizing ys with
 |nil=>cases g;rfl
 |cons r t ih=>cases g with
  |cons c b=>rw[r.inj c,ih b]
section
variable{ag:List (dk×Obj)}{σ:St}{H:Hp}{s:dj}{a:dk}{xs ys:List V}
theorem mU.of{K:Fg1}(h:H a=Z (.lst xs)):mU K H a xs:=.inl (.inl h)
theorem kA.of{K:Fg1}(h:H a=Z (.tup xs)):kA K H a xs:=.inl (.inl h)
theorem Inv.list(I:Inv X ag σ H s)(h:mU X.K H a xs):∃b:List di,ed xs b/\PlainL s.heap a b.toArray/\xs.length<=dy:=by
 rcases h with h|⟨o,b,n,d,hc,c,f,g,r⟩
 ·obtain⟨z,b,n,r,e⟩:=h.ok I.hok;exact⟨b,r,⟨_,n,e,O,O,O⟩,z⟩
 ·refine⟨b.toList,r,⟨o,n,I.kIn a o d,hc,c,by simpa using f⟩,?_⟩;have e:=r.length;simp only[aK]at e;lia
theorem Inv.tuple(I:Inv X ag σ H s)(h:kA X.K H a xs):∃b:List di,ed xs b/\IsTup s.heap a b.toArray/\xs.length<=dy:=by
 rcases h with h|⟨o,b,n,c,hc,_,d,f,r⟩
 ·obtain⟨z,b,r,p⟩:=h.ok I.hok;exact⟨b,r,p.tup,z⟩
 ·refine⟨b.toList,r,⟨o,I.kIn a o c,hc,n,by simpa using d⟩,?_⟩;have e:=r.length;simp only[aK]at e;lia
theorem Inv.tupN(I:Inv X ag σ H s)(h:kA X.K H a xs):∃b:List di,ed xs b/\mq s.heap a b.toArray/\xs.length<=dy:=by
 rcases h with h|⟨o,b,n,d,hc,c,f,g,r⟩
 ·obtain⟨z,b,r,p⟩:=h.ok I.hok;exact⟨b,r,p,z⟩
 ·refine⟨b.toList,r,⟨o,I.kIn a o d,hc,n,by simpa using f,c⟩,?_⟩;have e:=r.length;simp only[aK]at e;lia
theorem Inv.list_inj(I:Inv X ag σ H s)(h:mU X.K H a xs)(h':mU X.K H a ys):xs=ys:=by
 obtain⟨b,r,⟨o,n,e,_,_,d⟩,_⟩:=I.list h;obtain⟨its',i,⟨o',j,f,_,_,c⟩,_⟩:=I.list h';rw[e]at f;cases f;rw[d]at c;injection c with g _;have:b=its':=by simpa using congrArg Array.toList g
 subst this;exact r.inj i
theorem Inv.tuple_inj(I:Inv X ag σ H s)(h:kA X.K H a xs)(h':kA X.K H a ys):xs=ys:=by
 obtain⟨b,r,⟨o,e,_,n,d⟩,_⟩:=I.tuple h;obtain⟨its',i,⟨o',f,_,j,c⟩,_⟩:=I.tuple h';rw[e]at f;cases f;rw[d]at c;injection c with g _;have:b=its':=by simpa using congrArg Array.toList g
 subst this;exact r.inj i
end
abbrev Cx.wish(X:Cx)(E:di->dj->Prop):Cx:={X with xe:=E}
abbrev Cx.nox(X:Cx):Cx:=X.wish λ_ _=>False
theorem Cx.Ok.wish{X:Cx}(ok:X.Ok)(E:di->dj->Prop):(X.wish E).Ok:=
 ⟨ok.mod,ok.kind,ok.glob,ok.blt,ok.above,ok.inj,ok.has,ok.cab,ok.hd,ok.frames,ok.stk,ok.exf,ok.bs,ok.bsz,ok.noex,ok.exfs,ok.funs,ok.frf⟩
theorem Cx.Ok.unwish{X:Cx}{E:di->dj->Prop}(ok:(X.wish E).Ok):X.Ok:=
 ⟨ok.mod,ok.kind,ok.glob,ok.blt,ok.above,ok.inj,ok.has,ok.cab,ok.hd,ok.frames,ok.stk,ok.exf,ok.bs,ok.bsz,ok.noex,ok.exfs,ok.funs,ok.frf⟩
section
variable{ag:List (dk×Obj)}{σ:St}{H:Hp}{s:dj}{E:di->dj->Prop}
theorem Inv.wish(I:Inv X ag σ H s)(E:di->dj->Prop):Inv (X.wish E) ag σ H s:=⟨I.ok.wish E,I.os,I.bare,I.base,I.loc,I.cell,I.free,I.freeC,I.pin,I.hok,I.len⟩
theorem Inv.unwish(I:Inv (X.wish E) ag σ H s):Inv X ag σ H s:=⟨I.ok.unwish,I.os,I.bare,I.base,I.loc,I.cell,I.free,I.freeC,I.pin,I.hok,I.len⟩
theorem SP.unwish{D:ju}{f:Flow}{s':dj}(h:SP (X.wish E) ag D f s'):SP X ag D f s':=by
 cases f with
 |next=>obtain⟨a,H',I,q⟩:=h;exact⟨a,H',I.unwish,q⟩
 |brk=>obtain⟨a,H',I,q⟩:=h;exact⟨a,H',I.unwish,q⟩
 |cont=>obtain⟨a,H',I,q⟩:=h;exact⟨a,H',I.unwish,q⟩
 |ret u=>obtain⟨v,a,H',I,r,q⟩:=h;exact⟨v,a,H',I.unwish,r,q⟩
theorem vE.nox{st:List dE}{t:TS}(h:vE X.nox st t):vE X st t:=λag s σ H D I a=>
 Pv (h ag s σ H D (I.wish _) a) (λ_ _ q=>q.unwish) λ_ _ z=>Pz z
end
section
variable{st:dE}{rest:List dE}{t u:TS}{e:Expr}{te:TE}{pos:Pos}
noncomputable def KW:TS:=λD σ H=>D.nx σ H
noncomputable def M0(t u:TS):TS:=λD σ H=>t {D with nx:=u D} σ H
theorem EN:vE X [] KW:=λ_ _ σ H _ I h=>PB ⟨σ,H,I,h⟩
theorem Bt(h1:PS X st t)(h2:vE X rest u):vE X (st::rest) (M0 t u):=by
 intro ag s σ H D I h;refine wpAny_execs_cons (fh (h1 ag s σ H {D with nx:=u D} I h) λf c q=>?_);cases f with
 |next=>
  obtain⟨a,H',b,q⟩:=q;exact h2 ag c a H' D b q
 |ret v=>exact q
 |brk=>exact q
 |cont=>exact q
theorem EM(h1:PS X st t):vE X [st] t:=by
 intro ag s σ H D I h;refine wpAny_execs_cons (fh (h1 ag s σ H D I h) λf a q=>?_);cases f with
 |next=>exact PB q
 |ret v=>exact q
 |brk=>exact q
 |cont=>exact q
theorem Inv.quiet{ag:List (dk×Obj)}{σ:St}{H:Hp}{s:dj}(I:Inv X ag σ H s):interactive X.env=J:=by simp[interactive,I.ok.kind]
noncomputable def KZ(te:TE):TS:=λD σ H=>te σ H λ_ H1=>D.nx σ H1
theorem EO(he:PE X e te)(hs:autoParam (PC e Y pos.line X.env=pure J) cu0):PS X (.Expr e pos) (KZ te):=by
 intro ag s σ H D I h;exact wpAny_Expr_any (fh (he ag s σ H _ I h) λv d ⟨x,H1,b,c,a⟩=>⟨σ,H1,b,a⟩) I.quiet hs
noncomputable def M1(te:TE):TS:=λD σ H=>te σ H D.rt
theorem Ia(he:PE X e te):PS X (.Return (Z e) pos) (M1 te):=by
 intro ag s σ H D I h;exact wpAny_Return_some (fh (he ag s σ H _ I h) λv d ⟨x,H1,c,a,b⟩=>⟨x,σ,H1,c,a,b⟩)
noncomputable def M9(c:TT)(t u:TS):TS:=λD σ H=>c σ H λb H1=>if b=M then t D σ H1 else u D σ H1
theorem Lh{c:Expr}{a b:List dE}{tc:TT}(hc:PT X c tc)(ha:vE X a t)(hb:vE X b u):PS X (.If c a b pos) (M9 tc t u):=by
 intro ag s σ H D I h;refine wpAny_If (fh (hc ag s σ H _ I h) λd g ⟨H1,f,e⟩=>?_);cases d with
 |true=>exact ha ag g σ H1 D f e
 |false=>exact hb ag g σ H1 D f e
end
abbrev TG:=V->St->Hp->(St->Hp->Prop)->Prop
abbrev Hn:=List V->St->Hp->(St->Hp->Prop)->Prop
def PG(X:Cx)(target:Expr)(t:TG):Prop:=
 ∀(ag:List (dk×Obj)) (s:dj) (σ:St) (H:Hp) (v:V) (u:di) (Q:St->Hp->Prop),Inv X ag σ H s->d3 v u->t v σ H Q ->
  dz (Pt X.prog X.w) X.A (PD target X.env u) (λ_ s'=>∃ σ' H',Inv X ag σ' H' s'/\Q σ' H') X.xe s
def Kv(X:Cx)(ts:List Expr)(t:Hn):Prop:=
 ∀(ag:List (dk×Obj)) (s:dj) (σ:St) (H:Hp) (vs:List V) (us:List di) (Q:St->Hp->Prop),Inv X ag σ H s->ed vs us->t vs σ H Q ->
  dz (Pt X.prog X.w) X.A (assignInOrder ((PF ts X.env).map (·.2)) us) (λ_ s'=>∃ σ' H',Inv X ag σ' H' s'/\Q σ' H') X.xe s
abbrev Ks:=V->V->V->Hp->(Hp->Prop)->Prop
def wO(X:Cx)(t:Ks):Prop:=
 ∀(ag:List (dk×Obj)) (s:dj) (σ:St) (H:Hp) (o i v:V) (ov iv u:di) (Q:Hp->Prop),Inv X ag σ H s->d3 o ov->d3 i iv->d3 v u->t o i v H Q ->
  dz (Pt X.prog X.w) X.A (setItem ov iv u) (λ_ s'=>∃H',Inv X ag σ H' s'/\Q H') X.xe s
abbrev NX:=V->V->Hp->VK->Prop
def MQ(X:Cx)(op:PH)(t:NX):Prop:=
 ∀(ag:List (dk×Obj)) (s:dj) (σ:St) (H:Hp) (x y:V) (v u:di) (Q:VK),Inv X ag σ H s->d3 x v->d3 y u->t x y H Q ->
  dz (Pt X.prog X.w) X.A (inplaceOp op v u) (EP X ag σ Q) X.xe s
section
variable{pos:Pos}
noncomputable def ya(i:Nat):TG:=λv σ H Q=>Q (σ.set i (Z v)) H
theorem xy{i:Nat}{x:Str}(hN:X.N.Nodup)(hi:X.N[i]?=Z x)(hx:vy X.env.scope x)(hf:autoParam (X.fn x=M\/X.env.scope.names.lookup x=Z .local) au0):PG X (.Name x pos) (ya i):=by
 intro ag s σ H v u Q I r h;exact wpAny_assign_Name (jx I hN hi hx r (λs' a=>⟨_,H,a,h⟩) hf)
noncomputable def ND:Hn:=λvs σ H Q=>vs=[]/\Q σ H
noncomputable def LU(t:TG)(u:Hn):Hn:=λvs σ H Q=>∃v r,vs=v::r/\t v σ H fun σ' H'=>u r σ' H' Q
theorem EY:Kv X [] ND:=by
 intro ag s σ H vs a Q I r h;obtain⟨e,h⟩:=h;subst e;cases r;exact assignInOrder_nil ⟨σ,H,I,h⟩
theorem BD{e:Expr}{es:List Expr}{t:TG}{u:Hn}(h1:PG X e t)(h2:Kv X es u)(hs:autoParam ((PF (e::es) X.env).map (·.2)=PD e X.env::(PF es X.env).map (·.2)) cu0):Kv X (e::es) (LU t u):=by
 intro ag s σ H vs j Q I r h;obtain⟨v,i,f,h⟩:=h;subst f;cases r with
 |cons r d=>
  rw[hs];refine assignInOrder_cons (fh (h1 ag s σ H _ _ _ I r h) λ_ g ⟨a,H1,c,b⟩=>?_);exact h2 ag g a H1 _ _ Q c d b
noncomputable def gTup(K:Fg1)(n:Nat)(t:Hn):TG:=λv σ H Q=>∃a xs,v = .ref a/\kA K H a xs/\xs.length=n/\t xs σ H Q
theorem Il{es:List Expr}{k:Nat}{t:Hn}{n:Nat}(hc:X.calm=M)(h:Kv X es t)(hn:autoParam ((PF es X.env).length=n) cu0)(hst:autoParam ((PF es X.env).findIdx? (·.1)=Y) cu0):PG X (.Tuple es k pos) (gTup X.K n t):=by
 intro ag s σ H v u Q I r c;obtain⟨a,xs,j,i,l,c⟩:=c;subst j;cases r;obtain⟨g,d,p,q⟩:=I.tuple i;refine assign_Tuple_tuple (I.ok.hd hc) p (by simp[hn,<- l,d.length]) hst λh' m=>?_;have f:Inv X ag σ H {s with heap:=h'}:=I.kept (t':=s.toks) λb o e=>m b o (nN1 (hL1 e)) e;exact h ag _ σ H xs _ Q f (by simpa using d) c
noncomputable def gSub(to ti:TE)(t:Ks):TG:=λv σ H Q=>to σ H λo H1=>ti σ H1 λi H2=>t o i v H2 λH3=>Q σ H3
theorem Im{o i:Expr}{to c:TE}{t:Ks}(ho:PE X o to)(hi:PE X i c)(hs:wO X t)(ha:autoParam (∀v,PD (.Subscript o i pos) X.env v=(do
   let a<-PJ [v] (eval o X.env)
   let b<-PJ [v,a] (eval i X.env)
   PK pos
   PJ [v,a,b] (setItem a b v)
   release [v,a,b] [])) du0):PG X (.Subscript o i pos) (gSub to c t):=by
 intro ag s σ H v u Q I r h;rw[ha];refine wB1 (PM (fh (ho ag s σ H _ I h) λa l ⟨x,H1,e,j,d⟩=>?_));refine wB1 (PM (fh (hi ag l σ H1 _ e d) λb m ⟨y,H2,p,r2,g⟩=>?_));refine wB1 (PN (wB1 (PM (fh (hs ag m σ H2 x y v a b u _ p j r2 r g) λ_ q ⟨f,n,k⟩=>?_))));exact wpAny_release ⟨σ,f,n,k⟩
noncomputable def AY(te:TE)(g:TG):TS:=λD σ H=>te σ H λx H1=>g x σ H1 D.nx
theorem Ih{tg e:Expr}{te:TE}{g:TG}(he:PE X e te)(hg:PG X tg g)(hs:autoParam (PP [tg] e pos.line X.env=pure J) cu0)(hw:autoParam (PQ [tg] e X.env=pure Y) cu0)(h1:autoParam ((PF [tg] X.env).map (·.2)=[PD tg X.env]) cu0):PS X (.Assign [tg] e pos) (AY te g):=by
 intro ag s σ H D I h;refine wpAny_Assign_stores (fh (he ag s σ H _ I h) λv d ⟨x,H1,b,c,a⟩=>?_) hs hw;rw[h1];exact fh (hg ag d σ H1 x v _ b c a) λ_ f q=>q
theorem H9{i:Nat}{x:Str}{e:Expr}{te:TE}{pos':Pos}(hN:X.N.Nodup)(hi:X.N[i]? = some x)(hx:vy X.env.scope x)(he:PE X e te)(hs:autoParam (PC e (some (.Name x pos')) pos.line X.env=pure false) cu0)(hf:autoParam (X.fn x=true\/X.env.scope.names.lookup x=some .local) au0):
  PS X (.Assign [.Name x pos'] e pos) (AY te (ya i)):=by
 intro ag s σ H D I h;refine wpAny_Assign_Name (fh (he ag s σ H _ I h) λv f ⟨y,H1,b,c,a⟩=>?_) hs;exact jx b hN hi hx c (λg d=>⟨_,H1,d,a⟩) hf
noncomputable def M3(i j:Nat)(ta:TA):TS:=λD σ H=>ta σ H λvs H1=>∃v w,vs=[v,w]/\D.nx ((σ.set i (Z v)).set j (Z w)) H1
theorem Ib{i j:Nat}{x y:Str}{a b:Expr}{ta:TA}{l g pt:Pos}{kt k2 pt2}(hc:X.calm=true)(hN:X.N.Nodup)(hi:X.N[i]? = some x)(F:X.N[j]? = some y)(f:i≠j)(hx:X.env.scope.names.lookup x=some .local)(hy:X.env.scope.names.lookup y=some .local)(ha:PA X [a,b] ta)(hw:PQ [.Tuple [.Name x l,.Name y g] kt pt] (.Tuple [a,b] k2 pt2) X.env=pure (some [x,y]))(hs:autoParam (PP [.Tuple [.Name x l,.Name y g] kt pt] (.Tuple [a,b] k2 pt2) pos.line X.env=pure false) cu0):
  PS X (.Assign [.Tuple [.Name x l,.Name y g] kt pt] (.Tuple [a,b] k2 pt2) pos) (M3 i j ta):=by
 intro ag s σ H D I h;rw[exec_Assign_arm];refine wB1 (PN ?_);rw[hs];refine wB1 (wP1 ?_);rw[aj (by decide)];refine wB1 (Tuple_ (fh (ha _ ag s σ H _ I h) λz d ⟨vs,H1,B,ao,k⟩=>?_));obtain⟨v,w,G,k⟩:=k;subst G;obtain⟨c,u2,rfl,A,n⟩:∃c u2,z=[c,u2]/\d3 v c/\d3 w u2:=by
  cases ao with
  |cons p q=>
   cases q with
   |cons C u=>
    cases u;exact⟨_,_,O,p,C⟩
 refine wO1 ?_ (by show 2<=dy;decide);have E:Inv X ag σ H1 {d with heap:=d.heap.push {cls:=.type "tuple",data:=.seq [c,u2].toArray}}:=B.kept (t':=d.toks) λb o e=>hP1 _ e;rw[hw];refine wB1 (wP1 ?_);show dz (Pt X.prog X.w) X.A (do rule "assign.swapped-stores";let items<-unpackItems (.ref d.heap.objs.size) 2 Y;assignInOrder [λv=>bindName X.env y v,λv=>bindName X.env x v] items.reverse;pure Flow.next) _ _ _;refine wB1 (PR (wB1 (unpackItems_tuple (items:= #[c,u2]) (I.ok.hd hc) (IsTup.new d.heap _) λh' m=>?_)));have K:=E.kept (h':=h') (t':=d.toks) λb o e=>m b o (nN1 (hL1 e)) e;show dz _ _ (assignInOrder [λv=>bindName X.env y v,λv=>bindName X.env x v] [u2,c] >>= λ_=>pure Flow.next) _ _ _;refine wB1 (assignInOrder_cons (wpAny_bindName (jx K hN F (.inl hy) n (λaq t=>?_) (.inr hy))));refine assignInOrder_cons (wpAny_bindName (jx t hN hi (.inl hx) A (λL r=>assignInOrder_nil (wP1 ?_)) (.inr hx)));rw[List.set_comm _ _ (Pr f)]at r;exact⟨_,H1,r,k⟩
noncomputable def Nc(i:Nat)(te:TE)(ti:NX):TS:=λD σ H=>∃x,σ[i]?=Z (Z x)/\te σ H λy H1=>ti x y H1 λz H2=>D.nx (σ.set i (Z z)) H2
theorem Ig{i:Nat}{x:Str}{e:Expr}{te:TE}{op:PH}{n:NX}{pos':Pos}(hN:X.N.Nodup)(hi:X.N[i]? = some x)(hx:vy X.env.scope x)(he:PE X e te)(ho:MQ X op n)(hf:autoParam (X.fn x=true\/X.env.scope.names.lookup x=some .local) au0):
  PS X (.AugAssign (.Name x pos') op e pos) (Nc i te n):=by
 intro ag s σ H D I h;obtain⟨v,E,h⟩:=h;obtain⟨m,q,G⟩:=I.loc;have g:Vis X.env.scope x:=by rcases hx with k|k;exact .inl k;exact .inr (.inl k)
 obtain⟨u,r,l⟩:=G i x v hi E g;refine wpAny_AugAssign_Name ?_;have j:dz (Pt X.prog X.w) X.A (eval e X.env) (λw f=>dz (Pt X.prog X.w) X.A (inplaceOp op u w) (λr d=>dz (Pt X.prog X.w) X.A (storeName X.env x r) (λ_=>SP X ag D .next) X.xe d) X.xe f) X.xe s:=by
  refine fh (he ag s σ H _ I h) λw p ⟨y,H1,t,F,C⟩=>?_;refine fh (ho ag p σ H1 v y u w _ t r F C) λz L ⟨aq,H2,B,r2,o⟩=>?_;exact jx B hN hi hx r2 (λK ao=>⟨_,H2,ao,o⟩) hf
 rcases l with⟨a,A⟩|⟨a,c,hc,b⟩
 ·exact Px I.ok.kind a q A j
 ·rcases a with a|a
  ·exact wpAny_loadName_cell I.ok.kind a hc b j
  ·rcases hx with k|k
   ·have:X.env.scope.names.lookup x=Z .free:=a;rw[k]at this;cases this
   ·have:X.env.scope.names.lookup x=Z .free:=a;rw[k]at this;cases this
noncomputable def AS(c:TT)(tb:TS):TS:=λD σ H=>∃W:Nat->St->Hp->Prop,(∃m,W m σ H) /\ ∀m σ H,W m σ H ->
 c σ H λb H1=>if b=M then∃N:St->Hp->Prop,(∀ σ' H',N σ' H' -> ∃m',m'<m/\W m' σ' H')/\tb {D with nx:=N,ct:=N,bk:=D.nx} σ H1 else D.nx σ H1
theorem Bu{c:Expr}{e:List dE}{tc:TT}{tb:TS}(hp:PV (Pt X.prog X.w) X.A X.env X.xe)(hc:PT X c tc)(hb:vE X e tb):PS X (.While c e [] pos) (AS tc tb):=by
 intro ag s σ H D I h;obtain⟨W,⟨z,A⟩,g⟩:=h;refine wpAny_While (codeAny_whileLoop (λn s'=>∃i H',Inv X ag i H' s'/\W n i H') ?_ z ⟨σ,H,I,A⟩);rintro n w ⟨d,H1,y,B⟩;refine PX hp (fh (hc ag w d H1 _ y (g n d H1 B)) λb x ⟨H2,t,k⟩=>?_);cases b with
 |true=>
  obtain⟨N,u,k⟩:=k;rw[ak O];refine PX hp (fh (hb ag x d H2 _ t k) λf C l=>?_);cases f with
  |next=>
   obtain⟨a,j,r,q⟩:=l;obtain⟨p,m,o⟩:=u a j q;exact⟨p,m,a,j,r,o⟩
  |cont=>
   obtain⟨a,j,r,q⟩:=l;obtain⟨p,m,o⟩:=u a j q;exact⟨p,m,a,j,r,o⟩
  |brk=>exact l
  |ret v=>exact l
 |false=>
  rw[aj aL];exact PB ⟨d,H2,t,k⟩
end
structure It where
 go:Nat->Hp->Prop
 yld:Nat->Hp->V->Hp->Prop
 stop:Nat->Hp->Prop
def kF(X:Cx)(ag:List (dk×Obj))(H:Hp)(b:dk):Prop:=
 H b=Y/\b≠X.env.locals/\b∉X.fs/\(b∈X.ex\/X.s₀.heap.objs.size<=b)/\(∀x c,X.env.cells.lookup x=Z c->c≠b) /\ ∀p∈X.pn++ag,p.1≠b
theorem Inv.fpOk{X:Cx}{ag:List (dk×Obj)}{σ:St}{H H':Hp}{s:dj}{b:dk}(I:Inv X ag σ H s)(hb:s.heap.objs.size<=b)(hn:H' b=Y):kF X ag H' b:=by
 refine⟨hn,nG1 (nL1 I.lt hb),I.nofs hb,.inr (aD I.sz hb),λx c e z=>?_,λp a z=>?_⟩
 ·obtain⟨v,q⟩:=I.cell x c e;exact absurd (nL1 q.lt (by rw[z];exact hb)) (aA _)
 ·exact absurd (nL1 (hL1 (I.pin p a).1) (by rw[z];exact hb)) (aA _)
structure wN (P:dn)(w:dr)(K:Fg1)(tg:Expr)(ao:It)(fp:List dk)(it:dk)(tn:Nat->dB->Prop):Prop where
 mem:it∈fp
 obj:∀i h,tn i h -> ∀b∈fp,∃o,h.get? b=some o /\ ∀v,o.data ≠ .cell v
 keep:∀i h h',tn i h->(∀b∈fp,∀o,h.get? b=some o->h'.get? b=some o)->tn i h'
 item:∀(X:Cx),X.prog=P->X.w=w->X.K=K->X.calm=true -> ∀(i:Nat) (ag:List (dk×Obj)) (s:dj) (σ:St) (H:Hp) (E:di->dj->Prop),Inv X ag σ H s->(∀b∈fp,kF X ag H b)->tn i s.heap->ao.go i H ->
  dz (Pt P w) X.A (PY (.ref it)) (λr s1=>∃u,r=some u /\
   dz (Pt P w) X.A (PZ tg (.ref it) u) (λ_ s2=>∃x H',Inv X ag σ H' s2/\d3 x u/\ao.yld i H x H'/\tn (i+1) s2.heap /\ ∀b∈fp,H' b=none) E s1) E s
 done:∀(X:Cx),X.prog=P->X.w=w->X.K=K->X.calm=true -> ∀(i:Nat) (ag:List (dk×Obj)) (s:dj) (σ:St) (H:Hp) (E:di->dj->Prop),Inv X ag σ H s->(∀b∈fp,kF X ag H b)->tn i s.heap->ao.stop i H ->
  dz (Pt P w) X.A (PY (.ref it)) (λr s1=>r=none/\Inv X ag σ H s1) E s
 self:∀(A:dq) (i:Nat) (s:dj) (Q:di->dj->Prop) (E:di->dj->Prop),tn i s.heap->Q (.ref it) s->dz (Pt P w) A (P0 (.ref it)) Q E s
abbrev TI:=St->Hp->(It->Hp->Prop)->Prop
def Oj(X:Cx)(ag:List (dk×Obj))(σ:St)(tg:Expr)(R:It->Hp->Prop)(itv:di)(s2:dj):Prop:=
 ∃(it:dk) (fp:List dk) (tn:Nat->dB->Prop) (ao:It) (H':Hp),itv = .ref it/\Inv X ag σ H' s2/\wN X.prog X.w X.K tg ao fp it tn/\tn 0 s2.heap/\(∀b∈fp,kF X ag H' b)/\R ao H'
def PI(X:Cx)(tg iter:Expr)(wi:TI):Prop:=
 ∀(ag:List (dk×Obj)) (s:dj) (σ:St) (H:Hp) (R:It->Hp->Prop),Inv X ag σ H s->wi σ H R ->
  dz (Pt X.prog X.w) X.A (eval iter X.env) (λv s1=>dz (Pt X.prog X.w) X.A (P0 v) (Oj X ag σ tg R) X.xe s1) X.xe s
theorem CL {aq:Model}{A:dq}{E:di->dj->Prop}{s:dj}{tg:Expr}{it:dk}{u:di}{o:Obj}{n:String}{vs:Array di}{Q:Unit->dj->Prop}(ho:s.heap.get? it=some o)(hc:o.cls = .type n)(hd:o.data = .fields vs)
   (hn:["enumerate","zip","dict_itemiterator","dict_reverseitemiterator","odict_iterator","itertools.zip_longest","itertools.pairwise"].contains n=J) (a:Q () s):dz aq A (PZ tg (.ref it) u) Q E s:=by
 unfold PZ;cases tg <;> first
   |exact wP1 a
   | (cases u<;>first
       |exact wP1 a
       | (refine wB1 (wpAny_load ho ?_)
          rw[hc,hd];show dz aq A (if(["enumerate","zip","dict_itemiterator","dict_reverseitemiterator","odict_iterator","itertools.zip_longest","itertools.pairwise"].contains n&&vs[0]? == Z (P1 _))=M then _ else _) Q E s;rw[aj (by intro h;rw[hn,Bool.false_and]at h;cases h)];exact wP1 a))
noncomputable def Oo(K:Fg1)(a:dk):It:=
 ⟨λi H=>∃xs x,mU K H a xs/\xs[i]?=Z x,λi H x H'=>H'=H /\ ∀xs,mU K H a xs->xs[i]?=Z x,λi H=>∃xs,mU K H a xs/\xs.length<=i⟩
noncomputable def On(K:Fg1)(a:dk):It:=
 ⟨λi H=>∃xs x,kA K H a xs/\xs[i]?=Z x,λi H x H'=>H'=H /\ ∀xs,kA K H a xs->xs[i]?=Z x,λi H=>∃xs,kA K H a xs/\xs.length<=i⟩
noncomputable def Mt(lo:Int)(n:Nat):It:=⟨λi _=>i<n,λi H x H'=>H'=H/\x = .int (lo+i),λi _=>n<=i⟩
theorem yK{P:dn}{w:dr}{K:Fg1}{tg:Expr}(a it:dk):wN P w K tg (Oo K a) [it] it (λi h=>h.IsListIter it a i) where
 mem:=by simp
 obj:=λi h st b f=>by
  have e:b=it:=by simpa using f
  subst e;obtain⟨o,e,c,d⟩:=st;exact⟨o,e,λv z=>by rw[d]at z;cases z⟩
 keep:=λi h h' st k=>st.at λo e=>k it (by simp) o e
 item:=by
  intro X n q r hc i ag s σ H E I j st A;subst n q r;obtain⟨xs,x,g,F⟩:=A;obtain⟨D,m,p,L⟩:=I.list g;obtain⟨u,ao,av⟩:=m.get F;obtain⟨C,t,Q,l,B,y⟩:=j it (by simp);refine P2 st p.isList (x:=u) (by simpa using ao) λh' st' aq=>?_;have G:Inv X ag σ H {s with heap:=h'}:=I.turned (t':=s.toks) (λb o f e=>(aq.2 b f).trans e) C t l B y;obtain⟨o,e,c,d⟩:=id st';exact⟨u,O,CL (s:={s with heap:=h'}) e c d (by decide) ⟨x,H,G,av,⟨O,λys N=>by rw[I.list_inj N g];exact F⟩,st',λb f=>(j b f).1⟩⟩
 done:=by
  intro X n q r hc i ag s σ H E I j st A;subst n q r;obtain⟨xs,g,F⟩:=A;obtain⟨D,m,p,L⟩:=I.list g;obtain⟨C,t,Q,l,B,y⟩:=j it (by simp);have R:=m.length;exact P3 (I.ok.hd hc) st p.isList (by simp;lia) λh' eb=>⟨O,I.turned (t':=s.toks) (λb o f e=>eb b o f e) C t l B y⟩
 self:=λ_ _ _ _ _ st h=>wpAny_pyIter_listiter st h
theorem vL{P:dn}{w:dr}{K:Fg1}{tg:Expr}(a it:dk):wN P w K tg (On K a) [it] it (λi h=>h.IsTupleIter it a i) where
 mem:=by simp
 obj:=λi h st b f=>by
  have e:b=it:=by simpa using f
  subst e;obtain⟨o,e,c,d⟩:=st;exact⟨o,e,λv z=>by rw[d]at z;cases z⟩
 keep:=λi h h' st k=>st.at λo e=>k it (by simp) o e
 item:=by
  intro X q r t hc i ag s σ H E I l st B;subst q r t;obtain⟨xs,x,j,F⟩:=B;obtain⟨g,n,p,L⟩:=I.tuple j;obtain⟨u,ao,av⟩:=n.get F;obtain⟨D,y,Q,m,C,A⟩:=l it (by simp);refine wpAny_pyNext_tuple_item st (show s.heap.IsTuple a g.toArray from p) (x:=u) (by simpa using ao) λh' st' aq=>?_;have G:Inv X ag σ H {s with heap:=h'}:=I.turned (t':=s.toks) (λb o f e=>(aq.2 b f).trans e) D y m C A;obtain⟨o,e,c,d⟩:=id st';exact⟨u,O,CL (s:={s with heap:=h'}) e c d (by decide) ⟨x,H,G,av,⟨O,λys N=>by rw[I.tuple_inj N j];exact F⟩,st',λb f=>(l b f).1⟩⟩
 done:=by
  intro X q r t hc i ag s σ H E I l st B;subst q r t;obtain⟨xs,j,F⟩:=B;obtain⟨g,n,p,L⟩:=I.tuple j;obtain⟨D,y,Q,m,C,A⟩:=l it (by simp);have R:=n.length;exact wpAny_pyNext_tuple_end (I.ok.hd hc) st (show s.heap.IsTuple a g.toArray from p) (by simp;lia) λh' eb=>⟨O,I.turned (t':=s.toks) (λb o f e=>eb b o f e) D y m C A⟩
 self:=λ_ _ _ _ _ st h=>wpAny_pyIter_tupleiter st h
theorem vM{P:dn}{w:dr}{K:Fg1}{tg:Expr}(it:dk)(lo:Int)(n:Nat):wN P w K tg (Mt lo n) [it] it (λi h=>IsRangeIter h it (lo+(i:Nat)*1) ((n:Int)-(i:Nat)) 1) where
 mem:=by simp
 obj:=λi h st b a=>by
  have e:b=it:=by simpa using a
  subst e;exact⟨_,st,λv z=>by
   have y:Data.fields _=Data.cell v:=z;cases y⟩
 keep:=λi h h' st k=>k it (by simp) _ st
 item:=by
  intro X j m q hc i ag s σ H E I c st r;subst j m q;obtain⟨g,f,B,p,d,l⟩:=c it (by simp);have W:=Walks.range (prog:=X.prog) (w:=X.w) (I.ok.hd hc) it lo 1 n;refine W.item i s _ _ r st λv h' tk A st' x=>?_;obtain⟨t,rfl⟩:=A;have u:Inv X ag σ H {s with heap:=h',toks:=tk}:=I.turned (λb o a e=>x b o (by simpa using a) e) g f p d l;refine⟨_,O,CL (s:={s with heap:=h',toks:=tk}) (n:="range_iterator") st' O O (by decide) ⟨.int (lo+i),H,u,⟨t,?_⟩,⟨O,O⟩,st',λb a=>(c b a).1⟩⟩;rw[Int.mul_one]
 done:=by
  intro X j m q hc i ag s σ H E I c st r;subst j m q;obtain⟨g,f,B,p,d,l⟩:=c it (by simp);exact wpAny_pyNext_range_end (I.ok.hd hc) st (by have:n<=i:=r;lia) λh' eb=>⟨O,I.turned (t':=s.toks) (λb o a e=>eb b o a e) g f p d l⟩
 self:=λ_ _ _ _ _ st h=>wpAny_pyIter_rangeiter st h
section
variable{tg:Expr}
def LQ(K:Fg1)(tl:TE):TI:=fun σ H R=>tl σ H λx H1=>∃a,x = .ref a/\(∃xs,mU K H1 a xs)/\R (Oo K a) H1
def NC(K:Fg1)(tl:TE):TI:=fun σ H R=>tl σ H λx H1=>∃a,x = .ref a/\(∃xs,kA K H1 a xs)/\R (On K a) H1
theorem EW{l:Expr}{tl:TE}(k:PE X l tl):PI X tg l (LQ X.K tl):=by
 intro ag s σ H R I h;refine fh (k ag s σ H _ I h) λv d ⟨x,H1,c,g,f⟩=>?_;obtain⟨a,e,⟨xs,j⟩,q⟩:=f;subst e;cases g;obtain⟨i,n,p,r⟩:=c.list j;refine wpAny_pyIter_list p.isList ?_;refine⟨d.heap.objs.size,[d.heap.objs.size],_,_,H1,O,c.kept (t':=d.toks) λb o e=>hP1 _ e,yK a _,⟨_,hS1 _ O,O,O⟩,λb m=>?_,q⟩;have e:b=d.heap.objs.size:=by simpa using m
 subst e;exact c.fpOk (nR1 _) (c.hok.fresh (nR1 _))
theorem Ik{l:Expr}{tl:TE}(k:PE X l tl):PI X tg l (NC X.K tl):=by
 intro ag s σ H R I h;refine fh (k ag s σ H _ I h) λv c ⟨x,H1,d,i,g⟩=>?_;obtain⟨a,e,⟨xs,j⟩,q⟩:=g;subst e;cases i;obtain⟨f,n,p,r⟩:=d.tuple j;refine wpAny_pyIter_tuple (show c.heap.IsTuple a f.toArray from p) ?_;refine⟨c.heap.objs.size,[c.heap.objs.size],_,_,H1,O,d.kept (t':=c.toks) λb o e=>hP1 _ e,vL a _,⟨_,hS1 _ O,O,O⟩,λb m=>?_,q⟩;have e:b=c.heap.objs.size:=by simpa using m
 subst e;exact d.fpOk (nR1 _) (d.hok.fresh (nR1 _))
theorem uj{ag:List (dk×Obj)}{σ:St}{H:Hp}{s:dj}{R:It->Hp->Prop}{E:di->dj->Prop}{lo hi:Int}{t u v:Tok}{tk:Nat}(I:Inv X ag σ H s)(h1: -(2^62)<=lo)(h2:lo<2^62)(c: -(2^62)<=hi)(d:hi<2^62)(q:R (Mt lo (hi-lo).toNat) H):dz (Pt X.prog X.w) X.A (P0 (.ref s.heap.objs.size)) (Oj X ag σ tg R) E {s with heap:=s.heap.push {cls:=.type "range",data:=.fields #[.int lo t,.int hi u,.int 1 v]},toks:=tk}:=by
 refine wpAny_pyIter_range (IsRange.new ..) (small_one h1 h2 c d) ?_;have a:Inv X ag σ H {s with heap:=s.heap.push {cls:=.type "range",data:=.fields #[.int lo t,.int hi u,.int 1 v]},toks:=tk}:=I.kept λb o e=>hP1 _ e;refine⟨(s.heap.push {cls:=.type "range",data:=.fields #[.int lo t,.int hi u,.int 1 v]}).objs.size,[(s.heap.push {cls:=.type "range",data:=.fields #[.int lo t,.int hi u,.int 1 v]}).objs.size],_,_,H,O,
  a.kept (t':=tk) λb o e=>hP1 _ e,vM _ lo (hi-lo).toNat,?_,λb h=>?_,q⟩
 ·have f:lo+((0:Nat):Int)*1=lo:=by simp
  have g:(((hi-lo).toNat:Nat):Int)-((0:Nat):Int)=Builtin.Range.rangeSize lo hi 1:=by rw[rangeSize_one];split<;>lia
  show IsRangeIter _ _ (lo+((0:Nat):Int)*1) ((((hi-lo).toNat:Nat):Int)-((0:Nat):Int)) 1;rw[f,g];exact hS1 _ O
 ·have e:b=(s.heap.push {cls:=.type "range",data:=.fields #[.int lo t,.int hi u,.int 1 v]}).objs.size:=by simpa using h
  subst e;exact a.fpOk (nR1 _) (a.hok.fresh (nR1 _))
def LP(ta:TA):TI:=fun σ H R=>ta σ H λvs H1=>∃j:Int,vs=[.int j] /\ -(2^62)<=j/\j<2^62/\R (Mt 0 j.toNat) H1
def LO(ta:TA):TI:=fun σ H R=>ta σ H λvs H1=>∃i j:Int,vs=[.int i,.int j]/\(-(2^62)<=i/\i<2^62 /\ -(2^62)<=j/\j<2^62)/\R (Mt i (j-i).toNat) H1
theorem ze {a:Expr}{ta:TA}{p pos:Pos}(hg:Gl X "range")(hm:X.mg "range"=Y)(ha:PA X [a] ta)(hs:autoParam (dw [a] X.env=[(J,eval a X.env)]) cu0):PI X tg (.Call (.Name "range" p) [a] [] pos) (LP ta):=by
 intro ag s σ H R I h;refine Call_ (jN I hg hm boot_range (P4 (fh (ha pos ag s σ H _ I h) λi k ⟨vs,H1,c,g,b⟩=>?_) hs O));obtain⟨j,e,b,f,q⟩:=b;subst e;cases g with
 |cons r d=>
  cases d;obtain⟨t,rfl⟩:=r;exact call_range_1 (uj c (by lia) (by lia) b f (by simpa using q))
theorem zd {a b:Expr}{ta:TA}{p pos:Pos}(hg:Gl X "range")(hm:X.mg "range"=none)(ha:PA X [a,b] ta)(hs:autoParam (dw [a,b] X.env=[(false,eval a X.env),(false,eval b X.env)]) cu0)(hs2:autoParam (dw [b] X.env=[(false,eval b X.env)]) cu0):
  PI X tg (.Call (.Name "range" p) [a,b] [] pos) (LO ta):=by
 intro ag s σ H R I h;refine Call_ (jN I hg hm boot_range (P4 (fh (ha pos ag s σ H _ I h) λo u ⟨vs,H1,g,l,c⟩=>?_) (by rw[hs,hs2]) (by rw[hs2];rfl)));obtain⟨i,j,e,⟨c,k,m,f⟩,q⟩:=c;subst e;cases l with
 |cons r d=>
  cases d with
  |cons n d=>
   cases d;obtain⟨t,rfl⟩:=r;obtain⟨v,rfl⟩:=n;exact call_range_2 (uj g c k m f q)
noncomputable def KY(wi:TI)(g:TG)(tb:TS):TS:=λD σ H=>wi σ H λao H1=>∃W:Nat->Nat->St->Hp->Prop,(∃m,W 0 m σ H1) /\ ∀i m σ H,W i m σ H ->
 (ao.stop i H/\D.nx σ H)\/(ao.go i H /\ ∃N:St->Hp->Prop,(∀ σ' H',N σ' H' -> ∃m',m'<m/\W (i+1) m' σ' H') /\ ∀x H',ao.yld i H x H'->g x σ H' fun σ2 H2=>tb {D with nx:=N,ct:=N,bk:=D.nx} σ2 H2)
noncomputable def oE(fp:List dk)(h:dB):List (dk×Obj):=fp.filterMap λb=>(h.get? b).map λo=>(b,o)
theorem jg{fp:List dk}{h:dB}{b:dk}{o:Obj}(hb:b∈fp)(e:h.get? b=Z o):(b,o)∈oE fp h:=aM.mpr ⟨b,hb,by rw[e];rfl⟩
theorem zi{fp:List dk}{h:dB}{p:dk×Obj}(hp:p∈oE fp h):p.1∈fp/\h.get? p.1=Z p.2:=by
 obtain⟨b,c,e⟩:=aM.mp hp;cases q:h.get? b with
 |none=>rw[q]at e;cases e
 |some o=>
  rw[q]at e;have a:(b,o)=p:=Option.some.inj e;subst a;exact⟨c,q⟩
theorem Inv.pinned{ag:List (dk×Obj)}{σ:St}{H:Hp}{s:dj}{fp:List dk}(I:Inv X ag σ H s)(hf:∀b∈fp,kF X ag H b)(ho:∀b∈fp,∃o,s.heap.get? b=Z o /\ ∀v,o.data ≠ .cell v):Inv X (ag++oE fp s.heap) σ H s:=
 I.pins_of λp h=>(aG.mp h).elim (λz=>I.pin p (mA1 _ z)) λz=>by
  obtain⟨c,e⟩:=zi z;obtain⟨g,f,i,_⟩:=hf p.1 c;obtain⟨o,a,d⟩:=ho p.1 c;rw[e]at a;cases a;exact⟨e,g,f,i,d⟩
theorem Inv.unpinned{ag pl:List (dk×Obj)}{σ:St}{H:Hp}{s:dj}(I:Inv X (ag++pl) σ H s):Inv X ag σ H s:=I.pins_of λp a=>I.pin p (mA1 _ (aH _ a))
theorem Ie{iter:Expr}{t:List dE}{S:TI}{g:TG}{tb:TS}{pos:Pos}(hp:PV (Pt X.prog X.w) X.A X.env X.xe)(hc:X.calm=M)(hi:PI X tg iter S)(hg:PG X tg g)(hb:vE X t tb)(hs:autoParam (∀x,P5 iter X.env x=pure x) du0):PS X (.For tg iter t [] pos) (KY S g tb):=by
 intro ag s σ H D I h;refine wpAny_For (fh (hi ag s σ H _ I h) λv s1 h1=>fh h1 λitv s2 h2=>?_) hs;obtain⟨it,fp,V,ao,H2,e,I2,T,av,au,W,⟨m0,w0⟩,A⟩:=h2;subst e
 -- what stays M of the iterator's objects through the loop
 have c:∀{H':Hp},(∀b∈fp,H' b=Y) -> ∀b∈fp,kF X ag H' b:=λhn b hb=>⟨hn b hb,(au b hb).2⟩;refine codeAny_forLoop_any (λn s'=>∃i p H',Inv X ag p H' s'/\V i s'.heap/\(∀b∈fp,H' b=Y)/\W i n p H') ?_ m0 ⟨0,σ,H2,I2,av,λb hb=>(au b hb).1,w0⟩;rintro n R ⟨i,l,F,wq,E,C,w3⟩;rcases A i n l F w3 with⟨B,qn⟩|⟨go,N,hN,step⟩
 ·refine PX hp (fh (T.done X O O O hc i ag R l F X.xe wq (c C) E B) λr s4 ⟨G,I4⟩=>?_);subst G;exact PB ⟨l,F,I4,qn⟩
 ·refine PX hp (fh (T.item X rfl rfl rfl hc i ag R l F X.xe wq (c C) E go) fun r s4 ⟨u,G,h4⟩=>?_);subst G;refine PX hp (fh h4 fun _ Q ⟨x,U,I5,r5,y5,y,P⟩=>?_);have K:=I5.pinned (c P) (T.obj _ _ y);refine PX hp (fh (hg _ Q l U x u _ K r5 (step x U y5)) fun _ s6 ⟨L,H6,I6,q6⟩=>?_);refine PX hp (fh (hb _ s6 L H6 _ I6 q6) fun f aq w=>?_);have j:∀ {a:St} {k:Hp},Inv X (ag++oE fp Q.heap) a k aq->N a k -> ∃ m,m<n /\ ∃ i p H',Inv X ag p H' aq/\V i aq.heap/\(∀ b∈fp,H' b=none)/\W i m p H':=fun {a k} q z=>by
   obtain⟨m',hm,w7⟩:=hN a k z;refine⟨m',hm,i+1,a,k,q.unpinned,T.keep _ _ _ y λb hb o e=>(q.pin (b,o) (mA1 _ (mA1 _ (jg hb e)))).1,λb hb=>?_,w7⟩;obtain⟨o,e,d⟩:=T.obj _ _ y b hb;exact(q.pin (b,o) (mA1 _ (mA1 _ (jg hb e)))).2.1
  cases f with
  |next=>obtain⟨a,k,q,z⟩:=w;exact j q z
  |cont=>obtain⟨a,k,q,z⟩:=w;exact j q z
  |brk=>obtain⟨a,k,q,w⟩:=w;exact⟨a,k,q.unpinned,w⟩
  |ret v=>obtain⟨x7,a,k,q,r7,w⟩:=w;exact⟨x7,a,k,q.unpinned,r7,w⟩
end
abbrev R2:=V->V->Hp->VK->Prop
def gE(X:Cx)(f:di->di->Sem di)(r:R2):Prop:=
 ∀(ag:List (dk×Obj)) (s:dj) (σ:St) (H:Hp) (x y:V) (v u:di) (Q:VK),Inv X ag σ H s->d3 x v->d3 y u->r x y H Q ->
  dz (Pt X.prog X.w) X.A (f v u) (EP X ag σ Q) X.xe s
def eR(X:Cx)(f:di)(r:List V->Hp->VK->Prop):Prop:=
 ∀(ag:List (dk×Obj)) (s:dj) (σ:St) (H:Hp) (xs:List V) (us:List di) (Q:VK),Inv X ag σ H s->ed xs us->r xs H Q ->
  dz (Pt X.prog X.w) X.A (call f us) (EP X ag σ Q) X.xe s
def NW(X:Cx)(r:V->Hp->(Bool->Hp->Prop)->Prop):Prop:=
 ∀(ag:List (dk×Obj)) (s:dj) (σ:St) (H:Hp) (x:V) (v:di) (Q:Bool->Hp->Prop),Inv X ag σ H s->d3 x v->r x H Q ->
  dz (Pt X.prog X.w) X.A (truthy v) (TP X ag σ Q) X.xe s
noncomputable def KS(r:R2)(ta tb:TE):TE:=fun σ H Q=>ta σ H λx H1=>tb σ H1 λy H2=>r x y H2 Q
def rI(C:Int->Int->Prop)(g:Int->Int->V):R2:=λx y H Q=>∃i j,x = .int i/\y = .int j/\C i j/\Q (g i j) H
noncomputable def GZ(g:Int->Int->V):R2:=λx y H Q=>∃i j,x = .int i/\y = .int j/\Q (g i j) H
def rU(g:Int->V):V->Hp->VK->Prop:=λx H Q=>∃i,x = .int i/\Q (g i) H
section
variable{a b c:Expr}{ta tb tc:TE}{pos:Pos}
theorem Kh(ha:PE X a ta)(hb:PE X b tb){ag:List (dk×Obj)}{s:dj}{σ:St}{H:Hp}{R:V->V->Hp->Prop}(I:Inv X ag σ H s)(h:ta σ H fun x H1=>tb σ H1 fun y H2=>R x y H2){Q:di->dj->Prop}{f:di->di->Sem di}(hf:∀v u e x y H2,Inv X ag σ H2 e->d3 x v->d3 y u->R x y H2->dz (Pt X.prog X.w) X.A (f v u) Q X.xe e):
  dz (Pt X.prog X.w) X.A (eval a X.env) (λv d=>dz (Pt X.prog X.w) X.A (eval b X.env) (λu c=>dz (Pt X.prog X.w) X.A (f v u) Q X.xe c) X.xe d) X.xe s:=by
 refine fh (ha ag s σ H _ I h) λv l ⟨x,H1,i,k,g⟩=>?_;refine fh (hb ag l σ H1 _ i g) λu e ⟨y,H2,m,r2,j⟩=>?_;exact hf v u e x y H2 m k r2 j
theorem Lj{op:PH}{r:R2}(ho:gE X (P6 op) r)(ha:PE X a ta)(hb:PE X b tb):PE X (.BinOp a op b pos) (KS r ta tb):=by
 intro ag s σ H Q I h;exact wpAny_BinOp (Kh ha hb I h λv u c x y H2 e f d q=>ho ag c σ H2 x y v u Q e f d q)
theorem MD{f:di->di->Sem di}{C:Int->Int->Prop}{g:Int->Int->Int}(a:∀(i j:Int) (t u:Tok) (s:dj) (Q:di->dj->Prop) (E:di->dj->Prop),C i j->Q (.int (g i j) s.toks) {s with toks:=s.toks+1}->dz (Pt X.prog X.w) X.A (f (.int i t) (.int j u)) Q E s):
  gE X f (rI C λi j=>.int (g i j)):=by
 intro ag s σ H x y v u Q I d b h;obtain⟨i,j,rfl,rfl,hc,q⟩:=h;obtain⟨t,rfl⟩:=d;obtain⟨c,rfl⟩:=b;exact a i j t c s _ _ hc ⟨.int (g i j),H,I.tok _,⟨_,O⟩,q⟩
theorem Ls{f:di->di->Sem di}{g:Int->Int->Int}(a:∀(i j:Int) (t u:Tok) (s:dj) (Q:di->dj->Prop) (E:di->dj->Prop),Q (.int (g i j) s.toks) {s with toks:=s.toks+1}->dz (Pt X.prog X.w) X.A (f (.int i t) (.int j u)) Q E s):
  gE X f (GZ λi j=>.int (g i j)):=by
 intro ag s σ H x y v u Q I d b h;obtain⟨i,j,rfl,rfl,q⟩:=h;obtain⟨t,rfl⟩:=d;obtain⟨c,rfl⟩:=b;exact a i j t c s _ _ ⟨.int (g i j),H,I.tok _,⟨_,O⟩,q⟩
theorem II{f:di->di->Sem di}{g:Int->Int->Bool}(a:∀(i j:Int) (t u:Tok) (s:dj) (Q:di->dj->Prop) (E:di->dj->Prop),Q (.bool (g i j)) s->dz (Pt X.prog X.w) X.A (f (.int i t) (.int j u)) Q E s):
  gE X f (GZ λi j=>.bl (g i j)):=by
 intro ag s σ H x y v u Q I d b h;obtain⟨i,j,rfl,rfl,q⟩:=h;obtain⟨t,rfl⟩:=d;obtain⟨c,rfl⟩:=b;exact a i j t c s _ _ ⟨.bl (g i j),H,I,O,q⟩
def Mv(i j:Int):Prop:=0<j/\j<1073741824
def Mu(i j:Int):Prop:=0<=j/\j<=1000000/\i.natAbs<2^64
theorem IH:gE X (P6 .Add) (GZ λi j=>.int (i+j)):=Ls λ_ _ _ _ _ _ _ q=>add_int q
theorem E9:gE X (P6 .FloorDiv) (rI Mv λi j=>.int (i/j)):=MD λi j _ _ _ _ _ hc q=>by
 have h1:(0:Int)<j:=hc.1;have h2:j<1073741824:=hc.2;exact floordiv_int (by lia) (by rw[Int.fdiv_eq_ediv_of_nonneg i (by lia)];exact q) (.inl (PyProof.noPylong_small (by lia)))
theorem IE:gE X (P6 .Mod) (rI (λ_ j=>0<j) λi j=>.int (i%j)):=MD λi j _ _ _ _ _ hc q=>by
 have h1:(0:Int)<j:=hc;exact mod_int' (by lia) (by rw[Int.fmod_eq_emod_of_nonneg i (by lia)];exact q)
theorem ID:gE X (P6 .Pow) (rI Mu λi j=>.int (i^j.toNat)):=MD λ_ _ _ _ _ _ _ hc q=>pow_int_small hc.1 hc.2.1 hc.2.2 q
theorem F8:gE X (inplaceOp .Add) (GZ λi j=>.int (i+j)):=Ls λ_ _ _ _ _ _ _ q=>iadd_int q
theorem CT{ag:List (dk×Obj)}{σ:St}{H:Hp}{s:dj}{Q:VK}{k k':Bool}(I:Inv X ag σ H s)(q:Q (.bl k) H)(e:k=k'):EP X ag σ Q (.bool k') s:=by
 subst e;exact⟨.bl k,H,I,O,q⟩
theorem Lp:gE X (P7 .LtE) (GZ λi j=>.bl (decide (i<=j))):=II λ_ _ _ _ _ _ _ q=>le_int q
theorem Lq:gE X (P7 .Gt) (GZ λi j=>.bl (decide (j<i))):=II λ_ _ _ _ _ _ _ q=>gt_int q
theorem Lr:gE X (P7 .GtE) (GZ λi j=>.bl (decide (j<=i))):=II λ_ _ _ _ _ _ _ q=>ge_int q
theorem IF:gE X (P7 .Is) (λx y H Q=>y = .non/\Q (.bl (decide (x = .non))) H):=by
 intro ag s σ H x y v u Q I a b h;obtain⟨rfl,q⟩:=h;cases b;refine is_none_gen (CT I q ?_);cases x<;>first
  |(cases a;rfl)
  |(obtain⟨t,rfl⟩:=a;rfl)
theorem E8:gE X (P7 .IsNot) (λx y H Q=>y = .non/\Q (.bl (!decide (x = .non))) H):=by
 intro ag s σ H x y v u Q I a b h;obtain⟨rfl,q⟩:=h;cases b;refine isnot_none_gen (CT I q ?_);cases x<;>first
  |(cases a;rfl)
  |(obtain⟨t,rfl⟩:=a;rfl)
theorem BZ(b:Expr){op:P8}(h:autoParam (op ≠ .In) bu0)(h2:autoParam (op ≠ .NotIn) bu0):P9 op b=J:=by
 have c:(op == CmpOp.In)=J:=by cases op<;>first|rfl|exact absurd rfl h
 have a:(op == CmpOp.NotIn)=J:=by cases op<;>first|rfl|exact absurd rfl h2
 cases b<;>simp[P9,c,a]
theorem E3{op:P8}{r:R2}(ho:gE X (P7 op) r)(ha:PE X a ta)(hb:PE X b tb)(hm:P9 op b=J):PE X (.Compare a [op] [b] pos) (KS r ta tb):=by
 intro ag s σ H Q I h;exact wpAny_Compare1 (Kh ha hb I h λv u c x y H2 e f d q=>ho ag c σ H2 x y v u Q e f d q) hm
noncomputable def KO(t:TE):TT:=fun σ H Q=>t σ H λx H'=>∃k,x = .bl k/\Q k H'
theorem EL{op:P8}{r:R2}(ho:gE X (P7 op) r)(ha:PE X a ta)(hb:PE X b tb)(hm:P9 op b=J):PT X (.Compare a [op] [b] pos) (KO (KS r ta tb)):=by
 intro ag s σ H Q I h;refine wpAny_isTrue_Compare1 (fh (ha ag s σ H _ I h) λv n ⟨x,H1,g,l,f⟩=>fh (hb ag n σ H1 _ g f) λu o ⟨y,H2,q,r2,j⟩=>
  fh (ho ag o σ H2 x y v u _ q l r2 j) λc t ⟨z,i,p,d,k,e,m⟩=>?_) hm
 subst e;cases d;exact Py ⟨i,p,m⟩
noncomputable def AX(r r':R2)(ta tb tc:TE):TE:=fun σ H Q=>ta σ H λx H1=>tb σ H1 λy H2=>r x y H2 λz H3=>∃k,z = .bl k /\
 (if k=M then tc σ H3 λw' H4=>r' y w' H4 Q else Q (.bl J) H3)
theorem BI{op op':P8}{r g:R2}(ho:gE X (P7 op) r)(ho':gE X (P7 op') g)(ha:PE X a ta)(hb:PE X b tb)(hc:PE X c tc)(hm:lastMarks [op,op'] [b,c]=J:=by with_unfolding_all rfl):PE X (.Compare a [op,op'] [b,c] pos) (AX r g ta tb tc):=by
 intro ag s σ H Q I h;refine Compare_chain (fh (ha ag s σ H _ I h) λv q ⟨x,H1,B,ao,E⟩=>chain_link (fh (hb ag q σ H1 _ B E) λu t ⟨y,H2,D,r2,m⟩=>
  fh (ho ag t σ H2 x y v u _ D ao r2 m) λd p ⟨z,i,j,G,k,e,f⟩=>?_)) hm
 subst e;cases G;refine Py ?_;cases k with
 |false=>exact ite_ff ⟨.bl J,i,j,O,f⟩
 |true=>exact ite_tt (chain_last (fh (hc ag p σ i _ j f) λw n ⟨F,C,l,o,A⟩=>ho' ag n σ C y F u w Q l r2 o A))
def GN(K:Fg1)(x:V)(H:Hp)(k:Bool):Prop:=
 match x with
 | .non=>k=J
 | .bl b=>k=b
 | .int i=>k=(i != 0)
 | .str y=>y.length<=dy/\k=((y.length:Int) != 0)
 | .byt y=>y.size<=dy/\k=((y.size:Int) != 0)
 | .ref p=>(∃xs,mU K H p xs/\k = !xs.isEmpty)\/(∃xs,kA K H p xs/\k = !xs.isEmpty) \/ ∃kvs,H p=Z (.dK kvs)/\k = !kvs.isEmpty
 |_=>False
theorem wh{κ:Type}{kvs:List (κ×V)}{vs:List (κ×di)}(r:KV kvs vs):(!vs.isEmpty) = !kvs.isEmpty:=by
 cases r<;>rfl
theorem o9{xs:List V}{its:List di}(r:ed xs its):(!its.toArray.isEmpty) = !xs.isEmpty:=by
 cases r<;>simp
theorem mI:(dy:Nat)<2^63:=by rw[Qa];decide
theorem HC:NW X (λx H Q=>∃k,GN X.K x H k/\Q k H):=by
 intro ag s σ H x v Q I d h;obtain⟨k,e,q⟩:=h;have o:=mI;have u:dy=16777216:=Qa;cases x with
 |non=>
  cases d;have a:k=J:=e;subst a;exact truthy_none ⟨H,I,q⟩
 |bl b=>
  cases d;have a:k=b:=e;subst a;exact Py ⟨H,I,q⟩
 |int i=>
  obtain⟨t,rfl⟩:=d;have a:k=(i != 0):=e;subst a;exact PySem.P.truthy_int ⟨H,I,q⟩
 |str y=>
  obtain⟨t,rfl⟩:=d;obtain⟨n,a⟩:y.length<=dy/\k=((y.length:Int) != 0):=e;subst a;exact PySem.P.truthy_str (by lia) ⟨H,I.tok _,q⟩
 |byt y=>
  obtain⟨t,rfl⟩:=d;obtain⟨n,a⟩:y.size<=dy/\k=((y.size:Int) != 0):=e;subst a;exact PySem.W.truthy_bytes (by lia) ⟨H,I.tok _,q⟩
 |ref p=>
  cases d;have a:(∃xs,mU X.K H p xs/\k = !xs.isEmpty)\/(∃xs,kA X.K H p xs/\k = !xs.isEmpty) \/ ∃kvs,H p=Z (.dK kvs)/\k = !kvs.isEmpty:=e;rcases a with⟨xs,f,a⟩|⟨xs,f,a⟩|⟨kvs,f,a⟩
  ·subst a;obtain⟨g,r,pl,j⟩:=I.list f;have c:=r.length;exact wpAny_truthy_list pl.isList (by simp only[sT1];lia) ⟨H,I.tok _,by rw[o9 r];exact q⟩
  ·subst a;obtain⟨g,r,pl,j⟩:=I.tuple f;have c:=r.length;exact truthy_tuple pl (by simp only[sT1];lia) ⟨H,I.tok _,by rw[o9 r];exact q⟩
  ·subst a;obtain⟨j,l,vs,r,m⟩:kvs.length<=dy/\(p == Pm)=false /\ ∃vs,KV kvs vs/\s.heap.DictOf (fc X.prog X.w) p vs:=I.hok p _ f;have c:kvs.length=vs.length:=Paired.length r;exact wpAny_truthy_dict l m (by lia) ⟨H,I.tok _,by rw[wh r];exact q⟩
 |_=>exact(show False from e).elim
theorem Br(ha:PE X a ta)(he:∀ b,isTrue a X.env b=(do let v<-b;PK a.pos;PJ [v] (truthy v))):
  PT X a (fun σ H Q=>ta σ H λx H'=>∃k,GN X.K x H' k/\Q k H'):=by
 intro ag s σ H Q I h;exact isTrue_plain (fh (ha ag s σ H _ I h) λv f ⟨x,H1,d,e,c⟩=>HC ag f σ H1 x v Q d e c) (he _)
theorem v6:gE X (P6 .Add) (λx y H Q=>∃i j,x = .str i/\y = .str j/\i.length+j.length<=dy/\Q (.str (i++j)) H):=by
 intro ag s σ H x y v u Q I d b h;obtain⟨i,j,rfl,rfl,a,q⟩:=h;obtain⟨t,rfl⟩:=d;obtain⟨c,rfl⟩:=b;exact add_str (λc tk=>⟨.str (i++j),H,I.tok _,⟨_,O⟩,q⟩) a
theorem iP{x:V}{a:List di}(r:ed [x] a):∃u,a=[u]/\d3 x u:=by
 cases r with
 |cons b r2=>cases r2;exact⟨_,O,b⟩
theorem AD{x y:V}{a:List di}(r:ed [x,y] a):∃u w',a=[u,w']/\d3 x u/\d3 y w':=by
 cases r with
 |cons b r2=>
  cases r2 with
  |cons c d=>cases d;exact⟨_,_,O,b,c⟩
theorem Ad(hc:X.calm=M):eR X (.builtin "max") (λxs H Q=>∃i j,xs=[.int i,.int j]/\Q (.int (if j>i then j else i)) H):=by
 intro ag s σ H xs b Q I r h;obtain⟨i,j,rfl,q⟩:=h;obtain⟨u,c,rfl,⟨t,rfl⟩,⟨d,rfl⟩⟩:=AD r;refine max_two_ints (I.ok.hd hc) λh' tk k=>⟨_,H,I.kept k,?_,q⟩;by_cases a:j>i
 ·rw[ak a,ak a];exact⟨_,O⟩
 ·rw[aj a,aj a];exact⟨_,O⟩
theorem Ac(hc:X.calm=M):eR X (.builtin "min") (λxs H Q=>∃i j,xs=[.int i,.int j]/\Q (.int (if j<i then j else i)) H):=by
 intro ag s σ H xs b Q I r h;obtain⟨i,j,rfl,q⟩:=h;obtain⟨u,c,rfl,⟨t,rfl⟩,⟨d,rfl⟩⟩:=AD r;refine min_two_ints (I.ok.hd hc) λh' tk k=>⟨_,H,I.kept k,?_,q⟩;by_cases a:j<i
 ·rw[ak a,ak a];exact⟨_,O⟩
 ·rw[aj a,aj a];exact⟨_,O⟩
theorem rB:eR X (.type "int") (λxs H Q=>(∃i,xs=[.int i]/\Q (.int i) H) \/ ∃k,xs=[.bl k]/\Q (.int (if k then 1 else 0)) H):=by
 intro ag s σ H xs b Q I r h;rcases h with⟨i,rfl,q⟩|⟨k,rfl,q⟩
 ·obtain⟨u,rfl,t,rfl⟩:=iP r;exact call_int_int ⟨.int i,H,I,⟨_,O⟩,q⟩
 ·obtain⟨u,rfl,a⟩:=iP r;cases a;exact call_int_bool ⟨.int (if k then 1 else 0),H,I.tok _,⟨_,O⟩,q⟩
end
structure Kw (h:dB)(x dx C:dk)(mA:Str->Option di):Prop where
 obj:h.get? x=some (PySem.W.instObj C dx)
 ns:h.Ns1 dx mA
 ne:dx≠x
theorem zt{h:dB}{dx:dk}{mA:Str->Option di}(n:h.Ns1 dx mA):∃c,h.get? dx=Z c /\ ∀name,PySem.W.lookIn name c=Z (mA name):=by
 obtain⟨o,es,ep,k,d,j,_,f⟩:=n;refine⟨o,k,λname=>?_⟩;have e:=f name;unfold nsFind findBy at e;rw[<- Array.find?_toList]at e;unfold PySem.W.lookIn;rw[d];dsimp only;split
 ·rename_i y q;rw[q]at e;exact congrArg Z e
 ·rename_i q;rw [q] at e;have a:es.toList.any (·.refKey)=false:=by
   rw[List.any_eq_false];intro y g;obtain⟨z,t,b⟩:=j y (Array.mem_toList_iff.mp g);simp[DictEntry.refKey,b]
  have i:¬ es.toList.any (·.refKey)=M:=by rw[a];exact aL
  rw[aj i];exact congrArg Z e
theorem Kw.look{h:dB}{x dx C:dk}{mA:Str->Option di}(I:Kw h x dx C mA):∃a,PySem.W.InstAt h x (PySem.W.instObj C dx) C (Z a) /\ ∀name,PySem.W.lookIn name a=Z (mA name):=
 let ⟨a,ho,hl⟩:=zt I.ns
 ⟨a,⟨I.obj,O,O,ho⟩,hl⟩
section
variable{prog:dn}{w:dr}{A:dq}{E:di->dj->Prop}{s:dj}{K:Fg1}{x dx C f:dk}{mA:Str->Option di}{name:Str}{v:di}
end
theorem mW.some_of{v:V}{o:Option di}(r:mW (Z v) o):∃u,o=Z u/\d3 v u:=by
 cases o with
 |none=>exact(show False from r).elim
 |some u=>exact⟨u,O,r⟩
section
variable{P:dn}{w:dr}{H H':Hp}{h h':dB}{a C dx:dk}{fs fs':List (Str×V)}
theorem F9(b:lr P w H h)(e:H a=Z (.ins C dx fs)):∃mA,Kw h a dx C mA/\(∀f,mW (fs.lookup f) (mA f))/\PySem.Within mA (fs.map (·.1))/\fs.length<=1000/\H dx=Z (.own a):=by
 obtain⟨d,z,ne,c,mA,n,r,q⟩:=(show eQ P w H h a (.ins C dx fs)from b a _ e);exact⟨mA,⟨c,n,ne⟩,r,q,z,d⟩
end
structure N3 (K:Fg1)(C:dk):Prop where
 pg:PySem.W.plainGet K C Str.empty=true
 hd:PySem.W.hasDictIn K C=true
 po:PySem.W.plainOver K C=true
 sa:PySem.W.findIn K (.ref C) "__setattr__"=some (some (.builtin "object.__setattr__"))
theorem N3.get{K:Fg1}{C:dk}(c:N3 K C)(f:Str):PySem.W.plainGet K C f=M:=c.pg
section
variable{ag:List (dk×Obj)}{σ:St}{H:Hp}{s:dj}{a C dx:dk}{fs:List (Str×V)}{f:Str}{v:V}{A:dq}{E:di->dj->Prop}
end
section
variable{o e value:Expr}{f:Str}{pos pos' tpos:Pos}{ta tv:TE}
end
section
variable{ag:List (dk×Obj)}{σ:St}{H:Hp}{s:dj}{A:dq}{E:di->dj->Prop}{Q:di->dj->Prop}{c:di}{b:Bool}
inductive nM (K:Fg1)(H:Hp):V->di->Prop where
 |non:nM K H .non (.type "NoneType")
 |bl (x:Bool):nM K H (.bl x) (.type "bool")
 |int (i:Int):nM K H (.int i) (.type "int")
 |str (x:Str):nM K H (.str x) (.type "str")
 |flt (x:UInt64):nM K H (.flt x) (.type "float")
 |lst {a:dk} {xs:List V} (e:H a=some (.lst xs)):nM K H (.ref a) (.type "list")
 |frz {a:dk} {o:Obj} {xs:List V} (e:H a=some (.frz o (.lst xs))):nM K H (.ref a) (.type "list")
 |tup {a:dk} {xs:List V} (e:H a=some (.tup xs)):nM K H (.ref a) (.type "tuple")
 |dK {a:dk} {kvs:List (Key×V)} (e:H a=some (.dK kvs)):nM K H (.ref a) (.type "dict")
 |dT {a:dk} {kvs:List (List Key×V)} (e:H a=some (.dT kvs)):nM K H (.ref a) (.type "dict")
 | ins {a C dx:dk} {fs:List (Str×V)} (e:H a=some (.ins C dx fs)) (cl:N3 K C) (ha:PySem.W.findIn K (.ref C) "__class__"=some (some (.builtin "object.__class__")))
   (hn:PySem.W.specialIn K (.builtin "object.__class__") "__get__"=some (some (.builtin "getset_descriptor.__get__"))) (htk:PySem.W.takesIn K (.builtin "object.__class__")=some true)
   (hm:PySem.W.mroIn K C (.type "object")=some true):nM K H (.ref a) (.ref C)
theorem i4{x:V}{u t:di}(I:Inv X ag σ H s)(d:d3 x u)(ty:nM X.K H x t)(e:Qb X.K t c=some b)(h:∀ tk,Q (.bool b) {s with toks:=tk}):
  dz (Pt X.prog X.w) A (call (.builtin "isinstance") [u,c]) Q E s:=by
 cases ty with
 |non=>cases(show u=Ph from d);exact Qc PySem.W.kitx_none I.kIn Qd e (λz=>nomatch z) h
 |bl y=>cases(show u=Pi y from d);exact Qc PySem.W.kitx_bool I.kIn Qd e (λz=>nomatch z) h
 |int i=>obtain⟨t,q⟩:=(show∃t,u=ab i t from d);cases q;exact Qc PySem.W.kitx_int I.kIn Qd e (λz=>nomatch z) h
 |str y=>obtain⟨t,q⟩:=(show∃t,u=ae y t from d);cases q;exact Qc PySem.W.kitx_str I.kIn Qd e (λz=>nomatch z) h
 |flt y=>obtain⟨t,q⟩:=(show∃t,u=Value.float y t from d);cases q;exact Qc PySem.W.kitx_float I.kIn Qd e (λz=>nomatch z) h
 | @lst a xs f=>
  cases(show u=Pj a from d);obtain⟨_,_,n,_,h1⟩:=(show eQ X.prog X.w H s.heap a (.lst xs)from I.hok a _ f);exact Qc PySem.W.kitx_list I.kIn ⟨_,h1,O⟩ e (λz=>nomatch z) h
 | @frz a r xs f=>
  cases(show u=Pj a from d);obtain⟨_,_,_,n,_,h1⟩:=(show eQ X.prog X.w H s.heap a (.frz r (.lst xs))from I.hok a _ f);exact Qc PySem.W.kitx_list I.kIn ⟨_,h1,O⟩ e (λz=>nomatch z) h
 | @tup a xs f=>
  cases(show u=Pj a from d);obtain⟨_,_,_,p⟩:=(show eQ X.prog X.w H s.heap a (.tup xs)from I.hok a _ f);obtain⟨o,h1,h2,_⟩:=p;exact Qc PySem.W.kitx_tuple I.kIn ⟨o,h1,h2⟩ e (λz=>nomatch z) h
 | @dK a kvs f=>
  cases(show u=Pj a from d);obtain⟨_,_,vs,_,p⟩:=(show eQ X.prog X.w H s.heap a (.dK kvs)from I.hok a _ f);obtain⟨o,es,ep,h1,h2,_⟩:=p;exact Qc PySem.W.kitx_dict I.kIn ⟨o,h1,h2.1⟩ e (λz=>nomatch z) h
 | @dT a kvs f=>
  cases(show u=Pj a from d);obtain⟨_,_,xs,_,o,es,ep,h1,h2,_⟩:=(show eQ X.prog X.w H s.heap a (.dT kvs)from I.hok a _ f);exact Qc PySem.W.kitx_dict I.kIn ⟨o,h1,h2.1⟩ e (λz=>nomatch z) h
 | @ins a C dx fs f j k l g m=>
  cases(show u=Pj a from d);obtain⟨mA,av,_⟩:=F9 I.hok f;obtain⟨v,ao,_⟩:=av.look;exact Qc (PySem.W.kitx_own (j.get _) j.hd k l g m) I.kIn ao e (λz=>nomatch z) h
end
structure fR (k:Nat)(A:dq):Prop where
 hd:A.handled=none
 dp:A.depth+3*k+5<recursionLimit
 un:A.units+16*k+200<Qe
 gd:A.guards=some []
theorem fR.mono{j k:Nat}{A:dq}(r:fR k A)(h:j<=k):fR j A:=⟨r.hd,by have:=r.dp;lia,by have:=r.un;lia,r.gd⟩
theorem fR.deeper{k:Nat}{A:dq}(r:fR (k+1) A)(env:Env):fR k (A.deeper env):=
 ⟨r.hd,by have:=r.dp;show A.depth+1+3*k+5<_;lia,by have:=r.un;show A.units+3+16*k+200<_;lia,r.gd⟩
theorem fR.depth{k:Nat}{A:dq}(r:fR k A):A.depth<recursionLimit:=by have:=r.dp;lia
theorem fR.units{k:Nat}{A:dq}(r:fR k A):A.units+64<Qe:=by have:=r.un;lia
noncomputable def M5:TA:=λ_ H Q=>Q [] H
noncomputable def K2(ta:TE)(tr:TA):TA:=fun σ H Q=>ta σ H λx H1=>tr σ H1 λxs H2=>Q (x::xs) H2
section
variable{e:Expr}{es:List Expr}{te:TE}{t:TA}{pos:Pos}
theorem lg:PA X [] M5:=λ_ _ _ _ H Q I h=>Calls.spliced_nil ⟨[],H,I,.nil,h⟩
theorem iD(ha:PE X e te)(hr:PA X es t)(hs:autoParam (dw (e::es) X.env=(J,eval e X.env)::dw es X.env) cu0):PA X (e::es) (K2 te t):=by
 intro pos ag s σ H Q I h;rw[hs];show dz _ _ (spliced ((J,eval e X.env)::Pu pos (dw es X.env))) _ _ s;refine Calls.spliced_cons (fh (ha ag s σ H _ I h) λu f ⟨x,H1,b,d,a⟩=>?_);exact fh (hr pos ag f σ H1 _ b a) λi j ⟨xs,H2,g,r2,c⟩=>⟨x::xs,H2,g,.cons d r2,c⟩
def MZ(t:TA):TE:=fun σ H Q=>t σ H λxs H1=>xs.length<=dy /\ ∀p,H1 p=Y->Q (.ref p) (upd H1 p (.tup xs))
def M8(t:TA):TE:=fun σ H Q=>t σ H λxs H1=>xs.length<=dy /\ ∀p,H1 p=Y->Q (.ref p) (upd H1 p (.lst xs))
theorem Ip{x1}(h:PA X es t):PE X (.Tuple es x1 pos) (MZ t):=by
 intro ag s σ H Q I f;refine wpAny_Tuple_spliced (fh (h pos ag s σ H _ I f) λg a ⟨xs,H1,c,r,z,q⟩=>⟨by rw[<- r.length];exact z,?_⟩);have d:H1 a.heap.objs.size=Y:=c.hok.fresh (nR1 _);refine⟨.ref a.heap.objs.size,upd H1 a.heap.objs.size (.tup xs),c.laid (t':=a.toks) (λb u e=>hP1 _ e) (nR1 _) ?_,O,q _ d⟩;exact⟨z,g,r,⟨_,hS1 _ O,O,_,O,O⟩⟩
theorem Iw(h:PA X es t):PE X (.List es pos) (M8 t):=by
 intro ag s σ H Q I f;refine wpAny_List_spliced (fh (h pos ag s σ H _ I f) λg a ⟨xs,H1,c,r,z,q⟩=>⟨by rw[<- r.length];exact z,?_⟩);have d:H1 a.heap.objs.size=Y:=c.hok.fresh (nR1 _);refine⟨.ref a.heap.objs.size,upd H1 a.heap.objs.size (.lst xs),c.laid (t':=a.toks) (λb u e=>hP1 _ e) (nR1 _) ?_,O,q _ d⟩;exact⟨z,g,0,r,hS1 _ O⟩
end
abbrev Sp:=List V->Hp->VK->XK->Prop
abbrev Aj:=List Env->Hp->dj->XK->di->dj->Prop
structure GR (P:dn)(w:dr)(K:Fg1)(mg:Str->Option di)(base:dB)(A:dq)(outer:List Env)(s:dj)(H:Hp):Prop where
 frames:A.frames=some outer
 mod:Mod K mg base
 bs:∀b o,base.get? b=some o->s.heap.get? b=some o/\H b=none
 bsz:base.objs.size<=s.heap.objs.size
 funs:s.heap.FunFrames base outer
 frf:∀b∈frs outer,H b=none
 hok:lr P w H s.heap
 bare:Pp s.gens
def CE(outer:List Env)(P:dn)(w:dr)(H:Hp)(s:dj)(Q:VK)(u:di)(s':dj):Prop:=
 ∃v H',s'.os=s.os/\Pp s'.gens/\Un (frs outer) [] H H' s.heap s'.heap/\lr P w H' s'.heap/\d3 v u/\Q v H'
def CR(CX:Aj)(outer:List Env)(P:dn)(w:dr)(H:Hp)(s:dj)(Q:VK)(E:XK)(r:Qf)(s':dj):Prop:=
 match r with
 | .ok (.ret u)=>CE outer P w H s Q u s'
 | .ok _=>False
 | .error e=>CX outer H s E e s'
structure j3 (P:dn)(w:dr)(K:Fg1)(mg:Str->Option di)(base:dB)(CX:Aj)(k:Nat)(f:dk)(fd:dD)(ps:List Str)(sp:Sp):Prop where
 len:∀vs H Q E,sp vs H Q E->vs.length=ps.length
 run:∀(A:dq) (outer:List Env) (s:dj) (H:Hp) (args:Args) (us:List di) (vs:List V) (Q:VK) (E:XK),fR k A->GR P w K mg base A outer s H->BindsTo s fd args (ps.zip us)->ed vs us->sp vs H Q E ->
  dA (Pt P w) A (.call (.ref f) args) (CR CX outer P w H s Q E) s
theorem j3.imp{P:dn}{w:dr}{K:Fg1}{mg:Str->Option di}{base:dB}{CX:Aj}{k:Nat}{f:dk}{fd:dD}{ps:List Str}{sp sp':Sp}(F:j3 P w K mg base CX k f fd ps sp)(h:∀vs H Q E,sp' vs H Q E->sp vs H Q E):j3 P w K mg base CX k f fd ps sp':=
 ⟨λvs H Q E q=>F.len vs H Q E (h _ _ _ _ q),λA a s H b e vs Q E c d j g i=>F.run A a s H b e vs Q E c d j g (h _ _ _ _ i)⟩
section
variable{ag:List (dk×Obj)}{σ:St}{H:Hp}{s s':dj}
theorem Inv.env0(I:Inv X ag σ H s):GR X.prog X.w X.K X.mg X.base X.A X.stack s H:=
 ⟨I.ok.frames,I.ok.mod,I.bs,aD I.ok.bsz I.sz,I.stack,I.stkFree,I.hok,I.bare⟩
theorem Inv.after{Q:VK}{u:di}(I:Inv X ag σ H s)(h:CE X.stack X.prog X.w H s Q u s'):EP X ag σ Q u s':=by
 obtain⟨v,H',i,a,un,c,r,q⟩:=h;obtain⟨f,g,d,t,e⟩:=s';obtain rfl:e=s.os:=i;exact⟨v,H',I.call (h':=f) (g':=g) (d':=d) (t':=t) (ch:=[]) un c a (λb z=>absurd z (by simp)),r,q⟩
end
noncomputable def GW(sp:Sp)(dvs:List V)(E:XK)(t:TA):TE:=fun σ H Q=>t σ H λvs H1=>sp (vs++dvs) H1 Q E
def k8(K:Fg1)(fd:dD)(ps:List Str)(ds:List di):Prop:=
 ∀(s:dj) (us:List di),K.In s.heap->(us++ds).length=ps.length->BindsTo s fd ⟨us,[]⟩ (ps.zip (us++ds))
theorem k8.all{K:Fg1}{fd:dD}{ps:List Str}(h:∀a:List di,a.length=ps.length->bindArgs fd ⟨a,[]⟩=pure (ps.zip a)):k8 K fd ps []:=λs a _ b=>by
 rw[aN]at b ⊢;exact .of_eq (h a b)
def tP(CX:Aj)(X:Cx)(E:XK):Prop:=∀(ag:List (dk×Obj)) (σ:St) (H:Hp) (s:dj) (e:di) (s':dj),Inv X ag σ H s->CX X.stack H s E e s'->X.xe e s'
section
variable{CX:Aj}{k:Nat}{f C:dk}{fd:dD}{ps:List Str}{sp:Sp}{dvs:List V}{ds:List di}{E:XK}{x m:Str}{p pos apos:Pos}{e o:Expr}{es:List Expr}{ta:TE}{t:TA}
theorem Bn{ag:List (dk×Obj)}{σ:St}{H:Hp}{s:dj}{Q:VK}{a:List di}{vs:List V}(F:j3 X.prog X.w X.K X.mg X.base CX k f fd ps sp)(hr:fR k X.A)(hb:k8 X.K fd ps ds)(hd:ed dvs ds)(hx:tP CX X E)(I:Inv X ag σ H s)(r:ed vs a)(h:sp (vs++dvs) H Q E):dz (Pt X.prog X.w) X.A (call (.ref f) a) (EP X ag σ Q) X.xe s:=by
 have r2:ed (vs++dvs) (a++ds):=r.append hd;have d:(a++ds).length=ps.length:=by rw[<- r2.length];exact F.len _ _ _ _ h
 refine wpAny_call (Qg (F.run X.A X.stack s H ⟨a,[]⟩ (a++ds) (vs++dvs) Q E hr I.env0 (hb s a I.kIn d) r2 h) λr s' b=>?_);cases r with
 |error e=>exact hx ag σ H s e s' I b
 |ok c=>
  cases c with
  |ret u=>exact I.after b
  |next=>exact Pz b
  |brk=>exact Pz b
  |cont=>exact Pz b
theorem E5 (F:j3 X.prog X.w X.K X.mg X.base CX k f fd ps sp)(hr:fR k X.A)(hg:Gl X x)(hm:X.mg x=some (.ref f))(hk:wK1 X.K (.ref f)=true)(hb:k8 X.K fd ps ds)(hd:ed dvs ds)(hx:tP CX X E)
  (ha:PA X (e::es) t) (hdb:autoParam ((x == ("__debug__":Str))=J) bu0) (he:autoParam (dw (e::es) X.env=(J,eval e X.env)::dw es X.env) cu0) (hpl:autoParam ((Pu pos (dw es X.env)).any (·.1)=J) cu0):
  PE X (.Call (.Name x p) (e::es) [] pos) (GW sp dvs E t):=by
 intro ag s σ H Q I h;refine Qh (xR I hg hm ?_ hdb);refine PySem.W.callWith_K (h₀:=X.base) I.ok.mod.kin hk (fh (ha pos ag s σ H _ I h) λb c ⟨vs,H1,a,r,q⟩=>⟨a.kIn,?_⟩) he hpl;exact Bn F hr hb hd hx a r q
end
section
variable{CX:Aj}{k:Nat}{f C:dk}{fd:dD}{ps ks:List Str}{sp:Sp}{E:XK}{x m:Str}{p pos apos kpos:Pos}{e o:Expr}{es:List Expr}{kws:List Qi}{te ta:TE}{t tk:TA}{nm:Option Str}
variable{g:List di->List di->List di}{gV:List V->List V->List V}
end
structure gR (N P:List Str)(sc:dF):Prop where
 kind:sc.kind = .function
 co:sc.isCoroutine=false
 gen:sc.isGenerator=false
 nd:N.Nodup
 pre:N.take P.length=P
 par:∀x∈P,sc.names.lookup x=some .local\/sc.names.lookup x=some .cell
 nofree:∀y∈sc.names,y.2 ≠ .free
theorem rF{kindOf:Str->Option Qj}{x:Str}:∀{binds:List (Str×di)} {m:Str->Option di},(∀v,(x,v)∉binds)->bindL kindOf binds m x=m x
 |[],_,_=>rfl
 |(n,v)::r,m,h=>by
  unfold bindL;rw[rF λw a=>h w (mC1 _ a)];split
  ·have:x≠n:=by rintro rfl;exact h v mS1
   simp[this]
  ·rfl
theorem rH{kindOf:Str->Option Qj}{x:Str}:∀{binds:List (Str×di)} {m:Str->Option di},(∀v,(x,v)∉binds)->bindC kindOf binds m x=m x
 |[],_,_=>rfl
 |(n,v)::r,m,h=>by
  unfold bindC;rw[rH λw a=>h w (mC1 _ a)];split
  ·rfl
  ·have:x≠n:=by rintro rfl;exact h v mS1
   simp[this]
theorem rG{kindOf:Str->Option Qj}{x:Str}{v:di}:∀ {P:List Str} {vs:List di} {i:Nat} {m:Str->Option di},P.Nodup->P[i]? = some x->vs[i]? = some v->kindOf x=some .local ->
  bindL kindOf (P.zip vs) m x=Z v
 |[],_,_,_,_,h,_,_=>by simp at h
 |_::_,[],_,_,_,_,h,_=>by simp at h
 |p::P,w::vs,0,m,nd,h1,h2,hk=>by
  simp at h1 h2;subst h1;subst h2;show bindL kindOf ((p,w)::P.zip vs) m p=_;unfold bindL;rw[rF λv a=>(aO.mp nd).1 (List.of_mem_zip a).1,ak hk];simp
 |p::P,w::vs,i+1,m,nd,h1,h2,hk=>by
  show bindL kindOf ((p,w)::P.zip vs) m x=_;unfold bindL;exact rG (i:=i) (aO.mp nd).2 (by simpa using h1) (by simpa using h2) hk
theorem rJ{kindOf:Str->Option Qj}{x:Str}{v:di}:∀ {P:List Str} {vs:List di} {i:Nat} {m:Str->Option di},P.Nodup->P[i]? = some x->vs[i]? = some v->kindOf x≠some .local ->
  bindC kindOf (P.zip vs) m x=Z v
 |[],_,_,_,_,h,_,_=>by simp at h
 |_::_,[],_,_,_,_,h,_=>by simp at h
 |p::P,w::vs,0,m,nd,h1,h2,hk=>by
  simp at h1 h2;subst h1;subst h2;show bindC kindOf ((p,w)::P.zip vs) m p=_;unfold bindC;rw[rH λv a=>(aO.mp nd).1 (List.of_mem_zip a).1,aj hk];simp
 |p::P,w::vs,i+1,m,nd,h1,h2,hk=>by
  show bindC kindOf ((p,w)::P.zip vs) m x=_;unfold bindC;exact rJ (i:=i) (aO.mp nd).2 (by simpa using h1) (by simpa using h2) hk
noncomputable def jy(N:List Str)(vs:List V):St:=vs.map Z++aP (N.length-vs.length) Y
noncomputable def nL(CX:Aj)(P:dn)(w:dr)(K:Fg1)(mg:Str->Option di)(base:dB)(N:List Str)(qual:Str)(scope:dF)(f:dk)(cd:di)(A:dq)(outer:List Env)(s:dj)(H:Hp)(E:XK):Cx where
 prog:=P
 w:=w
 K:=K
 mg:=mg
 base:=base
 A:=A.deeper (Qk qual scope s.heap.objs.size f cd)
 N:=N
 s₀:=s
 H₀:=H
 env:=Qk qual scope s.heap.objs.size f cd
 outer:=outer
 stack:=Qk qual scope s.heap.objs.size f cd::outer
 ex:=[]
 calm:=M
 fn:=λ_=>M
 pn:=[]
 xe:=λe s'=>dz (Pt P w) (A.deeper (Qk qual scope s.heap.objs.size f cd)) (leaving (Qk qual scope s.heap.objs.size f cd) e) (λ_ s''=>CX outer H s E e s'') (λe' s''=>CX outer H s E e' s'') s'
theorem vj{a:dF}{n:Nat}{x:Str}(h:a.names.lookup x=Z .cell):∃c,(Ql n a.names []).lookup x=Z c:=by
 have q:=Qm a.names n [] (.inl h);exact aQ.mp q
theorem zz{CX:Aj}{P:dn}{w:dr}{K:Fg1}{mg:Str->Option di}{base:dB}{N ps:List Str}{g:Str}{scope:dF}{f:dk}{B:di}{A:dq}{d:List Env}{s s1:dj}{H:Hp}{E:XK}{C:List di}{vs:List V}(S:gR N ps scope)(hd:A.handled=none)(j:GR P w K mg base A d s H)(aq:vs.length=ps.length)(r:ed vs C)(x:InCallC s s.heap.objs.size (bindL (Qk g scope s.heap.objs.size f B).kindOf (ps.zip C) fun _=>none) (Ql (s.heap.objs.size+1) scope.names []) (bindC (Qk g scope s.heap.objs.size f B).kindOf (ps.zip C) fun _=>none) s1):
  Inv (nL CX P w K mg base N g scope f B A d s H E) [] (jy N vs) H s1:=by
 have ao:ps.length<=N.length:=by have:=congrArg List.length S.pre;rw[aR]at this;lia
 obtain⟨h1,tk,rfl,D⟩:=x.done;have m:∀b:dk,b∉(nL CX P w K mg base N g scope f B A d s H E).ex:=λb z=>absurd (show b∈([]:List dk)from z) (by simp);refine⟨⟨j.mod,S.kind,O,O,nR1 _,λy z c h1 h2=>?_,λy l=>?_,λy c _ h=>?_,λ_=>hd,Around.frames_deeper j.frames,.inr ⟨O,O⟩,λb z=>absurd z (m b),j.bs,j.bsz,λb _ _=>m b,λb z=>absurd z (m b),j.funs,j.frf⟩,
  rfl,j.bare,Un.kept D,⟨_,x.toInCall.ns,λi y v h1 h2 L=>?_⟩,λy c h=>⟨_,x.cell y c h⟩,j.hok.fresh (nR1 _),λy c h=>?_,λp t=>absurd (show p∈([]:List (dk×Obj))from t) (by simp),j.hok.kept D,?_⟩
 ·exact name_of_addr x.apart (Qn h1) (Qn h2)
 ·have l:scope.names.lookup y=Z .cell\/scope.names.lookup y=Z .free:=l;rcases l with l|l
  ·exact vj l
  ·exact absurd O (S.nofree _ (Qn l))
 ·exact Nat.le_of_lt (x.above y c (Qn h))
 ·have hi:i<vs.length:=by
   unfold jy at h2;by_cases hi:i<vs.length
   ·exact hi
   ·rw[gR1 (by simpa using hi)]at h2;rw[aS]at h2;split at h2<;>cases h2
  have G:vs[i]?=Z v:=by
   unfold jy at h2;rw[gL1 (by simpa using hi),gP1]at h2;cases e:vs[i]? with
   |none=>rw[e]at h2;cases h2
   |some a=>rw[e]at h2;cases h2;rfl
  obtain⟨u,F,I⟩:=r.get G;have t:ps[i]?=Z y:=by
   rw[<- S.pre,aT (by lia)];exact h1
  have o:ps.Nodup:=by rw[<- S.pre];exact S.nd.sublist (aU _ _)
  refine⟨u,I,?_⟩;rcases S.par y (gM1 t)with k|k
  ·exact .inl ⟨k,rG o t F k⟩
  ·obtain⟨c,e⟩:=vj (n:=s.heap.objs.size+1) k;refine .inr ⟨.inl k,c,e,?_⟩;have q:=x.cell y c e;rw[rJ o t F (by show scope.names.lookup y≠_;rw[k];decide)]at q;exact q
 ·exact j.hok.fresh (Nat.le_of_lt (x.above y c (Qn h)))
 ·unfold jy;show _=N.length;rw[lA1,lM1,lR1];lia
theorem LV{CX:Aj}{P:dn}{w:dr}{K:Fg1}{mg:Str->Option di}{base:dB}{k:Nat}{f:dk}{name c:Str}{params:Arguments}{g:List dE}{scope:dF}{L kV m av d ct au:di}{T od:Option dk}{G:Array (Option di)}{N ps:List Str}{sp:Sp}(lk:K.lookup f=some ⟨au,od,.func (wF1 name c params g scope L kV m av T d ct),G⟩)(hcd:wC1 K d c=true)(S:gR N ps scope)(len:∀vs H Q E,sp vs H Q E->vs.length=ps.length)(i:∀(A:dq) (a:List Env) (s:dj) (H:Hp) (vs:List V) (Q:VK) (E:XK),fR k (A.deeper (Qk c scope s.heap.objs.size f d))->sp vs H Q E ->
   ∃t,vE (nL CX P w K mg base N c scope f d A a s H E) g t/\t {nx:=λ_ H'=>Q .non H',rt:=Q} (jy N vs) H):
  j3 P w K mg base CX (k+1) f (wF1 name c params g scope L kV m av T d ct) ps sp:=by
 refine⟨len,λA a s H R U vs Q E C p hb r B=>?_⟩;have hl:=len _ _ _ _ B;have aq:K.In s.heap:=p.mod.kin.keeps λb o e=>(p.bs b o e).1;have F:s.heap.NoLimit:=p.mod.nolimit.keeps λb o e=>(p.bs b o e).1;have j:∀y∈ps.zip U,scope.names.lookup y.1=Z .local\/(scope.names.lookup y.1=Z .cell/\((Ql (s.heap.objs.size+1) scope.names []).lookup y.1).isSome=M):=λ⟨n,v⟩ hy=>by
  rcases S.par n (List.of_mem_zip hy).1 with q|q
  ·exact .inl q
  ·exact .inr ⟨q,Qm _ _ _ (.inl q)⟩
 refine codeAny_call_function C.depth (aq _ _ lk) O S.co S.gen O (PySem.W.codeRec_of aq hcd) (hb _ _ _ _ ?_);refine wpAny_newFunctionEnv_cells S.kind j λenv he s1 x=>?_;subst he;refine⟨F.keeps x.toInCall.keep,codeAny_func ?_⟩;obtain⟨t,X,W⟩:=i A a s H vs Q E (C.deeper _) B;have I:Inv (nL CX P w K mg base N c scope f d A a s H E) [] (jy N vs) H s1:=zz S C.hd p hl r x;refine Pv (X [] s1 (jy N vs) H _ I W) (λwq s' l=>?_) λe s' l=>l;have z:∀{h:St} {H':Hp} {v:V} {u:di},Inv (nL CX P w K mg base N c scope f d A a s H E) [] h H' s'->d3 v u->Q v H'->CE a P w H s Q u s':=
  λ{h H' v u} ao D q=>⟨v,H',ao.os,ao.bare,ao.base,ao.hok,D,q⟩
 cases wq with
 |ret u=>
  obtain⟨v,h,H',ao,D,q⟩:=l;exact z ao D q
 |next=>
  obtain⟨h,H',ao,q⟩:=l;exact z (v:=V.non) (u:=Ph) ao O q
 |brk=>
  obtain⟨_,_,_,q⟩:=l;exact Pz q
 |cont=>
  obtain⟨_,_,_,q⟩:=l;exact Pz q
section
variable{x:Str}{p pos:Pos}{e:Expr}{es:List Expr}{t:TA}{id T:String}{r:List V->Hp->VK->Prop}
def N6(r:List V->Hp->VK->Prop)(t:TA):TE:=fun σ H Q=>t σ H λvs H1=>r vs H1 Q
theorem lJ (hc:eR X (.builtin id) r)(hg:Gl X x)(hm:X.mg x=none)(hv:Po x=some (.builtin id))(ha:PA X (e::es) t)(hn:autoParam (x≠"__name__") bu0)(hdb:autoParam ((x == ("__debug__":Str))=false) bu0)
  (he:autoParam (dw (e::es) X.env=(J,eval e X.env)::dw es X.env) cu0) (hpl:autoParam ((Pu pos (dw es X.env)).any (·.1)=J) cu0):PE X (.Call (.Name x p) (e::es) [] pos) (N6 r t):=by
 intro ag s σ H Q I h;refine Qh (jN I hg hm hv ?_ hn hdb);exact PyProof.Rows.callWith_builtin1 (fh (ha pos ag s σ H _ I h) λd f ⟨vs,H1,b,c,a⟩=>hc ag f σ H1 vs d Q b c a) he hpl
theorem ke (hc:eR X (.type T) r)(hg:Gl X x)(hm:X.mg x=none)(hv:Po x=some (.type T))(ha:PA X (e::es) t)(hn:autoParam (x≠"__name__") bu0)(hdb:autoParam ((x == ("__debug__":Str))=false) bu0)
  (he:autoParam (dw (e::es) X.env=(J,eval e X.env)::dw es X.env) cu0) (hpl:autoParam ((Pu pos (dw es X.env)).any (·.1)=J) cu0):PE X (.Call (.Name x p) (e::es) [] pos) (N6 r t):=by
 intro ag s σ H Q I h;refine Qh (jN I hg hm hv ?_ hn hdb);exact P4 (fh (ha pos ag s σ H _ I h) λd f ⟨vs,H1,b,c,a⟩=>hc ag f σ H1 vs d Q b c a) he hpl
end
end L2
namespace HT
open PySem PyProof.Rows
section
open PySem.SeqAt
open PySem.AutoSeq1 (wpAny_loadPart')
open PySem.MeetsSeq PySem.MeetsSeq2 PySem.MeetsSeq3
end
section
variable{prog:dn}{w:dr}{A:dq}{E:di->dj->Prop}{s:dj}
theorem Gw {t b:dk}{vs ws:List di}{Q:di->dj->Prop}(ht:IsTup s.heap t vs.toArray)(hb:IsTup s.heap b ws.toArray)(hv:vs≠[])
  (h1:ws=[]->Q (.ref t) s) (h2:ws≠[]->Q (.ref s.heap.objs.size) {s with heap:=s.heap.push {cls:=.type "tuple",data:=.seq (vs++ws).toArray}})
  (hsz:vs.length+ws.length<=dy):dz (Pt prog w) A (P6 .Add (.ref t) (.ref b)) Q E s:=by
 obtain⟨⟨cls,m,data,l⟩,i,hc,n,k⟩:=id ht;obtain⟨⟨p,g,j,c⟩,a,f,o,d⟩:=id hb;simp only at hc k f d;subst hc k f d;have e:vs.toArray++ws.toArray=(vs++ws).toArray:=by simp
 by_cases h:ws=[]
 ·exact concat_meets ⟨_,i,rfl⟩ ⟨_,a,rfl⟩ noFill_tuple_add seq_tuple_add Qo Qp (Qq _ _)
   (tuple_addW1 t b vs.toArray ws.toArray n o m g l c (by simpa using hv) (by simp[h])) ⟨i,a,h1 h⟩
 ·refine concat_meets ⟨_,i,rfl⟩ ⟨_,a,rfl⟩ noFill_tuple_add seq_tuple_add Qo Qp (Qq _ _)
   (tuple_addW2 t b vs.toArray ws.toArray n o m g l c (by simpa using hv) (by simpa using h) (by rw[sT1,sT1];exact hsz)) ⟨i,a,?_⟩
  rw[e];exact h2 h
noncomputable def sIx(n d:Nat):Option Int->Nat
 |none=>d
 |some v=>if v<0 then(v+(n:Int)).toNat else min v.toNat n
theorem uc(n d:Nat):sIx n d Y=d:=rfl
theorem xl(n d k:Nat):sIx n d (Z (k:Int))=min k n:=by
 show(if(k:Int)<0 then((k:Int)+(n:Int)).toNat else min (k:Int).toNat n)=min k n;rw[aj (by lia),Qr]
theorem HU(n d:Nat)(hd:d<=n)(o:Option Int):sIx n d o<=n:=by
 cases o with
 |none=>exact hd
 |some v=>
  show(if v<0 then(v+(n:Int)).toNat else min v.toNat n)<=n;by_cases a:v<0
  ·rw[ak a];lia
  ·rw[aj a];exact Nat.min_le_right _ _
theorem yp(v:Int)(n d:Nat):(if v<0 then max (v+(n:Int)) 0 else min v (n:Int))=((sIx n d (Z v):Nat):Int):=by
 show(if v<0 then max (v+(n:Int)) 0 else min v (n:Int))=(((if v<0 then(v+(n:Int)).toNat else min v.toNat n):Nat):Int);by_cases a:v<0
 ·simp only[ak a];lia
 ·simp only[aj a];lia
theorem wI(lo hi:Option Int)(n:Nat):Qs lo hi 1 (n:Int)=(((sIx n 0 lo:Nat):Int),((sIx n n hi:Nat):Int)):=by
 have h1:¬ ((1:Int)<0):=by lia
 unfold Qs;simp only[h1,Qt];refine Prod.ext ?_ ?_
 ·cases lo with
  |none=>rfl
  |some v=>exact yp v n 0
 ·cases hi with
  |none=>rfl
  |some v=>exact yp v n n
theorem vX(i j:Nat):Qu (i:Int) (j:Int) 1=j-i:=by
 unfold Qu;have h1:(1:Int)>0:=by lia
 simp only[h1,Qv,Int.ediv_one];split<;>lia
theorem om{v:di}{o:Option Int}{Q:Option Int->dj->Prop}(p:Qw v o)(h:Q o s):dz (Pt prog w) A (Builtin.Slice.slicePartIndex v) Q E s:=by
 cases p with
 |none=>exact slicePart_none h
 |int i t=>exact slicePart_int h
theorem iR{sl:dk}{c d:di}{lo hi:Option Int}{n:Nat}{Q:Int×Int×Nat->dj->Prop}(hs:s.heap.IsSliceOf sl c d .none)(pl:Qw c lo)(f:Qw d hi)(h:Q (((sIx n 0 lo:Nat):Int),1,sIx n n hi-sIx n 0 lo) s):dz (Pt prog w) A (Builtin.Slice.sliceApplied (.ref sl) (pure (n:Int))) Q E s:=by
 obtain⟨g,a,e,b⟩:=id hs;unfold Builtin.Slice.sliceApplied Builtin.Slice.sliceFields;refine wB1 (wB1 (Qx a b (x:=c) O (wB1 (Qx a b (x:=d) O (wB1 (Qx a b (x:=.none) O (wP1 ?_)))))));refine wB1 (slicePart_none ?_);show dz _ _ (if((1:Int) == 0)=M then _ else _) _ _ s;rw[aj (by decide)];refine wB1 (om pl (wB1 (om f (wB1 (wP1 ?_)))));show dz _ _ (match Qs lo hi 1 (n:Int)with|(lo,hi)=>pure (lo,(1:Int),Qu lo hi 1)) _ _ s;rw[wI lo hi n];show dz _ _ (pure (((sIx n 0 lo:Nat):Int),(1:Int),Qu ((sIx n 0 lo:Nat):Int) ((sIx n n hi:Nat):Int) 1)) _ _ s;rw[vX];exact wP1 h
theorem BB(xs:Array di)(i k:Nat):((af k).filterMap λ(m:Nat)=>xs[((i:Int)+(m:Int)*1).toNat]?).toArray=((xs.toList.drop i).take k).toArray:=by
 have e:(λ(m:Nat)=>xs[((i:Int)+(m:Int)*1).toNat]?)=λm=>xs[i+m]?:=by
  funext m
  have:((i:Int)+(m:Int)*1).toNat=i+m:=by lia
  rw[this]
 rw[e];have:=pick_run xs i k;rw[List.filterMap_map]at this;have a:((λx=>xs[x]?)∘λx=>i+x)=λm=>xs[i+m]?:=rfl;rw[a]at this;rw[this]
theorem lX {t sl:dk}{items:Array di}{f g:di}{lo hi:Option Int}{Q:di->dj->Prop}(ht:IsTup s.heap t items)(hs:s.heap.IsSliceOf sl f g .none)(pl:Qw f lo)(j:Qw g hi)
  (hw:¬ (sIx items.size 0 lo=0/\sIx items.size items.size hi=items.size))
  (h:Q (.ref s.heap.objs.size) {s with heap:=s.heap.push {cls:=.type "tuple",data:=.seq ((items.toList.drop (sIx items.size 0 lo)).take (sIx items.size items.size hi-sIx items.size 0 lo)).toArray}})
  (hsz:items.size<=dy):dz (Pt prog w) A (getItem (.ref t) (.ref sl)) Q E s:=by
 have a:sizeOk (.seq ((items.toList.drop (sIx items.size 0 lo)).take (sIx items.size items.size hi-sIx items.size 0 lo)).toArray):=by
  show((items.toList.drop (sIx items.size 0 lo)).take (sIx items.size items.size hi-sIx items.size 0 lo)).toArray.size<=dy;rw[sT1,aR,List.length_drop,aK];omega
 have o:sIx items.size items.size hi<=items.size:=HU _ _ (nR1 _) hi;obtain⟨i,e,d,k⟩:=id hs;have b:s.TypeIs (.ref sl) "slice":=⟨i,e,d⟩;unfold getItem
 try with_reducible refine PM ?_
 first|refine wB1 (wP1 ?_)|skip
 refine wB1 (wpAny_sequenceKey ht.typeIs (by decide) ?_);refine wB1 (Qy (name:=Qz "__getitem__") ht.typeIs QA
  (wE1 QA ht.typeIs entry_tuple_getitem ?_ (args_tuple_getitem _ _)))
 show dz _ _ (QB (.ref t) >>= _) _ _ s;refine wB1 (tupleItemsOf_ ht ?_);refine wB1 (QC b ?_);rw[ak (by decide)];refine wB1 (iR hs pl j ?_);have c:¬ ((((sIx items.size 0 lo:Nat):Int) == 0&&(1:Int) == 1&&(sIx items.size items.size hi-sIx items.size 0 lo) == items.size)=M):=by
  intro q;rw[bA1,bA1]at q;have l:((sIx items.size 0 lo:Nat):Int)=0:=eq_of_beq q.1.1;have n:sIx items.size items.size hi-sIx items.size 0 lo=items.size:=eq_of_beq q.2;exact hw ⟨by omega,by omega⟩
 show dz _ _ (if(((sIx items.size 0 lo:Nat):Int) == 0&&(1:Int) == 1&&(sIx items.size items.size hi-sIx items.size 0 lo) == items.size)=M then _ else _) _ _ s;rw[aj c,BB]
 first
  |exact wB1 (m:=QD _) (wO1 (wP1 ⟨_,rfl,wP1 h⟩) a)
  |exact wB1 (m:=QD _) (wO1 (wB1 (wP1 (wP1 ⟨_,rfl,wP1 h⟩))) a)
  |exact wB1 (wB1 (m:=QD _) (wO1 (wP1 (wP1 ⟨_,rfl,wP1 h⟩)) a))
  |exact wB1 (wB1 (m:=QD _) (wO1 (wP1 ⟨_,rfl,wP1 h⟩) a))
end
end HT
namespace L2
open PySem PySem.Spec PyProof.Rows
abbrev TO:=St->Hp->(Option Int->Hp->Prop)->Prop
def PO(X:Cx)(e:Option Expr)(t:TO):Prop:=
 ∀(ag:List (dk×Obj)) (s:dj) (σ:St) (H:Hp) (Q:Option Int->Hp->Prop),Inv X ag σ H s->t σ H Q ->
  dz (Pt X.prog X.w) X.A (evalPart e X.env) (λu s'=>∃o H',Inv X ag σ H' s'/\Qw u o/\Q o H') X.xe s
noncomputable def Eo:TO:=λ_ H Q=>Q Y H
noncomputable def KQ(t:TE):TO:=fun σ H Q=>t σ H λx H1=>∃i,x = .int i/\Q (Z i) H1
variable{X:Cx}
section
variable{e:Expr}{te:TE}{lo hi:Option Expr}{tl th:TO}{pos p2:Pos}
theorem ET:PO X Y Eo:=by
 intro ag s σ H Q I h;rw[evalPart_none];exact wP1 ⟨Y,H,I,.none,h⟩
theorem ES(h:PE X e te):PO X (Z e) (KQ te):=by
 intro ag s σ H Q I d;rw[evalPart_some];refine fh (h ag s σ H _ I d) λu f ⟨x,H1,b,c,a⟩=>?_;obtain⟨i,rfl,q⟩:=a;obtain⟨t,rfl⟩:=c;exact⟨Z i,H1,b,.int i t,q⟩
def D5(X:Cx)(r:V->Option Int->Option Int->Hp->VK->Prop):Prop:=
 ∀(ag:List (dk×Obj)) (s:dj) (σ:St) (H:Hp) (x:V) (v vl vu:di) (lo hi:Option Int) (sl:dk) (Q:VK),Inv X ag σ H s->d3 x v->s.heap.IsSliceOf sl vl vu .none->Qw vl lo->Qw vu hi->r x lo hi H Q ->
  ∃T id,typeLookup (.type T) "__getitem__"=pure (Z (.builtin id))/\s.TypeIs v T/\dz (Pt X.prog X.w) X.A (getItem v (.ref sl)) (EP X ag σ Q) X.xe s
theorem D5.or{r f:V->Option Int->Option Int->Hp->VK->Prop}(h:D5 X r)(h':D5 X f):D5 X (λx lo hi H Q=>r x lo hi H Q\/f x lo hi H Q):=by
 intro ag s σ H x v c g lo hi b Q I a d pl e q;rcases q with q|q
 ·exact h ag s σ H x v c g lo hi b Q I a d pl e q
 ·exact h' ag s σ H x v c g lo hi b Q I a d pl e q
def Os(r:V->Option Int->Option Int->Hp->VK->Prop)(te:TE)(tl th:TO):TE:=fun σ H Q=>te σ H λx H1=>tl σ H1 λl H2=>th σ H2 λu H3=>r x l u H3 Q
theorem BF{r:V->Option Int->Option Int->Hp->VK->Prop}(hr:D5 X r)(he:PE X e te)(B:PO X lo tl)(t:PO X hi th):PE X (.Subscript e (.Slice lo hi Y p2) pos) (Os r te tl th):=by
 intro ag s σ H Q I h;refine Subscript_ (fh (he ag s σ H _ I h) λv k ⟨x,H1,p,A,y⟩=>?_);refine wpAny_Slice (fh (B ag k σ H1 _ p y) λd m ⟨l,H2,w,pl,i⟩=>fh (t ag m σ H2 _ w i) λc a ⟨u,f,D,C,j⟩=>?_);rw[evalPart_none];refine wP1 ?_;have g:Inv X ag σ f {a with heap:=a.heap.push {cls:=.type "slice",data:=.fields #[d,c,.none]}}:=D.kept (t':=a.toks) λb E q=>hP1 _ q;obtain⟨T,id,o,n,z⟩:=hr ag {a with heap:=a.heap.push {cls:=.type "slice",data:=.fields #[d,c,.none]}} σ f x v d c l u a.heap.objs.size Q g A (Heap.IsSliceOf.new ..) pl C j;show dz (Pt X.prog X.w) X.A (QE e (.Slice lo hi Y p2) v (.ref a.heap.objs.size)) (EP X ag σ Q) X.xe {a with heap:=a.heap.push {cls:=.type "slice",data:=.fields #[d,c,.none]}};exact tail_any (ops:=[.ref a.heap.objs.size,v]) n o z (by with_unfolding_all rfl)
def vc(xs:List V)(lo hi:Option Int):List V:=(xs.drop (HT.sIx xs.length 0 lo)).take (HT.sIx xs.length xs.length hi-HT.sIx xs.length 0 lo)
theorem nl(xs:List V)(lo hi:Option Int):(vc xs lo hi).length<=xs.length:=by
 unfold vc;rw[aR,List.length_drop];lia
def Nj(K:Fg1):V->Option Int->Option Int->Hp->VK->Prop:=λx lo hi H Q=>∃a xs,x = .ref a/\kA K H a xs /\
 ¬ (HT.sIx xs.length 0 lo=0/\HT.sIx xs.length xs.length hi=xs.length) /\ ∀p,H p=Y->Q (.ref p) (upd H p (.tup (vc xs lo hi)))
theorem HP:D5 X (Nj X.K):=by
 intro ag s σ H x v n p lo hi m Q I g k pl l h;obtain⟨a,xs,rfl,j,i,q⟩:=h;cases g;obtain⟨d,r,f,e⟩:=I.tuple j;have c:d.toArray.size=xs.length:=by rw[sT1];exact r.length.symm
 refine⟨"tuple",_,PyProof.Rows.slot_tuple_getitem.lookup,f.typeIs,?_⟩;refine HT.lX f k pl l (by rw[c];exact i) ?_ (by rw[c];exact e);rw[c];refine⟨.ref s.heap.objs.size,_,I.laid (t':=s.toks) (o:=.tup (vc xs lo hi)) (λb t q=>hP1 _ q) (nR1 _) ?_,O,q _ (I.hok.fresh (nR1 _))⟩;exact⟨aD (nl xs lo hi) e,_,(r.drop (HT.sIx xs.length 0 lo)).take (HT.sIx xs.length xs.length hi-HT.sIx xs.length 0 lo),mq.new _ _⟩
def Le(K:Fg1):R2:=λx y H Q=>∃a b xs ys,x = .ref a/\y = .ref b/\kA K H a xs/\kA K H b ys/\xs≠[]/\xs.length+ys.length<=dy /\
 (ys=[]->Q (.ref a) H)/\(ys≠[] -> ∀p,H p=Y->Q (.ref p) (upd H p (.tup (xs++ys))))
theorem ed.nil_iff{xs:List V}{a:List di}(r:ed xs a):a=[]↔xs=[]:=by
 cases r with
 |nil=>simp
 |cons _ _=>simp
theorem Fa:gE X (P6 .Add) (Le X.K):=by
 intro ag s σ H x y v u Q I j f h;obtain⟨a,b,xs,ys,rfl,rfl,g,p,n,e,i,k⟩:=h;cases j;cases f;obtain⟨l,c,m,_⟩:=I.tuple g;obtain⟨d,r2,p2,_⟩:=I.tuple p;refine HT.Gw m p2 (λz=>n (c.nil_iff.mp z)) (λz=>⟨.ref a,H,I,O,i (r2.nil_iff.mp z)⟩) (λz=>?_) (by rw[<- c.length,<- r2.length];exact e);refine⟨.ref s.heap.objs.size,_,I.laid (t':=s.toks) (o:=.tup (xs++ys)) (λb r q=>hP1 _ q) (nR1 _) ?_,O,k (λw=>z (r2.nil_iff.mpr w)) _ (I.hok.fresh (nR1 _))⟩;exact⟨by rw[lA1];exact e,_,c.append r2,mq.new _ _⟩
end
noncomputable def zy(n:Nat)(i:Int):Option Nat:=if 0<=i then(if i<n then Z i.toNat else Y)else if-(n:Int)<=i then Z (i+n).toNat else Y
def wG{α:Type}(xs:List α)(i:Int):Option α:=(zy xs.length i).bind λj=>xs[j]?
theorem sT{n:Nat}{i:Int}{j:Nat}(h:zy n i=Z j):seqIndex? i n=Z j/\j<n /\ -(n:Int)<=i/\i<n:=by
 unfold zy at h;by_cases a:0<=i
 ·rw[ak a]at h;by_cases h1:i<n
  ·rw[ak h1]at h;have e:i.toNat=j:=Option.some.inj h;exact⟨by rw[seqIndex_of a h1,e],by lia,by lia,h1⟩
  ·rw[aj h1]at h;cases h
 ·rw[aj a]at h;by_cases h1: -(n:Int)<=i
  ·rw[ak h1]at h;have e:(i+n).toNat=j:=Option.some.inj h;exact⟨by rw[seqIndex_neg (by lia) h1,e],by lia,h1,by lia⟩
  ·rw[aj h1]at h;cases h
theorem yz{α:Type}{xs:List α}{i:Int}{v:α}(h:wG xs i=Z v):∃j,seqIndex? i xs.length=Z j/\xs[j]?=Z v/\j<xs.length /\ -(xs.length:Int)<=i/\i<xs.length:=by
 unfold wG at h;cases e:zy xs.length i with
 |none=>rw[e]at h;cases h
 |some j=>
  rw[e]at h;obtain⟨h1,h2,b,a⟩:=sT e;exact⟨j,h1,h,h2,b,a⟩
def n4(b:Expr):Prop:=∀o i,subscripted b J o i=operate [o,i] (getItem o i)
def Ho(X:Cx)(r:R2):Prop:=
 ∀(value slice:Expr) (ag:List (dk×Obj)) (s:dj) (σ:St) (H:Hp) (x y:V) (v u:di) (Q:VK),Inv X ag σ H s->d3 x v->d3 y u->r x y H Q ->
  subscripted slice J v u=operate [v,u] (getItem v u)->dz (Pt X.prog X.w) X.A (QE value slice v u) (EP X ag σ Q) X.xe s
def DV(X:Cx)(id:String)(r:V->List V->Hp->VK->Prop):Prop:=
 ∀(ag:List (dk×Obj)) (s:dj) (σ:St) (H:Hp) (x:V) (xs:List V) (v:di) (us:List di) (Q:VK),Inv X ag σ H s->d3 x v->ed xs us->r x xs H Q ->
  dz (Pt X.prog X.w) X.A (call (.builtin id) (v::us)) (EP X ag σ Q) X.xe s
section
variable{a b:Expr}{ta tb:TE}{pos:Pos}
theorem Ll{r:R2}(hr:Ho X r)(ha:PE X a ta)(hb:PE X b tb)(hs:n4 b):PE X (.Subscript a b pos) (KS r ta tb):=by
 intro ag s σ H Q I h;exact Subscript_ (Kh ha hb I h λv u c x y H2 e f d q=>hr a b ag c σ H2 x y v u Q e f d q (hs _ _))
def Nm(K:Fg1):R2:=λx y H Q=>∃p xs i v,x = .ref p/\y = .int i/\mU K H p xs/\wG xs i=Z v/\Q v H
def Nl(K:Fg1):R2:=λx y H Q=>∃p xs i v,x = .ref p/\y = .int i/\kA K H p xs/\wG xs i=Z v/\Q v H
theorem F2:Ho X (Nm X.K):=by
 intro value b ag s σ H x y v u Q I m l h k;obtain⟨p,xs,i,z,rfl,rfl,A,o,q⟩:=h;cases m;obtain⟨t,rfl⟩:=l;obtain⟨d,r,pl,F⟩:=I.list A;obtain⟨j,h1,h2,D,n,B⟩:=yz o;obtain⟨w,f,e⟩:=r.get h2;have C:=r.length;have E:=mI;have a:EP X ag σ Q w s:=⟨z,H,I,e,q⟩;by_cases g:0<=i
 ·have c:i.toNat=j:=by
   rw[seqIndex_of g B]at h1;exact Option.some.inj h1
  exact item_listR pl.isList g (by lia) (by rw[c];simpa using f) a k
 ·have c:(i+(d.toArray.size:Int)).toNat=j:=by
   rw[seqIndex_neg (by lia) n]at h1;rw[sT1,<- C];exact Option.some.inj h1
  exact subscriptTail_builtinR (x:=w) pl.isList.typeIs slot_list_getitem.lookup
   (wpAny_getItem_list_neg (Q:=λr s'=>r=w/\EP X ag σ Q r s') pl.isList (by lia) (by rw[sT1]<;>lia) (by lia) (by rw[c];simpa using f) ⟨O,a⟩) k
theorem JL:Ho X (Nl X.K):=by
 intro value a ag s σ H x y v u Q I f d h n;obtain⟨p,xs,i,z,rfl,rfl,l,k,q⟩:=h;cases f;obtain⟨t,rfl⟩:=d;obtain⟨g,r,pl,D⟩:=I.tuple l;obtain⟨j,h1,h2,o,B,C⟩:=yz k;obtain⟨w,e,b⟩:=r.get h2;have m:=r.length;have A:=mI;have c:EP X ag σ Q w s:=⟨z,H,I,b,q⟩;exact subscriptTail_builtinR (x:=w) pl.typeIs slot_tuple_getitem.lookup
  (getItem_tuple (j:=j) (Q:=λr s'=>r=w/\EP X ag σ Q r s') pl (by lia) (by lia) (by rw[sT1,<- m];exact h1) (by simpa using e) ⟨O,c⟩) n
theorem wf(its:List di)(n j:Nat)(u:di):QF (·.setIfInBounds j u) {cls:=.type "list",data:=.seq its.toArray n}={cls:=.type "list",data:=.seq (its.set j u).toArray n}:=by
 simp[QF]
theorem Inv.lst{ag:List (dk×Obj)}{σ:St}{H:Hp}{s:dj}{p:dk}{xs:List V}(I:Inv X ag σ H s)(h:H p=some (.lst xs)):
  ∃(its:List di) (n:Nat),ed xs its/\s.heap.get? p=Z {cls:=.type "list",data:=.seq its.toArray n}/\xs.length<=dy:=by
 obtain⟨z,its,n,r,e⟩:=I.hok p _ h;exact⟨its,n,r,e,z⟩
theorem Inv.lstUpd {ag:List (dk×Obj)}{σ:St}{H:Hp}{s:dj}{p:dk}{xs ys:List V}{its its':List di}{n a:Nat}{f:Obj->Obj}(I:Inv X ag σ H s)(h:H p=some (.lst xs))
  (ho:s.heap.get? p=Z {cls:=.type "list",data:=.seq its.toArray n}) (hf:f {cls:=.type "list",data:=.seq its.toArray n}={cls:=.type "list",data:=.seq its'.toArray a}) (r:ed ys its') (hz:ys.length<=dy) (t:Nat):
  Inv X ag σ (upd H p (.lst ys)) {s with heap:=s.heap.update p f,toks:=t}:=by
 have e:(s.heap.update p f).get? p=Z {cls:=.type "list",data:=.seq its'.toArray a}:=by
  rw[hW1 f ho (by rw[hf]<;>rfl),hf]
 refine I.write (x:=p) (e:=p) (by rw[h];trivial) (.inl O) (λb u c q=>(Heap.get?_update_other _ _ (Pr c)).trans q) ⟨_,e⟩ ?_;exact⟨hz,its',a,r,e⟩
def Lb:V->V->V->Hp->(Hp->Prop)->Prop:=λo i v H Q=>∃p xs k j,o = .ref p/\i = .int k/\H p=Z (.lst xs)/\zy xs.length k=Z j/\Q (upd H p (.lst (xs.set j v)))
theorem Bg:wO X Lb:=by
 intro ag s σ H o i v D C u Q I y A w h;obtain⟨p,xs,k,j,rfl,rfl,l,x,q⟩:=h;cases y;obtain⟨t,rfl⟩:=A;obtain⟨a,n,r,d,z⟩:=I.lst l;obtain⟨h1,h2,e,f⟩:=sT x;have c:=r.length;have B:=mI;have m:Inv X ag σ (upd H p (.lst (xs.set j v))) {s with heap:=s.heap.update p (QF (·.setIfInBounds j u))}:=
  I.lstUpd l d (wf a n j u) (r.set w j) (by rw[aV];exact z) s.toks
 by_cases g:0<=k
 ·have b:k.toNat=j:=by
   rw[seqIndex_of g f]at h1;exact Option.some.inj h1
  exact PySem.W.ki_setAt d g (by lia) (by rw[sT1,<- c];exact f) (by rw[b];exact⟨_,m,q⟩)
 ·have b:(k+(a.toArray.size:Int)).toNat=j:=by
   rw[seqIndex_neg (by lia) e]at h1;rw[sT1,<- c];exact Option.some.inj h1
  exact PySem.W.ki_setBack d (by lia) (by rw[sT1,<- c];exact e) (by lia) (by rw[b];exact⟨_,m,q⟩)
theorem se(lo hi:Option Int)(n:Nat):(QG lo hi Y n).1=((HT.sIx n 0 lo:Nat):Int)/\(QG lo hi Y n).2.1=((HT.sIx n n hi:Nat):Int)/\(QG lo hi Y n).2.2=1:=by
 refine⟨?_,?_,O⟩
 ·cases lo with
  |none=>simp[QG,HT.sIx]
  |some i=>
   simp only[QG,HT.sIx,Option.getD_none,show(1:Int)>0 by decide,Qv];by_cases h:i<0
   ·simp only[h,Qv]<;>lia
   ·simp only[h,Qt]<;>lia
 ·cases hi with
  |none=>simp[QG,HT.sIx]
  |some i=>
   simp only[QG,HT.sIx,Option.getD_none,show(1:Int)>0 by decide,Qv];by_cases h:i<0
   ·simp only[h,Qv]<;>lia
   ·simp only[h,Qt]<;>lia
theorem pS(its:List di)(lo hi:Option Int):slicePick its.toArray lo hi Y=((its.drop (HT.sIx its.length 0 lo)).take (HT.sIx its.length its.length hi-HT.sIx its.length 0 lo)).toArray:=by
 obtain⟨h1,h2,a⟩:=se lo hi its.toArray.size;unfold slicePick;rw[h1,h2,a];simp only[sliceRange_one,pick_run,sT1]<;>rfl
def Nk(K:Fg1):V->Option Int->Option Int->Hp->VK->Prop:=λx lo hi H Q=>∃a xs,x = .ref a/\mU K H a xs /\ ∀p,H p=Y->Q (.ref p) (upd H p (.lst (vc xs lo hi)))
theorem Ew:D5 X (Nk X.K):=by
 intro ag s σ H x v m n lo hi l Q I e i pl j h;obtain⟨a,xs,rfl,g,q⟩:=h;cases e;obtain⟨f,r,d,k⟩:=I.list g;have c:=r.length;refine⟨"list",_,slot_list_getitem.lookup,d.isList.typeIs,?_⟩;refine wpAny_getItem_list_slice d.isList i pl j .none (by simp) ?_ (by rw[sT1]<;>lia);rw[pS,<- c];refine⟨.ref s.heap.objs.size,_,I.laid (t':=s.toks) (o:=.lst (vc xs lo hi)) (λb p q=>hP1 _ q) (nR1 _) ?_,O,q _ (I.hok.fresh (nR1 _))⟩;exact⟨aD (nl xs lo hi) k,_,0,(r.drop (HT.sIx xs.length 0 lo)).take (HT.sIx xs.length xs.length hi-HT.sIx xs.length 0 lo),hS1 _ O⟩
noncomputable def kX:V->Bool
 | .non=>M
 | .bl _=>M
 | .int _=>M
 | .str _=>M
 |_=>J
noncomputable def vD:V->V->Bool
 | .non,.non=>M
 | .bl a,.bl b=>a == b
 | .bl a,.int b=>(if a then 1 else 0) == b
 | .int a,.bl b=>a == (if b then 1 else 0)
 | .int a,.int b=>a == b
 | .str a,.str b=>a == b
 |_,_=>J
theorem ll{A:dq}{s:dj}{y x:V}{u v:di}(e:d3 y u)(c:d3 x v)(g:kX y=M)(f:kX x=M):QH A s u v (vD y x):=by
 cases y with
 |non=>
  cases e;cases x with
  |non=>cases c;exact SeqAt.EqAt.same _
  |bl b=>cases c;exact SeqAt.EqAt.none_bool b
  |int b=>obtain⟨t,rfl⟩:=c;exact SeqAt.EqAt.none_int b t
  |str b=>obtain⟨t,rfl⟩:=c;exact SeqAt.EqAt.none_str b t
  |_=>exact absurd (show J=M from f) aL
 |bl a=>
  cases e;cases x with
  |non=>cases c;exact SeqAt.EqAt.bool_none a
  |bl b=>cases c;exact SeqAt.EqAt.bool_bool a b
  |int b=>obtain⟨t,rfl⟩:=c;exact SeqAt.EqAt.bool_int a b t
  |str b=>obtain⟨t,rfl⟩:=c;exact SeqAt.EqAt.bool_str a b t
  |_=>exact absurd (show J=M from f) aL
 |int a=>
  obtain⟨d,rfl⟩:=e;cases x with
  |non=>cases c;exact SeqAt.EqAt.int_none a d
  |bl b=>cases c;exact SeqAt.EqAt.int_bool a d b
  |int b=>obtain⟨t,rfl⟩:=c;exact SeqAt.EqAt.int_int a d b t
  |str b=>obtain⟨t,rfl⟩:=c;exact SeqAt.EqAt.int_str a d b t
  |_=>exact absurd (show J=M from f) aL
 |str a=>
  obtain⟨d,rfl⟩:=e;cases x with
  |non=>cases c;exact SeqAt.EqAt.str_none a d
  |bl b=>cases c;exact SeqAt.EqAt.str_bool a d b
  |int b=>obtain⟨t,rfl⟩:=c;exact SeqAt.EqAt.str_int a d b t
  |str b=>obtain⟨t,rfl⟩:=c;exact SeqAt.EqAt.str_str a d b t
  |_=>exact absurd (show J=M from f) aL
 |_=>exact absurd (show J=M from g) aL
theorem tI:eR X (.builtin "len") (λxs H Q=>∃p ys,xs=[.ref p]/\(mU X.K H p ys\/kA X.K H p ys)/\Q (.int ys.length) H):=by
 intro ag s σ H xs i Q I r h;obtain⟨p,ys,rfl,b,q⟩:=h;obtain⟨u,rfl,e⟩:=iP r;cases e;have g:=mI;rcases b with b|b
 ·obtain⟨c,d,pl,f⟩:=I.list b;have a:=d.length;exact Calls.call_len_list pl.isList (by simp only[sT1]<;>lia) ⟨.int ys.length,H,I.tok _,⟨s.toks+1,by rw[sT1,a]⟩,q⟩
 ·obtain⟨c,d,pl,f⟩:=I.tuple b;have a:=d.length;exact len_tuple pl (by simp only[sT1]<;>lia) ⟨.int ys.length,H,I.tok _,⟨s.toks+1,by rw[sT1,a]⟩,q⟩
theorem tH:eR X (.builtin "len") (λxs H Q=>∃z,xs=[.str z]/\z.length<=dy/\Q (.int z.length) H):=by
 intro ag s σ H xs a Q I r h;obtain⟨z,rfl,c,q⟩:=h;obtain⟨u,rfl,t,rfl⟩:=iP r;have b:=mI;exact len_str (by lia) ⟨.int z.length,H,I.tok _,⟨_,O⟩,q⟩
theorem tG:eR X (.type "list") (λxs H Q=>∃p ys,xs=[.ref p]/\(mU X.K H p ys\/kA X.K H p ys) /\ ∀l,H l=Y->Q (.ref l) (upd H l (.lst ys))):=by
 intro ag s σ H xs w Q I r h;obtain ⟨p,ys,rfl,g,q⟩:=h;obtain ⟨u,rfl,v⟩:=iP r;cases v;have k:∀ (a:List di),ed ys a->ys.length<=dy -> ∀ (h':dB) (c:Nat),(∀ b o',s.heap.get? b=some o'->h'.get? b=some o') ->
   h'.get? s.heap.objs.size=Z {cls:=.type "list",dict:=Y,data:=.seq a.toArray c,slots:= #[]}->EP X ag σ Q (.ref s.heap.objs.size) {s with heap:=h'}:=λa d j h' c i e=>
  ⟨.ref s.heap.objs.size,_,I.laid (t':=s.toks) i (nR1 _) (show eQ X.prog X.w _ h' _ (.lst ys)from⟨j,a,c,d,e⟩),O,q _ (I.hok.fresh (nR1 _))⟩
 rcases g with g|g
 ·obtain⟨a,d,pl,j⟩:=I.list g;have f:=d.length;obtain⟨o,t,hc,n,m⟩:=pl.isList;exact call_list_seq p (.inl O) t hc m (λh' c i e=>k a d j h' c i e) (by simp only[sT1]<;>lia)
 ·obtain⟨a,d,pl,j⟩:=I.tuple g;have f:=d.length;obtain⟨o,t,hc,n,m⟩:=pl;exact call_list_seq p (.inr O) t hc m (λh' c i e=>k a d j h' c i e) (by simp only[sT1]<;>lia)
theorem qc:eR X (.type "tuple") (λxs H Q=>∃p ys,xs=[.ref p]/\((mU X.K H p ys /\ ∀l,H l=Y->Q (.ref l) (upd H l (.tup ys)))\/(kA X.K H p ys/\Q (.ref p) H))):=by
 intro ag s σ H xs n Q I r h;obtain⟨p,ys,rfl,h⟩:=h;obtain⟨u,rfl,j⟩:=iP r;cases j;rcases h with⟨c,q⟩|⟨c,q⟩
 ·obtain ⟨a,d,pl,i⟩:=I.list c;have g:=d.length;refine call_tuple_list pl.isList (fun h' k=>?_) (by simp only [sT1]<;>lia);have f:Inv X ag σ H {s with heap:=h'}:=I.kept (t':=s.toks) k;have m:Inv X ag σ (upd H h'.objs.size (.tup ys)) {s with heap:=h'.push {cls:=.type "tuple",data:=.seq a.toArray}}:=
   f.laid (t':=s.toks) (λb o e=>hP1 _ e) (nR1 _) (show eQ X.prog X.w _ _ _ (.tup ys)from⟨i,a,d,mq.new _ _⟩)
  exact⟨.ref h'.objs.size,_,m,O,q _ (f.hok.fresh (nR1 _))⟩
 ·obtain⟨a,d,pl,i⟩:=I.tuple c;exact call_tuple_same pl ⟨.ref p,H,I,O,q⟩
def N4(K:Fg1)(T:String)(x:V)(H:Hp):Prop:=match x with
 | .str _=>T="str"
 | .int _=>T="int"
 | .ref p=>(T="list" /\ ∃ xs,mU K H p xs)\/(T="tuple" /\ ∃ o,K.lookup p=some o/\o.cls = .type "tuple"/\o.dict=none) \/
   (T="dict"/\((∃kvs,H p=Z (.dK kvs)) \/ ∃kvs,H p=Z (.dT kvs)))\/(T="set" /\ ∃S n,H p=Z (.set S n))
 |_=>False
theorem Hw{ag:List (dk×Obj)}{σ:St}{H:Hp}{s:dj}{T:String}{x:V}{v:di}(I:Inv X ag σ H s)(r:d3 x v)(ty:N4 X.K T x H):
  s.TypeIs v T /\ ∀a,v = .ref a -> ∃g,s.heap.get? a=Z g/\g.dict=Y:=by
 cases x with
 |str z=>
  obtain⟨t,rfl⟩:=r;cases(show T="str" from ty);exact⟨typeIs_str s z t,λ_ e=>nomatch e⟩
 |int i=>
  obtain⟨t,rfl⟩:=r;cases(show T="int" from ty);exact⟨typeIs_int s i t,λ_ e=>nomatch e⟩
 |ref p=>
  cases r;rcases ty with⟨rfl,xs,j⟩|⟨rfl,o,b,hc,d⟩|⟨rfl,b⟩|⟨rfl,S,n,b⟩
  ·obtain⟨h,_,pl,_⟩:=I.list j;refine⟨pl.isList.typeIs,λa e=>?_⟩;cases e;obtain⟨o,n,e,c,d,_⟩:=pl;exact⟨o,e,d⟩
  ·refine⟨⟨o,I.kIn p o b,hc⟩,λa e=>?_⟩;cases e;exact⟨o,I.kIn _ o b,d⟩
  ·have z:∃ o,s.heap.get? p=some o/\o.ExactDict:=by
    rcases b with⟨kvs,b⟩|⟨kvs,b⟩
    ·obtain⟨_,_,_,_,o,_,_,e,ex,_⟩:=I.hok p _ b;exact⟨o,e,ex⟩
    ·obtain⟨_,_,_,_,o,_,_,e,ex,_⟩:=I.hok p _ b;exact⟨o,e,ex⟩
   obtain⟨o,e,ex⟩:=z;refine⟨⟨o,e,ex.1⟩,λa f=>?_⟩;cases f;exact⟨o,e,ex.2.1⟩
  ·obtain⟨o,_,_,_,e,ex,_⟩:=I.hok p _ b;refine⟨⟨o,e,ex.1⟩,λa f=>?_⟩;cases f;exact⟨o,e,ex.2.1⟩
 |_=>exact Pz ty
def Ow(K:Fg1)(T:String)(r:V->List V->Hp->VK->Prop)(to:TE)(t:TA):TE:=fun σ H Q=>to σ H λx H1=>N4 K T x H1/\t σ H1 λxs H2=>r x xs H2 Q
variable{o e:Expr}{es:List Expr}{to:TE}{t:TA}{name:Str}{apos cpos:Pos}{T id:String}{r:V->List V->Hp->VK->Prop}
theorem Ln (i:PlainAttrs T)(slot:Slot T name id)(hty:typeOf (.builtin id)=pure (.type "method_descriptor"))(hm:DV X id r)(ho:PE X o to)(ha:PA X (e::es) t)
  (hbase:autoParam (QI o name X.env (eval o X.env)=eval o X.env) cu0)
  (hfew:autoParam (((Pu cpos (dw (e::es) X.env)).all (λx=> !x.1)&&(QJ cpos (QK [] X.env)).all (λx=>x.1.isSome)
   && decide ((e::es).length+([]:List Qi).length+(if([]:List Qi).isEmpty then 0 else 1)<30))=M) cu0)
  (hline:autoParam ((apos.endLine == cpos.line)=M) cu0) (hs:autoParam (dw (e::es) X.env=(J,eval e X.env)::dw es X.env) cu0) (hplain:autoParam ((Pu cpos (dw es X.env)).any (·.1)=J) cu0):
  PE X (.Call (.Attribute o name apos) (e::es) [] cpos) (Ow X.K T r to t):=by
 intro ag s σ H Q I h;refine wpAny_Call_method_late hbase hfew hline O (fh (ho ag s σ H _ I h) λv j ⟨x,H1,a,c,ty,d⟩=>?_);obtain⟨h1,h2⟩:=Hw a c ty;refine⟨T,id,i,slot,hty,h1,h2,?_⟩;have b:=ha cpos ag j σ H1 _ a d;rw[hs]at b ⊢;refine QL (by show(J||(Pu cpos (dw es X.env)).any (·.1))=J;rw[hplain]<;>rfl) (QM ?_);exact fh b λg k ⟨vs,H2,l,r2,f⟩=>hm ag k σ H2 x vs v g Q l c r2 f
end
def Ol(X:Cx)(id:String)(r:V->List V->Hp->VK->Prop):Prop:=
 ∀(ag:List (dk×Obj)) (s:dj) (σ:St) (H:Hp) (x:V) (xs:List V) (v:di) (us:List di) (Q:VK),Inv X ag σ H s->d3 x v->ed xs us->r x xs H Q ->
  dz (Pt X.prog X.w) X.A (call (.builtin id) (v::us)) (EP X ag σ Q) X.xe s
theorem ed.one:∀{x:V} {a:List di},ed [x] a -> ∃u,a=[u]/\d3 x u:=by
 intro x a h;cases h with
 |cons r t=>cases t;exact⟨_,O,r⟩
theorem ed.eraseIdx:∀{xs:List V} {a:List di} (i:Nat),ed xs a->ed (xs.eraseIdx i) (a.eraseIdx i)
 |_,_,_,.nil=>.nil
 |_,_,0,.cons _ t=>t
 |_,_,i+1,.cons r t=>.cons r (ed.eraseIdx i t)
theorem ed.reverse{xs:List V}{a:List di}(h:ed xs a):ed xs.reverse a.reverse:=by
 induction h with
 |nil=>exact .nil
 |cons r t ih=>rw[aW,aW];exact ed.append ih (.cons r .nil)
theorem qM{α:Type}:∀(l:List α) (i:Nat),(l.eraseIdx i).length<=l.length
 |[],_=>nR1 _
 |_::_,0=>aX _
 |_::r,i+1=>Nat.succ_le_succ (qM r i)
section
variable{ag:List (dk×Obj)}{σ:St}{H:Hp}{s:dj}{l b:dk}{xs ys zs:List V}
theorem Inv.lset {its its':List di}{n:Nat}{f:Array di->Array di}{t':Nat}(I:Inv X ag σ H s)(c:H l=some (.lst xs))
  (e:s.heap.get? l=Z {cls:=.type "list",data:=.seq its.toArray n}) (hf:f its.toArray=its'.toArray) (hv:ed ys its') (hz:ys.length<=dy):
  Inv X ag σ (upd H l (.lst ys)) {s with heap:=s.heap.update l (QF f),toks:=t'}:=by
 have q:=PySem.IsL.update e f;rw[hf]at q;refine I.write (x:=l) (e:=l) (by rw[c];exact trivial) (.inl O) (λd u b a=>(Heap.get?_update_other s.heap (QF f) (Pr b)).trans a) ⟨_,q⟩ ?_;exact⟨hz,its',_,hv,q⟩
theorem Inv.lnew{its:List di}{t':Nat}(I:Inv X ag σ H s)(hv:ed ys its)(hz:ys.length<=dy):
  Inv X ag σ (upd H s.heap.objs.size (.lst ys)) {s with heap:=s.heap.push {cls:=.type "list",data:=.seq its.toArray},toks:=t'}:=
 I.laid (λ_ _ q=>hP1 _ q) (nR1 _) ⟨hz,its,0,hv,hS1 _ O⟩
theorem Inv.fresh(I:Inv X ag σ H s):H s.heap.objs.size=Y:=I.hok.fresh (nR1 _)
theorem Inv.lstM(I:Inv X ag σ H s)(a:H l=Z (.lst xs)):xs.length<=dy /\ ∃(its:List di) (n:Nat),ed xs its/\xs.length=its.length/\s.heap.get? l=Z {cls:=.type "list",data:=.seq its.toArray n}:=by
 obtain⟨z,its,n,r,e⟩:=I.hok l _ a;exact⟨z,its,n,r,r.length,e⟩
end
def EI:V->List V->Hp->VK->Prop:=λx vs H Q=>∃l xs y,x = .ref l/\vs=[y]/\H l=Z (.lst xs)/\xs.length<dy/\Q .non (upd H l (.lst (xs++[y])))
theorem qB:Ol X "list.append" EI:=by
 intro ag s σ H x vs v g Q I d c h;obtain⟨l,xs,y,rfl,rfl,b,j,q⟩:=h;cases d;obtain⟨u,rfl,f⟩:=c.one;obtain⟨z,a,n,r,i,e⟩:=I.lstM b;refine call_meets F.slot_list_append ⟨_,e,O⟩ F.entry_list_append (F.args_list_append_2 _ _) (PySem.list_append l a.toArray n u (by rw[sT1];lia)) ⟨e,?_⟩;refine⟨.non,_,I.lset (its':=a++[u]) b e (by simp) (r.append (.cons f .nil)) ?_,O,q⟩;rw[lA1,aY];lia
def HX:V->List V->Hp->VK->Prop:=λx vs H Q=>∃l xs i k y,x = .ref l/\vs=[.int i]/\H l=Z (.lst xs) /\ -(2^63)<=i/\i<2^63/\seqIndex? i xs.length=Z k/\xs[k]?=Z y/\Q y (upd H l (.lst (xs.eraseIdx k)))
theorem B6:Ol X "list.pop" HX:=by
 intro ag s σ H x vs v A Q I f d h;obtain⟨l,xs,i,k,y,rfl,rfl,c,h1,h2,j,g,q⟩:=h;cases f;obtain⟨u,rfl,p⟩:=d.one;obtain⟨t,rfl⟩:=p;obtain⟨z,a,n,r,o,e⟩:=I.lstM c;obtain⟨w,m,b⟩:=r.get g;refine call_meets F.slot_list_pop ⟨_,e,O⟩ F.entry_list_pop (F.args_list_pop_2 _ _)
  (MeetsSeq.list_pop_at l a.toArray n i t k w (fitsIndex_both h1 h2) (by rw[sT1,<- o];exact j) (by rw[<- aT1];exact m) (by rw[sT1];lia)) ⟨e,?_⟩
 refine⟨y,_,I.lset (its':=a.eraseIdx k) c e ?_ (r.eraseIdx k) ?_,b,q⟩
 ·show a.toArray.eraseIdxIfInBounds k=(a.eraseIdx k).toArray;rw[List.eraseIdxIfInBounds_toArray]
 ·have:=qM xs k;lia
def Nn:R2:=λx y H Q=>∃l b xs zs,x = .ref l/\y = .ref b/\H l=Z (.lst xs)/\H b=Z (.lst zs)/\xs.length+zs.length<=dy /\ ∀p,H p=Y->Q (.ref p) (upd H p (.lst (xs++zs)))
theorem IG:gE X (P6 .Add) Nn:=by
 intro ag s σ H x y v u Q I f d h;obtain⟨l,b,xs,zs,rfl,rfl,k,g,w,q⟩:=h;cases f;cases d;obtain⟨z,c,n,r,p,e⟩:=I.lstM k;obtain⟨o,a,t,r2,j,i⟩:=I.lstM g;refine PySem.P.add_list e i ?_ (by rw[sT1,sT1];lia);have m:c.toArray++a.toArray=(c++a).toArray:=by simp
 rw[m];exact⟨.ref _,_,I.lnew (t':=s.toks) (r.append r2) (by rw[lA1];lia),O,q _ I.fresh⟩
section
variable{prog:dn}{w:dr}{A:dq}{E:di->dj->Prop}{s:dj}
end
end L2
namespace Att
open PySem PySem.W PySem.Calls PyProof.Rows
theorem nI{P:Params}{h:dB}:∀(ns:List Int) (vs:List di),WellAll P h vs (ns.map WData.int)->QN vs ns:=by
 intro ns
 induction ns with
 |nil=>
  intro vs w;rw[aZ]at w;cases w;exact .nil
 |cons n ns ih=>
  intro vs w;rw[mP1]at w;cases w with
  |cons a b=>
   cases a;exact .cons _ _ (ih _ b)
theorem yY{l:OpenLaw}{n:Nat}(hn:l.most=some n){P:Params}{h:dB}{args:List WData}{c:List di}(b:l.row.toRowW.claim.pre args=true)(j:WellAll P h c args):
  ∃a vs ns,c=[Pj a]/\args=[WData.list (ns.map WData.int)]/\h.get? a=Z {cls:=.type "list",data:=.seq vs.toArray}/\QN vs ns/\ns.length<=n:=by
 have k:WShape.hasAll [] args [.list .int]=M:=(pre_splitW b).1;have hc:l.pre.holds [] {args:=args}=M:=(pre_splitW b).2;obtain⟨d,r,rfl,h1,h2⟩:=hasAllW_cons k;obtain rfl:=hasAllW_nil h2;obtain⟨xs,rfl,m⟩:=hasW_list h1;obtain⟨ns,rfl⟩:=items_int m;have e:ns.length<=n:=by
  unfold OpenLaw.pre at hc;have g:(WTm.not (.lt (.lit (.int (n:Int))) (.len (.arg 0)))).holds [] {args:=[.list (ns.map .int)]}=M:=by
   have g:=(holds_andW hc).1;rw[hn]at g;exact g
  have i:=condW_of g (w_not (w_lt w_lit (w_len_list (w_arg O))));rw[lM1]at i;refine a0 λq=>?_;have o:(n:Int)<((ns.length:Nat):Int):=by omega
  first
   |(rw[ah o]at i;exact absurd i (by decide))
   |(simp at i;omega)
 cases j with
 |cons p t=>
  cases t;cases p with
  |list s f=>exact⟨_,_,ns,O,O,s,nI ns _ f,e⟩
theorem zb(l:OpenLaw)(args:List WData):l.row.toRowW.claim.post args (.bool M) args=M:=
 postW_of (r:=l.row.toRowW) (X:=(M == M))
  (show WShape.has [] (.bool M) .bool=M by first|rfl|decide|simp[WShape.has,WShape.arms,WShape.armsAll])
  (show(WTm.eq .res (.lit (.bool M))).value [] {args:=args,res:=Z (.bool M),after:=args}=Z (.bool (M == M))from w_eq_bool (w_res O) w_lit) O
theorem attach_call {l:OpenLaw}{n:Nat}{q:dn}{e:List Str}{XP:(Str->Option di)->dB->Prop}{C:dr->dB->Prop}{d:DefRec}
  (hn:l.most=Z n) (u:d.params.defaults=[])
  (call:∀(w:dr) (c b:dj) (mg s:Str->Option di) (k:dk) (o:Obj) (t p g:di) (a:dk) (vs:List di) (ns:List Int),
   Ground q e [] XP w c mg s b.heap->C w b.heap ->
   b.heap.get? k=Z o->o.data = .func (docDef d.name d.params d.body d.scope t p g)->b.heap.CodeRec p d.name->mg d.name=Z (.ref k) ->
   b.heap.get? a=Z {cls:=.type "list",data:=.seq vs.toArray}->QN vs ns->ns.length<=n->b.gens = #[] ->
   dA (Pt l.prog w) callerA (.call (.ref k) ⟨[.ref a],[]⟩) (λr s'=>r = .ok (.ret (.bool M))/\OldK b.heap s'.heap/\s'.os=b.os/\Pp s'.gens) b):
  WalkO q e XP C l.row.toRowW d [] (λf vs=>PySem.call f vs):=by
 intro w c b mg s G au k o t p g F kV L E v D x N A z as j B I y aq;obtain rfl:F = .none:=Dflts.none D u;obtain rfl:kV = .none:=Dflts.noKw D;obtain⟨a,vs,ns,rfl,rfl,i,h,m⟩:=yY hn j y;refine enter_call (Qg (call w c b mg s k o t p g a vs ns G au L (fd_plain E) v x i h m N) λr s' H=>?_);obtain⟨rfl,h2,ao,av⟩:=H;exact⟨.inl ⟨.bool M,.bool M,[],O,λ_=>rfl,.bool M,zb l _,λ_=>⟨List.Pairwise.nil,λ_ K=>(nomatch K)⟩⟩,h2,ao,av⟩
section
variable{prog:dn}{w:dr}{A:dq}{E:di->dj->Prop}{s:dj}{K:Frag}
end
end Att
namespace L2
open PySem PySem.Spec PyProof.Rows
theorem yJ:∀{vs:List di} {ns:List Int},QN vs ns->ed (ns.map V.int) vs:=by
 intro vs ns h
 induction h with
 |nil=>exact .nil
 |cons n t h ih=>exact .cons ⟨t,O⟩ ih
def GP(H:Hp):Prop:=∀b,H b=Y \/ ∃o xs,H b=Z (.frz o (.lst xs))
theorem Cs {P:dn}{w:dr}{K:Fg1}{mg C:Str->Option di}{CX:Aj}{k:Nat}{I a:dk}{fd:dD}{x:Str}{sp:Sp}{s₁:dj}{vs:List di}{ns:List Int}
  (N:K.In s₁.heap) (B:s₁.heap.Ns dv mg) (hb:s₁.heap.Ns builtinsNs C) (ao:∀x:Str,x≠"__name__"->C x=Po x) (y:s₁.heap.NoLimit) (hg:s₁.gens = #[])
  (ha:s₁.heap.get? a=Z {cls:=.type "list",data:=.seq vs.toArray}) (hi:QN vs ns) (R:ns.length<=dy) (hr:fR k callerA)
  (F:∀base:dB,K.In base->base.Ns dv mg->j3 P w K mg base CX k I fd [x] sp) (g:∀(s:dj) (u:di),BindsTo s fd ⟨[u],[]⟩ [(x,u)])
  (D:∀H:Hp,GP H->mU K H a (ns.map V.int)->sp [.ref a] H (λv _=>v = .bl M) λ_ _ _=>False)
  (E:∀H e s',CX [] H s₁ (λ_ _ _=>False) e s'->False):
  dA (Pt P w) callerA (.call (.ref I) ⟨[.ref a],[]⟩) (λr s'=>r = .ok (.ret (.bool M))/\OldK s₁.heap s'.heap/\s'.os=s₁.os/\Pp s'.gens) s₁:=by
 have aq:=yJ hi;have i:=hi.length
 -- from an abstract heap in which nothing but the script may be tracked
 have f:∀ H:Hp,GP H->mU K H a (ns.map V.int)->lr P w H s₁.heap->(∀ b,H b≠none->b=a)->(H a≠none->K.lookup a=none) ->
   dA (Pt P w) callerA (.call (.ref I) ⟨[.ref a],[]⟩) (λr s'=>r = .ok (.ret (.bool M))/\OldK s₁.heap s'.heap/\s'.os=s₁.os/\Pp s'.gens) s₁:=by
  intro H Q hS p S au;have base_of:∀{b:dk} {o:Obj},s₁.heap.get? b=Z o->H b=Y->(sZ s₁.heap H).get? b=Z o:=λe n=>CG e n;have L:∀{b:dk} {o:Obj} {es:Array DictEntry} {ep:Nat},s₁.heap.get? b=Z o->o.data = .dict es ep->H b=Y:=λ{b o es ep} e d=>by
   cases q:H b with
   |none=>rfl
   |some u=>
    have G:b=a:=S b (by rw[q];simp);subst G;rw[ha]at e;cases e;have d':Data.seq vs.toArray _=Data.dict es ep:=d;cases d'
  have c:∀{b:dk} {m:Str->Option di},s₁.heap.Ns b m->(sZ s₁.heap H).Ns b m:=λ{b m} ⟨o,es,ep,e,d,r⟩=>⟨o,es,ep,base_of e (L e d),d,r⟩;have j:K.In (sZ s₁.heap H):=λb o e=>base_of (N b o e) (by
   cases q:H b with
   |none=>rfl
   |some u=>
    have G:b=a:=S b (by rw[q];simp);subst G;rw[au (by rw[q];simp)]at e;cases e)
  have hM:Mod K mg (sZ s₁.heap H):=⟨j,c B,⟨C,c hb,ao⟩,let ⟨mc,h1,h2⟩:=y;⟨mc,c h1,h2⟩⟩;have U:GR P w K mg (sZ s₁.heap H) callerA [] s₁ H:=⟨O,hM,λb o e=>Fd e,Nat.le_of_eq (zG _ _),trivial,λb hb=>absurd (show b∈([]:List dk)from hb) (by simp),p,.of_eq hg⟩;refine Qg ((F _ j (c B)).run callerA [] s₁ H ⟨[.ref a],[]⟩ [.ref a] [.ref a] _ _ hr U (g s₁ (.ref a)) (.cons O .nil) (D H Q hS)) λr s' h=>?_;cases r with
  |error e=>exact(E H e s' h).elim
  |ok fl=>
   cases fl with
   |next=>exact Pz h
   |brk=>exact Pz h
   |cont=>exact Pz h
   |ret u=>
    obtain⟨v,H',X,A,un,l,wq,q⟩:=h;have T:v = .bl M:=q;subst T;obtain rfl:u=Pi true:=wq;refine⟨O,OldK.of_keep λb o e=>?_,X,A⟩;cases q:H b with
    |none=>exact un.keep b o e q (by intro z;exact absurd (show b∈([]:List dk)from z) (by simp)) (by simp)
    |some u=>
     rcases Q b with z|⟨W,xs,z⟩
     ·rw[q]at z;cases z
     ·have z2:=un.frzs b W _ z;obtain⟨av,_⟩:=p b _ z;obtain⟨e2,_⟩:=l b _ z2;rw[e]at av;cases av;exact e2
 cases hk:K.lookup a with
 |some o=>
  -- the script is one of the module's own objects
  have e:=N a o hk;rw[ha]at e;cases e;refine f (λ_=>Y) (λ_=>.inl O) (.inr ⟨_,vs.toArray,_,hk,O,O,O,by rw[sT1,i];exact R,by simpa using aq⟩) (λb u z=>by have t:(Y:Option HO)=Z u:=z;cases t) (λb z=>absurd O z) λz=>absurd O z
 |none=>
  refine f (λb=>if b=a then Z (.frz {cls:=.type "list",data:=.seq vs.toArray} (.lst (ns.map V.int)))else Y) (λb=>?_) (.inl (.inr ⟨{cls:=.type "list",data:=.seq vs.toArray},ak O⟩)) (λb u z=>?_) (λb z=>?_) λ_=>hk
  ·by_cases hb:b=a
   ·exact .inr ⟨_,_,ak hb⟩
   ·exact .inl (aj hb)
  ·by_cases hb:b=a
   ·have t:=(ak hb).symm.trans z;cases t;subst hb;exact⟨ha,by rw[lM1];exact R,vs,_,aq,ha⟩
   ·have t:=(aj hb).symm.trans z;cases t
  ·by_cases hb:b=a
   ·exact hb
   ·exact absurd (aj hb) z
theorem Ek{l:PySem.W.OpenLaw}{n k:Nat}{q:dn}{g:List Str}{XP:(Str->Option di)->dB->Prop}{C:dr->dB->Prop}{d:DefRec}{K:Params->Fg1}{CX:dr->Aj}{sp:dr->Sp}{x:Str}(hn:l.most=some n)(t:n<=dy)(y:d.params.defaults=[])(hr:fR k callerA)(E:∀(w:dr) (h:dB),C w h->(K w.params).In h)(F:∀(w:dr) (mg:Str->Option di) (m:dk) (h:dB),(K w.params).In h->h.Ns dv mg->mg d.name=some (.ref m) ->
   ∃fd:dD,(∀(s:dj) (u:di),BindsTo s fd ⟨[u],[]⟩ [(x,u)]) /\
    ∀base:dB,(K w.params).In base->base.Ns dv mg->j3 l.prog w (K w.params) mg base (CX w) k m fd [x] (sp w))(p:∀(w:dr) (H:Hp) (a:dk) (ns:List Int),ns.length<=n->GP H->mU (K w.params) H a (ns.map V.int)->sp w [.ref a] H (λv _=>v = .bl M) λ_ _ _=>False)(r:∀(w:dr) (H:Hp) (s:dj) (e:di) (s':dj),CX w [] H s (λ_ _ _=>False) e s'->False):
  PySem.W.WalkO q g XP C l.row.toRowW d [] (λf vs=>PySem.call f vs):=by
 refine Att.attach_call hn y λw A j mg Q m o R T D a vs ns G au S P ao z i c b I=>?_;have B:=E w _ au;obtain⟨fd,L,N⟩:=F w mg m _ B G.T.g z;exact Cs B G.T.g G.T.b G.T.builtins G.T.nolimit I i c (aD b t) hr N L (λH aq av=>p w H a ns b aq av) λH e s'=>r w H j e s'
noncomputable def iI(s:dE):Arguments:=match s with
 | .FunctionDef _ a _ _ _ _ _ _ _ _=>a
 |_=>{posonlyargs:=[],args:=[],vararg:=Y,kwonlyargs:=[],kw_defaults:=[],kwarg:=Y,defaults:=[]}
noncomputable def fz(s:dE):List dE:=match s with
 | .FunctionDef _ _ b _ _ _ _ _ _ _=>b
 |_=>[]
noncomputable def d5(s:dE):dF:=match s with
 | .FunctionDef _ _ _ _ _ _ sc _ _ _=>sc
 |_=>{kind:=.function,names:=[],isGenerator:=J,isCoroutine:=J}
abbrev vz:Aj:=λ_ _ _ _ _ _=>False
abbrev E0:XK:=λ_ _ _=>False
theorem G0{X:Cx}:tP vz X E0:=λ_ _ _ _ _ _ _ h=>h.elim
structure An (K:Fg1)(x qual:Str)(st:dE)(f:dk)(fd:dD):Prop where
 ex:∃(oc:di) (od:Option dk) (kV doc pm:di) (an:Option dk) (cdv ct:di) (osl:Array (Option di)),
  fd=wF1 x qual (iI st) (fz st) (d5 st) .none kV doc pm an cdv ct/\K.lookup f=some ⟨oc,od,.func fd,osl⟩/\wC1 K cdv qual=true
 kp:wK1 K (.ref f)=true
section
variable{P:dn}{w:dr}{K:Fg1}{mg:Str->Option di}{base:dB}
theorem An.ok{x b:Str}{st:dE}{f:dk}{fd:dD}{N ps:List Str}{k:Nat}{sp:Sp}(F:An K x b st f fd)(S:gR N ps (d5 st))(len:∀ vs H Q E,sp vs H Q E->vs.length=ps.length)(d:∀(c:di) (A:dq) (a:List Env) (s:dj) (H:Hp) (vs:List V) (Q:VK) (E:XK),fR k (A.deeper (Qk b (d5 st) s.heap.objs.size f c))->sp vs H Q E ->
   ∃t,vE (nL vz P w K mg base N b (d5 st) f c A a s H E).nox (fz st) t/\t {nx:=λ_ H'=>Q .non H',rt:=Q} (jy N vs) H):j3 P w K mg base vz (k+1) f fd ps sp:=by
 obtain⟨n,m,kV,j,o,p,c,ct,l,rfl,lk,g⟩:=F.ex;refine LV lk g S len λA a s H vs Q E i e=>?_;obtain⟨t,h,q⟩:=d c A a s H vs Q E i e;exact⟨t,h.nox,q⟩
theorem An.binds{x a:Str}{st:dE}{f:dk}{fd:dD}{ps:List Str}(F:An K x a st f fd)(h:∀(kV c d:di) (e:Option dk) (b ct:di) (g:List di),g.length=ps.length->bindArgs (wF1 x a (iI st) (fz st) (d5 st) .none kV c d e b ct) ⟨g,[]⟩=pure (ps.zip g)):k8 K fd ps []:=by
 obtain⟨l,k,kV,c,d,e,b,ct,j,rfl,lk,i⟩:=F.ex;exact .all (h kV c d e b ct)
theorem CQ{x a:Str}{st:dE}{f:dk}{j:di}{i h:Option dk}{e:Array (Option di)}{kV d g b ct:di}(l:K.lookup f=Z ⟨j,i,.func (wF1 x a (iI st) (fz st) (d5 st) .none kV d g h b ct),e⟩)(c:wC1 K b a=M)(k:wK1 K (.ref f)=M):An K x a st f (wF1 x a (iI st) (fz st) (d5 st) .none kV d g h b ct):=⟨⟨j,i,kV,d,g,h,b,ct,e,O,l,c⟩,k⟩
end
variable{X:Cx}
def Af(H H':Hp):Prop:=∀b o,H b=Z o->H' b=Z o
theorem Af.trans{H H1 H2:Hp}(a:Af H H1)(b:Af H1 H2):Af H H2:=λc o h=>b c o (a c o h)
theorem Af.free{H H':Hp}(e:Af H H'){l:dk}(h:H' l=Option.none):H l=Option.none:=by
 cases q:H l with
 |none=>rfl
 |some o=>
  rw[e l o q]at h;cases h
section
variable{κ:Type} [DecidableEq κ]
noncomputable def hA(kvs:List (κ×V))(k:κ):Option V:=(kvs.find? λkv=>decide (kv.1=k)).map (·.2)
noncomputable def hR(kvs:List (κ×V))(k:κ)(v:V):List (κ×V):=
 if(kvs.any λkv=>decide (kv.1=k))=M then kvs.map (λkv=>if kv.1=k then(kv.1,v)else kv)else kvs++[(k,v)]
theorem og{p:κ×V}{r:List (κ×V)}{k:κ}(e:p.1=k):hA (p::r) k=Z p.2:=by simp[hA,bc,e]
theorem oh{p:κ×V}{r:List (κ×V)}{k:κ}(e:¬ p.1=k):hA (p::r) k=hA r k:=by simp[hA,bc,e]
theorem tV(k:κ):∀kvs:List (κ×V),(kvs.any λa=>decide (a.1=k))=(hA kvs k).isSome
 |[]=>rfl
 |p::r=>by
  rw[bd];by_cases e:p.1=k
  ·simp only[og e,ah e,Bool.true_or,Option.isSome_some]
  ·rw[oh e,ai e,Bool.false_or];exact tV k r
theorem iF(kvs:List (κ×V))(k:κ)(v:V):(hR kvs k v).length<=kvs.length+1:=by
 unfold hR;split
 ·rw[lM1];lia
 ·rw[lA1,lC1,bf];lia
theorem mW.isSome_eq{o:Option V}{u:Option di}(r:mW o u):o.isSome=u.isSome:=by
 cases o with
 |none=>cases u with
  |none=>rfl
  |some _=>exact(show False from r).elim
 |some _=>cases u with
  |none=>exact(show False from r).elim
  |some _=>rfl
theorem KV.val{kvs:List (κ×V)}{vs:List (κ×di)}(r:KV kvs vs)(k:κ):mW (hA kvs k) (QO vs k):=by
 unfold KV at r
 induction r with
 |nil=>exact Qd
 | @cons p q ps c h t ih=>
  obtain⟨h1,h2⟩:=h;by_cases e:p.1=k
  ·have a:q.1=k:=h1.symm.trans e;have b:QO (q::c) k=Z q.2:=by simp[QO,bc,a]
   rw[og e,b];exact h2
  ·have a:¬ q.1=k:=λz=>e (h1.trans z);have b:QO (q::c) k=QO c k:=by simp[QO,bc,a]
   rw[oh e,b];exact ih
theorem KV.any{kvs:List (κ×V)}{vs:List (κ×di)}(r:KV kvs vs)(k:κ):(kvs.any λa=>decide (a.1=k))=vs.any λa=>decide (a.1=k):=by
 unfold KV at r
 induction r with
 |nil=>rfl
 |cons h t ih=>rw[bd,bd,ih,h.1]
theorem KV.repl{kvs:List (κ×V)}{vs:List (κ×di)}(r:KV kvs vs)(k:κ){y:V}{u:di}(b:d3 y u):
  KV (kvs.map λa=>if a.1=k then(a.1,y)else a) (vs.map λa=>if a.1=k then(a.1,u)else a):=by
 unfold KV at r ⊢
 induction r with
 |nil=>exact .nil
 | @cons p q ps c h t ih=>
  rw[mP1,mP1];refine .cons ?_ ih;obtain⟨h1,h2⟩:=h;by_cases e:p.1=k
  ·rw[ak e,ak (h1.symm.trans e)];exact⟨h1,b⟩
  ·rw[aj e,aj (λz=>e (h1.trans z))];exact⟨h1,h2⟩
theorem KV.put{kvs:List (κ×V)}{vs:List (κ×di)}(r:KV kvs vs)(k:κ){y:V}{u:di}(a:d3 y u):KV (hR kvs k y) (stored vs k u):=by
 unfold hR stored;rw[r.any k];by_cases e:(vs.any λb=>decide (b.1=k))=M
 ·rw[ak e,ak e];exact r.repl k a
 ·rw[aj e,aj e];exact Paired.snoc r ⟨O,a⟩
theorem KV.length{kvs:List (κ×V)}{vs:List (κ×di)}(r:KV kvs vs):kvs.length=vs.length:=Paired.length r
end
theorem oZ{P:dn}{w:dr}{k:Key}{u:di}(r:d3 (kV k) u):(fc P w).is k u=M:=by
 cases k with
 |inl i=>obtain⟨t,e⟩:=(show∃t,u=ab i t from r);subst e;exact uB P w i t
 |inr x=>obtain⟨t,e⟩:=(show∃t,u=ae x t from r);subst e;exact uA P w x t
theorem q0{P:dn}{w:dr}:∀{ks:List Key} {a:List di},ed (ks.map kV) a->ItemsAre (fc P w) ks a
 |[],_,r=>by rw[aZ]at r;cases r;exact .nil
 |k::ks,_,r=>by
  rw[mP1]at r;cases r with
  |cons h t=>exact .cons (oZ h) (q0 t)
abbrev KT(H:Hp):List (List Key×V)->List (List Key×dk×di)->Prop:=Paired λp q=>p.1=q.1/\H q.2.1=Z (.tup (p.1.map kV))/\d3 p.2 q.2.2
theorem KT.val{H:Hp}{kvs:List (List Key×V)}{xs:List (List Key×dk×di)}(r:KT H kvs xs)(k:List Key):mW (hA kvs k) ((QP xs k).map (·.2)):=by
 induction r with
 |nil=>exact Qd
 | @cons p q ps c h t ih=>
  obtain⟨h1,_,h2⟩:=h;by_cases e:p.1=k
  ·have a:q.1=k:=h1.symm.trans e;have b:QP (q::c) k=Z q.2:=by simp[QP,bc,a]
   rw[og e,b];exact h2
  ·have a:¬ q.1=k:=λz=>e (h1.trans z);have b:QP (q::c) k=QP c k:=by simp[QP,bc,a]
   rw[oh e,b];exact ih
theorem KT.repl{H:Hp}{kvs:List (List Key×V)}{xs:List (List Key×dk×di)}(r:KT H kvs xs)(k:List Key){y:V}{u:di}(c:d3 y u):
  KT H (kvs.map λa=>if a.1=k then(a.1,y)else a) (xs.map (putAt k u)):=by
 induction r with
 |nil=>exact .nil
 | @cons p q ps d h t ih=>
  rw[mP1,mP1];refine .cons ?_ ih;obtain⟨h1,h2,b⟩:=h;unfold putAt;by_cases e:p.1=k
  ·rw[ak e,ak (h1.symm.trans e)];exact⟨h1,h2,c⟩
  ·rw[aj e,aj (λz=>e (h1.trans z))];exact⟨h1,h2,b⟩
theorem KT.put{H:Hp}{kvs:List (List Key×V)}{xs:List (List Key×dk×di)}(r:KT H kvs xs)(k:List Key){b:dk}{y:V}{u:di}(hb:H b=some (.tup (k.map kV)))(a:d3 y u):
  KT H (hR kvs k y) (storedH xs k b u):=by
 have e:(kvs.any λc=>decide (c.1=k))=(QP xs k).isSome:=by
  rw[tV,(r.val k).isSome_eq,bg]
 unfold hR storedH;rw[e];by_cases q:(QP xs k).isSome=M
 ·rw[ak q,ak q];exact r.repl k a
 ·rw[aj q,aj q];exact Paired.snoc r ⟨O,hb,a⟩
theorem KT.keeps{H H':Hp}{kvs:List (List Key×V)}{xs:List (List Key×dk×di)}(r:KT H kvs xs)(ht:∀b ys,H b=Z (.tup ys)->H' b=Z (.tup ys)):KT H' kvs xs:=
 Paired.mapP r λ_ _ z=>⟨z.1,ht _ _ z.2.1,z.2.2⟩
section
variable{P:dn}{w:dr}{H:Hp}{h:dB}{a:dk}
theorem GY{u:HO}(ok:lr P w H h)(e:Rd H a u):eQ P w H h a u:=e.ok ok
theorem pv{kvs:List (Key×V)}(ok:lr P w H h)(e:Rd H a (.dK kvs)):kvs.length<=dy/\(a == Pm)=J /\ ∃vs,KV kvs vs/\h.DictOf (fc P w) a vs:=
 show eQ P w H h a (.dK kvs)from GY ok e
theorem u7{kvs:List (Key×V)}(ok:lr P w H h)(e:H a=Z (.dK kvs)):kvs.length<=dy/\(a == Pm)=J /\ ∃vs,KV kvs vs/\h.DictOf (fc P w) a vs:=pv ok (.inl e)
theorem oX{ks:List Key}(ok:lr P w H h)(e:H a=Z (.tup (ks.map kV))):(tupleKind (fc P w)).is h ks a:=by
 obtain⟨_,b,r,o,h1,h2,n,c,_⟩:=(show eQ P w H h a (.tup (ks.map kV))from ok a _ e);exact⟨o,b.toArray,n,h1,h2,c,by simpa using q0 r⟩
theorem rp{kvs:List (List Key×V)}(ok:lr P w H h)(e:Rd H a (.dT kvs)):kvs.length<=dy/\(a == Pm)=false /\
  ∃xs,KT H kvs xs/\h.DictOfH (tupleKind (fc P w)) a xs:=by
 obtain⟨z,y,xs,r,o,es,ep,h1,h2,d,f,g⟩:=(show eQ P w H h a (.dT kvs)from GY ok e);refine⟨z,y,xs,r,o,es,ep,h1,h2,d,f,λx b=>?_,g⟩;have all:∀{l:List (List Key×V)} {m:List (List Key×dk×di)},KT H l m -> ∀x∈m,(tupleKind (fc P w)).is h x.1 x.2.1:=by
  intro l m q
  induction q with
  |nil=>intro x b;exact nomatch b
  | @cons p q ps i c t ih=>
   intro x b;rcases aF.mp b with e|b
   ·subst e;exact oX ok (by rw[<- c.1];exact c.2.1)
   ·exact ih x b
 exact all r x b
theorem L1{kvs:List (List Key×V)}(ok:lr P w H h)(e:H a=some (.dT kvs)):kvs.length<=dy/\(a == Pm)=false /\
  ∃xs,KT H kvs xs/\h.DictOfH (tupleKind (fc P w)) a xs:=rp ok (.inl e)
end
def qh(H:Hp)(a:dk)(y:V)(r:Option V):Prop:=
 (∃kvs k,Rd H a (.dK kvs)/\y=kV k/\r=hA kvs k) \/ ∃kvs k b,Rd H a (.dT kvs)/\y = .ref b/\H b=Z (.tup (k.map kV))/\r=hA kvs k
def Ai(H:Hp)(a:dk)(y v:V)(H':Hp):Prop:=
 (∃kvs k,H a=Z (.dK kvs)/\y=kV k/\kvs.length<dy/\H'=upd H a (.dK (hR kvs k v))) \/
 ∃kvs k b,H a=Z (.dT kvs)/\y = .ref b/\H b=Z (.tup (k.map kV))/\kvs.length<dy/\H'=upd H a (.dT (hR kvs k v))
theorem qh.k{H:Hp}{a:dk}{kvs:List (Key×V)}{k:Key}(e:H a=Z (.dK kvs)):qh H a (kV k) (hA kvs k):=.inl ⟨kvs,k,.inl e,O,O⟩
theorem qh.t{H:Hp}{a b:dk}{kvs:List (List Key×V)}{k:List Key}(e:H a=Z (.dT kvs))(eb:H b=Z (.tup (k.map kV))):qh H a (.ref b) (hA kvs k):=.inr ⟨kvs,k,b,.inl e,O,eb,O⟩
theorem Ai.k{H:Hp}{a:dk}{kvs:List (Key×V)}{k:Key}{v:V}(e:H a=Z (.dK kvs))(b:kvs.length<dy):Ai H a (kV k) v (upd H a (.dK (hR kvs k v))):=.inl ⟨kvs,k,e,O,b,O⟩
theorem Ai.t{H:Hp}{a b:dk}{kvs:List (List Key×V)}{k:List Key}{v:V}(e:H a=some (.dT kvs))(eb:H b=some (.tup (k.map kV)))(c:kvs.length<dy):
  Ai H a (.ref b) v (upd H a (.dT (hR kvs k v))):=.inr ⟨kvs,k,b,e,O,eb,c,O⟩
section
variable{ag:List (dk×Obj)}{σ:St}{H:Hp}{s:dj}{a:dk}{y v:V}{u r:di}{o:Option V}{A:dq}{E:di->dj->Prop}
theorem Inv.big(I:Inv X ag σ H s):Pm<s.heap.objs.size:=by
 have h:dv<s.heap.objs.size:=(I.mod.glob.keeps I.bk).lt;exact bh (by decide) h
theorem zQ{Q:di->dj->Prop}(t:A.units+1<Qe)(I:Inv X ag σ H s)(g:qh H a y (some v))(q:d3 y u)(h:∀ f s',Inv X ag σ H s'->d3 v f->Q f s'):
  dz (Pt X.prog X.w) A (getItem (.ref a) u) Q E s:=by
 rcases g with⟨kvs,k,e,i,l⟩|⟨kvs,k,b,e,i,eb,l⟩
 ·subst i;obtain⟨z,r,vs,c,j⟩:=pv I.hok e;obtain⟨f,m,d⟩:=mW.some_of (v:=v) (o:=QO vs k) (by rw[l];exact c.val k);exact wpAny_getItem_of (oZ q) j.mapOf m (h f _ (I.tok _) d)
 ·subst i;cases(show u=Pj b from q);obtain⟨z,r,xs,c,j⟩:=rp I.hok e;obtain⟨f,m,d⟩:=mW.some_of (v:=v) (o:=(QP xs k).map (·.2)) (by rw[l];exact c.val k);obtain⟨p,w,n⟩:=R4 m;refine wpAny_getItem_heap (QQ t) (oX I.hok eb) j w ?_;rw[n];exact h f _ (I.tok _) d
theorem NI{Q:di->dj->Prop}(m:A.units+1<Qe)(I:Inv X ag σ H s)(g:qh H a y o)(j:d3 y u)(h:∀ s',Inv X ag σ H s'->Q (.bool o.isSome) s'):
  dz (Pt X.prog X.w) A (P7 .In u (.ref a)) Q E s:=by
 rcases g with⟨kvs,k,e,f,l⟩|⟨kvs,k,b,e,f,eb,l⟩
 ·subst f;obtain⟨z,d,vs,c,i⟩:=pv I.hok e;refine wpAny_in_of (oZ j) d i.mapOf ?_;rw[<- (c.val k).isSome_eq,<- l];exact h _ (I.tok _)
 ·subst f;cases(show u=Pj b from j);obtain⟨z,d,xs,c,i⟩:=rp I.hok e;refine wpAny_in_heap (QQ m) (oX I.hok eb) d i ?_;have q:=(c.val k).isSome_eq;rw[bg]at q;rw[<- q,<- l];exact h _ (I.tok _)
theorem Gs{Q:di->dj->Prop}(m:A.units+1<Qe)(I:Inv X ag σ H s)(g:qh H a y o)(j:d3 y u)(h:∀ s',Inv X ag σ H s'->Q (.bool (!o.isSome)) s'):
  dz (Pt X.prog X.w) A (P7 .NotIn u (.ref a)) Q E s:=by
 rcases g with⟨kvs,k,e,f,l⟩|⟨kvs,k,b,e,f,eb,l⟩
 ·subst f;obtain⟨z,d,vs,c,i⟩:=pv I.hok e;refine wpAny_notIn_of (oZ j) d i.mapOf ?_;rw[<- (c.val k).isSome_eq,<- l];exact h _ (I.tok _)
 ·subst f;cases(show u=Pj b from j);obtain⟨z,d,xs,c,i⟩:=rp I.hok e;refine wpAny_notIn_heap (QQ m) (oX I.hok eb) d i ?_;have q:=(c.val k).isSome_eq;rw[bg]at q;rw[<- q,<- l];exact h _ (I.tok _)
theorem ku{h':dB}{t':Nat}{c:HO}(I:Inv X ag σ H s)(mu:Kx (H a))(hs:Ps a s.heap h')(he:∃ q,h'.get? a=some q)(new:eQ X.prog X.w (upd H a c) h' a c):
  Inv X ag σ (upd H a c) {s with heap:=h',toks:=t'}:=
 I.write (x:=a) (e:=a) mu (.inl O) (λb q d z=>(hs.2 b d).trans z) he new
theorem wB{P:dn}{w:dr}{H':Hp}{h':dB}{kvs:List (Key×V)}{vs:List (Key×di)}(z:kvs.length<=dy)(hd:(a == Pm)=false)(b:KV kvs vs)(dd:h'.DictOf (fc P w) a vs):
  eQ P w H' h' a (.dK kvs):=⟨z,hd,vs,b,dd⟩
theorem zP{H':Hp}{Q:Unit->dj->Prop}(K:A.units+1<Qe)(I:Inv X ag σ H s)(g:Ai H a y v H')(B:d3 y u)(x:d3 v r)(h:∀ s',Inv X ag σ H' s'->Q () s'):
  dz (Pt X.prog X.w) A (setItem (.ref a) u r) Q E s:=by
 rcases g with⟨kvs,k,e,m,l,p⟩|⟨kvs,k,b,e,m,eb,l,p⟩
 ·subst m p;obtain⟨z,j,vs,d,n⟩:=u7 I.hok e;have t:vs.length<=dy:=by rw[<- d.length];exact z
  have o:(hR kvs k v).length<=dy:=by have:=iF kvs k v;lia
  refine wpAny_setItem_pairs (hsz:=t) (oZ B) n λh' f w=>h _ ?_;have G:∃q,h'.get? a=Z q:=let ⟨q,_,_,i,_⟩:=f;⟨q,i⟩
  exact ku I (by rw[e];exact Qd) w G (wB o j (d.put k x) f)
 ·subst m p;cases(show u=Pj b from B);obtain⟨z,j,xs,d,n⟩:=L1 I.hok e;have t:xs.length<=dy:=by rw[<- Paired.length d];exact z
  have o:(hR kvs k v).length<=dy:=by have:=iF kvs k v;lia
  refine wpAny_setItem_heap (hsz:=t) (QQ K) (oX I.hok eb) n λh' f w=>h _ ?_;obtain⟨q,es,ep,i,h2,D,F,_,ao⟩:=f;refine ku I (by rw[e];exact Qd) w ⟨q,i⟩ ⟨o,j,_,(d.put k eb x).keeps λc ys C=>?_,q,es,ep,i,h2,D,F,ao⟩;rw[d6 (Lx C e (λz=>nomatch z))];exact C
end
section
variable{ag:List (dk×Obj)}{σ:St}{H:Hp}{s:dj}{a:dk}{kvs:List (Key×V)}{k:Key}{u:di}{A:dq}{E:di->dj->Prop}
theorem L5{Q:di->dj->Prop}(I:Inv X ag σ H s)(e:Rd H a (.dK kvs))(h:∀t s',Inv X ag σ H s'->Q (.int kvs.length t) s'):dz (Pt X.prog X.w) A (call (.builtin "len") [.ref a]) Q E s:=by
 obtain⟨z,c,vs,b,d⟩:=pv I.hok e;refine call_len_dict c d (by rw[<- b.length];rw[Qa]at z;lia) ?_;rw[<- b.length];exact h _ _ (I.tok _)
end
theorem u9{X:Cx}{ag:List (dk×Obj)}{σ:St}{H:Hp}{s:dj}{a:dk}{y:V}{o:Option V}(I:Inv X ag σ H s)(g:qh H a y o):s.TypeIs (.ref a) "dict":=by
 rcases g with⟨kvs,k,e,_,_⟩|⟨kvs,k,b,e,_,_,_⟩
 ·obtain⟨_,_,vs,_,c⟩:=pv I.hok e;exact c.typeIs
 ·obtain⟨_,_,xs,_,c⟩:=rp I.hok e;exact c.typeIs
section
variable{o i e value:Expr}{pos pos' tpos:Pos}{td ty tv:TE}
end
theorem u8{P:dn}{w:dr}{H:Hp}(h:dB)(hb:Pm<h.objs.size):eQ P w H (h.push {cls:=.type "dict",data:=.dict #[]}) h.objs.size (.dK []):=
 ⟨bi _,RT.mpr (Pr (nN1 hb)),[],.nil,Heap.DictOf.new h⟩
def HK:TE:=λ_ H Q=>∀p,H p=Y->Q (.ref p) (upd H p (.dK []))
section
variable{pos:Pos}
theorem BH:PE X (.Dict [] [] pos) HK:=λag s σ H Q I h=>
 wpAny_Dict_empty ⟨.ref s.heap.objs.size,_,I.laid (a:=s.heap.objs.size) (o:=.dK []) (t':=s.toks) (λ_ _ q=>hP1 _ q) (nR1 _) (u8 s.heap I.big),O,h _ (I.hok.fresh (nR1 _))⟩
end
def rZ:List (TE×TE)->St->Hp->(List (V×V)->Hp->Prop)->Prop
 |[],_,H,Q=>Q [] H
 |(tk,tv)::r,σ,H,Q=>tk σ H λx H1=>tv σ H1 λy H2=>rZ r σ H2 λps H3=>Q ((x,y)::ps) H3
abbrev VV:List (V×V)->List (di×di)->Prop:=Paired λp q=>d3 p.1 q.1/\d3 p.2 q.2
def Mq(X:Cx)(pos:Pos)(keys:List (Option Expr))(values:List Expr)(trs:List (TE×TE)):Prop:=
 ∀(ag:List (dk×Obj)) (s:dj) (σ:St) (H:Hp) (Q:List (V×V)->Hp->Prop),Inv X ag σ H s->rZ trs σ H Q ->
  dz (Pt X.prog X.w) X.A (evalPairs (pairTrees keys values X.env pos)) (λvs s'=>∃ps H',Inv X ag σ H' s'/\VV ps vs/\Q ps H') X.xe s
theorem EQ{X:Cx}{pos:Pos}:Mq X pos [] [] []:=λag s σ H Q I h=>pairTrees_nil_walk ⟨[],H,I,.nil,h⟩
theorem Bw{X:Cx}{pos:Pos}{k v:Expr}{ks:List (Option Expr)}{vs:List Expr}{tk tv:TE}{a:List (TE×TE)}(hk:PE X k tk)(hv:PE X v tv)(hr:Mq X pos ks vs a):
  Mq X pos (Z k::ks) (v::vs) ((tk,tv)::a):=λag s σ H Q I h=>
 pairTrees_cons_walk (fh (hk ag s σ H _ I h) λu m ⟨x,H1,e,f,d⟩=>fh (hv ag m σ H1 _ e d) λq n ⟨y,H2,o,c,i⟩=>
  fh (hr ag n σ H2 _ o i) λws p ⟨ps,g,j,b,l⟩=>⟨(x,y)::ps,g,j,.cons ⟨f,c⟩ b,l⟩)
def jf(kvs more:List (Key×V)):List (Key×V):=more.foldl (λacc kv=>hR acc kv.1 kv.2) kvs
theorem KV.merge:∀{more:List (Key×V)} {rs:List (Key×di)} {kvs:List (Key×V)} {vs:List (Key×di)},KV more rs->KV kvs vs->KV (jf kvs more) (merged vs rs):=by
 intro more rs kvs vs r;unfold KV at r
 induction r generalizing kvs vs with
 |nil=>intro q;exact q
 | @cons p q ps b h t ih=>
  intro a;have e:KV (hR kvs p.1 p.2) (stored vs q.1 q.2):=by
   have:=a.put p.1 h.2;rw[<- h.1];exact this
  exact ih e
theorem kW:∀(more kvs:List (Key×V)),(jf kvs more).length<=kvs.length+more.length
 |[],kvs=>by show kvs.length<=kvs.length+0;lia
 |p::r,kvs=>by
  have h1:=kW r (hR kvs p.1 p.2);have h2:=iF kvs p.1 p.2;show(jf (hR kvs p.1 p.2) r).length<=_;rw[lC1];lia
theorem pz{P:dn}{w:dr}:∀{kvs:List (Key×V)} {ws:List (di×di)},VV (kvs.map λd=>(kV d.1,d.2)) ws -> ∃rs,Carries (fc P w) ws rs/\KV kvs rs
 |[],_,r=>by rw[aZ]at r;cases r;exact⟨[],Qd,.nil⟩
 |p::kvs,_,r=>by
  rw[mP1]at r;cases r with
  | @cons a b as bs h t=>
   obtain⟨rs,c,q⟩:=pz (P:=P) (w:=w) t;obtain⟨b1,b2⟩:=b;exact⟨(p.1,b2)::rs,⟨oZ h.1,O,c⟩,.cons ⟨O,h.2⟩ q⟩
def K1(trs:List (TE×TE)):TE:=fun σ H Q=>∀p,H p=Y->rZ trs σ (upd H p (.dK [])) λps H2=>H2 p=Z (.dK []) /\ ∃kvs:List (Key×V),ps=kvs.map (λkv=>(kV kv.1,kv.2))/\kvs.length<=15/\Q (.ref p) (upd H2 p (.dK (jf [] kvs)))
theorem E1{X:Cx}{pos:Pos}{b:List (Option Expr)}{values:List Expr}{f:List (TE×TE)}(h:Mq X pos b values f)(g:b.all (·.isSome)=M)(A:b.length=values.length)(y:b≠[])(j:b.length<=15):PE X (.Dict b values pos) (K1 f):=by
 intro ag s σ H Q I q;have p:=I.hok.fresh (nR1 s.heap.objs.size);have r:=I.laid (a:=s.heap.objs.size) (o:=.dK []) (h':=s.heap.push {cls:=.type "dict",data:=.dict #[]}) (t':=s.toks) (λ_ _ q=>hP1 _ q) (nR1 _) (u8 s.heap I.big);refine wpAny_Dict_walk (knd:=fc X.prog X.w) g A y j (fh (h ag _ σ _ _ r (q _ p)) λws C ⟨ps,H2,k,i,e,kvs,ep,lk,m⟩=>?_);subst ep;obtain⟨rs,c,rk⟩:=pz (P:=X.prog) (w:=X.w) i;obtain⟨z,l,n,x,t⟩:=u7 k.hok e;cases x;refine⟨rs,c,t,λh' d B=>⟨.ref s.heap.objs.size,_,?_,O,m⟩⟩;have u:(jf [] kvs).length<=dy:=by
  have h1:=kW kvs [];rw[bf]at h1;rw[Qa];lia
 have v:∃q,h'.get? s.heap.objs.size=Z q:=let ⟨q,_,_,hq,_⟩:=d;⟨q,hq⟩
 exact ku k (by rw[e];exact Qd) B v (wB u l (rk.merge .nil) d)
structure M2 (X:Cx)(o:Expr)(m:Str)(apos:Pos)(e f:Expr)(cpos:Pos):Prop where
 base:QI o m X.env (eval o X.env)=eval o X.env
 few:((Pu cpos (dw [e,f] X.env)).all (λx=> !x.1)&&(QJ cpos (QK [] X.env)).all (λx=>x.1.isSome)
  && decide (([e,f]:List Expr).length+([]:List Qi).length+(if([]:List Qi).isEmpty then 0 else 1)<30))=true
 line:(apos.endLine == cpos.line)=true
 trees:Pu cpos (dw [e,f] X.env)=[(false,eval e X.env),(false,eval f X.env)]
def N2(H:Hp)(a:dk):Prop:=(∃kvs,Rd H a (.dK kvs)) \/ ∃kvs,Rd H a (.dT kvs)
theorem JQ{X:Cx}{ag:List (dk×Obj)}{σ:St}{H:Hp}{s:dj}{a:dk}(I:Inv X ag σ H s)(d:N2 H a):
  s.TypeIs (.ref a) "dict"/\(∀b,Pj a = .ref b -> ∃c,s.heap.get? b=Z c/\c.dict=Y)/\(a == Pm)=J:=by
 rcases d with⟨kvs,e⟩|⟨kvs,e⟩
 ·obtain⟨_,g,vs,_,f⟩:=pv I.hok e;refine⟨f.typeIs,λb q=>?_,g⟩;cases q;obtain⟨c,_,_,h1,h2,_⟩:=f;exact⟨c,h1,h2.2.1⟩
 ·obtain⟨_,g,xs,_,f⟩:=rp I.hok e;refine⟨f.typeIs,λb q=>?_,g⟩;cases q;obtain⟨c,_,_,h1,h2,_⟩:=f;exact⟨c,h1,h2.2.1⟩
section
variable{ag:List (dk×Obj)}{σ:St}{H:Hp}{s:dj}{a:dk}{y d:V}{u r:di}{o:Option V}{A:dq}{E:di->dj->Prop}
end
section
variable{o e f:Expr}{apos cpos:Pos}{td ty tx:TE}
end
section
variable{ag:List (dk×Obj)}{σ:St}{H:Hp}{s:dj}{a:dk}{kvs:List (Key×V)}{A:dq}{E:di->dj->Prop}
end
section
variable{ag:List (dk×Obj)}{σ:St}{H:Hp}{s:dj}{a:dk}{y:V}{u:di}{A:dq}{E:di->dj->Prop}
end
end L2
namespace Mi
open PySem PySem.Spec PyProof.Rows L2
inductive TK where
 |non|int (i:Int)|tup (xs:List TK)
instance:DecidableEq TK:=λ_ _=>Classical.propDecidable _
mutual
noncomputable def TK.hash:TK->Int
 | .non=>0xFCA86420
 | .int i=>aa i
 | .tup xs=>reduceHash (QR (TK.hashes xs))
noncomputable def TK.hashes:List TK->List Int
 |[]=>[]
 |x::xs=>TK.hash x::TK.hashes xs
end
mutual
noncomputable def TK.draws:TK->Nat
 | .non=>1
 | .int _=>1
 | .tup xs=>TK.drawsAll xs+1
noncomputable def TK.drawsAll:List TK->Nat
 |[]=>0
 |x::xs=>TK.draws x+TK.drawsAll xs
end
mutual
noncomputable def TK.dep:TK->Nat
 | .non=>0
 | .int _=>0
 | .tup xs=>TK.depAll xs+1
noncomputable def TK.depAll:List TK->Nat
 |[]=>0
 |x::xs=>max (TK.dep x) (TK.depAll xs)
end
theorem TK.dep_mem:∀{xs:List TK} {x:TK},x∈xs->x.dep<=TK.depAll xs
 |y::ys,x,h=>by
  rw[TK.depAll];rcases aF.mp h with e|e
  ·rw[e];exact Nat.le_max_left _ _
  ·exact aD (TK.dep_mem e) (Nat.le_max_right _ _)
theorem TK.hashes_app:∀a b:List TK,TK.hashes (a++b)=TK.hashes a++TK.hashes b
 |[],_=>rfl
 |x::xs,b=>by rw[bj,TK.hashes,TK.hashes,TK.hashes_app xs b];rfl
theorem TK.draws_app:∀a b:List TK,TK.drawsAll (a++b)=TK.drawsAll a+TK.drawsAll b
 |[],_=>by simp[TK.drawsAll]
 |x::xs,b=>by rw[bj,TK.drawsAll,TK.drawsAll,TK.draws_app xs b,bm]
def rS(xs:Array Nat):Prop:=xs.toList.Pairwise (· < ·)
noncomputable def gp(m:Nat):Nat->Nat->Nat->List Nat
 |0,_,_=>[]
 |n+1,i,b=>bn i (QS m i-i+1)++gp m n (QT m i b).1 (QT m i b).2
def y2(m:Nat):Prop:=m=7\/m=31\/m=127
def nz(m:Nat)(h:Int):List Nat:=gp m (QU m) (QV h%(m+1)) (QV h)
def yZ(m:Nat)(occ:List Nat)(h:Int)(j:Nat):Prop:=∃pre post,nz m h=pre++j::post /\ ∀y∈pre,y∈occ
structure sTT (es:Array (Int×di))(t:QW):Prop where
 mks:y2 t.mask
 up:rS t.place
 du:t.dummies = #[]
 sz:t.place.size=es.size
 le:∀j∈t.place.toList,j<=t.mask
 fl:es.size<=t.mask
 rc:∀z∈t.place.toList.zip es.toList,yZ t.mask t.place.toList z.2.1 z.1
noncomputable def stO(es:Array (Int×di))(ep:Nat)(t:QW):Obj:={cls:=.type "set",dict:=Y,data:=.set es ep t,slots:= #[]}
def vx(a:dk)(xs:List (TK×dk×di))(h:dB):Prop:=(xs.map (·.1)).Nodup /\ ∃es ep t,h.get? a=Z (stO es ep t)/\sTT es t/\t.tooFull=J/\(∀e∈es.toList,∃z∈xs,e=(z.1.hash,.ref z.2.1))/\(∀z∈xs,(z.1.hash,Pj z.2.1)∈es.toList)/\es.size=xs.length
inductive D where
 |non|bl (b:Bool)|int (i:Int)|str (x:Str)|tup (xs:List D)|rol (xs:List D)|ref (n:Nat)|fn (x:Str)
inductive Ob where
 |lst (xs:List D)|dct (kvs:List (Key×D))|dcT (kvs:List (TK×D))|iset (xs:List Int)|dcF (kvs:List (TK×D))|tst (ks:List TK)
abbrev Sto:=List Ob
abbrev Ev:=List (Option D)
abbrev FE:=Ev->Sto->Option (D×Sto)
abbrev FT:=Ev->Sto->Option (Bool×Sto)
abbrev FA:=Ev->Sto->Option (List D×Sto)
abbrev FN:=List D->Sto->Option (D×Sto)
inductive Fl where
 |nx|rt (d:D)|bk|ct
abbrev FS:=Ev->Sto->Option (Fl×Ev×Sto)
def RoL(K:Fg1)(H:Hp)(a:dk)(xs:List V):Prop:=(∃o,H a=Z (.frz o (.lst xs))) \/
 ∃(o:Obj) (its:Array di) (n:Nat),K.lookup a=Z o/\o.cls = .type "list"/\o.dict=Y/\o.data = .seq its n/\its.size<=dy/\ed xs its.toList
theorem RoL.sq{K:Fg1}{H:Hp}{a:dk}{xs:List V}(h:RoL K H a xs):mU K H a xs:=h.elim (λ⟨o,q⟩=>.inl (.inr ⟨o,q⟩)) .inr
mutual
inductive eW (K:Fg1)(H:Hp)(mu:List dk):D->V->Prop
 |non:eW K H mu .non .non
 |bl (b:Bool):eW K H mu (.bl b) (.bl b)
 |int (i:Int):eW K H mu (.int i) (.int i)
 |str (x:Str):eW K H mu (.str x) (.str x)
 |tup {ds:List D} {vs:List V} {a:dk} (h:kA K H a vs) (r:dX K H mu ds vs):eW K H mu (.tup ds) (.ref a)
 |rol {ds:List D} {vs:List V} {a:dk} (h:RoL K H a vs) (r:dX K H mu ds vs):eW K H mu (.rol ds) (.ref a)
 |ref {n:Nat} {a:dk} (h:mu[n]?=some a):eW K H mu (.ref n) (.ref a)
 |fn {x:Str} {a:dk} (h:wN1 K dv x=some (some (.ref a))):eW K H mu (.fn x) (.ref a)
inductive dX (K:Fg1)(H:Hp)(mu:List dk):List D->List V->Prop
 |nil:dX K H mu [] []
 |cons {d:D} {v:V} {ds:List D} {vs:List V} (r:eW K H mu d v) (t:dX K H mu ds vs):dX K H mu (d::ds) (v::vs)
end
structure Ext (mu mu':List dk)(H H':Hp):Prop where
 pre:mu <+: mu'
 old:∀a o,H a=some o->a∉mu->H' a=some o
 tup:∀a xs,Rd H a (.tup xs)->Rd H' a (.tup xs)
 frz:∀a o u,H a=some (.frz o u)->H' a=some (.frz o u)
 new:∀a∈mu',a∈mu\/H a=none
theorem Ext.refl(mu:List dk)(H:Hp):Ext mu mu H H:=⟨bo,λ_ _ h _=>h,λ_ _ h=>h,λ_ _ _ h=>h,λ_ h=>.inl h⟩
theorem Ext.trans{mu m1 m2:List dk}{H H1 H2:Hp}(a:Ext mu m1 H H1)(b:Ext m1 m2 H1 H2):Ext mu m2 H H2 where
 pre:=a.pre.trans b.pre
 old:=λc o h n=>b.old c o (a.old c o h n) λz=>by
  rcases a.new c z with q|q
  ·exact n q
  ·rw[h]at q;cases q
 tup:=λc xs h=>b.tup c xs (a.tup c xs h)
 frz:=λc o u h=>b.frz c o u (a.frz c o u h)
 new:=λc h=>by
  rcases b.new c h with q|q
  ·exact a.new c q
  ·by_cases z:c∈mu
   ·exact .inl z
   ·right;cases e:H c with
    |none=>rfl
    |some o=>rw[a.old c o e z]at q;cases q
theorem Ext.at{mu mu':List dk}{H H':Hp}(e:Ext mu mu' H H'){n:Nat}{a:dk}(h:mu[n]?=Z a):mu'[n]?=Z a:=by
 obtain⟨t,rfl⟩:=e.pre;have b:n<mu.length:=(R1 h).1;rw[gL1 b];exact h
theorem Ext.back{mu mu':List dk}{H H':Hp}(e:Ext mu mu' H H'):Ext mu mu H H':=⟨bo,e.old,e.tup,e.frz,λ_ h=>.inl h⟩
structure tT (mu mu':List dk)(H H':Hp):Prop where
 pre:mu <+: mu'
 tup:∀a xs,Rd H a (.tup xs)->Rd H' a (.tup xs)
 frz:∀a o u,H a=some (.frz o u)->H' a=some (.frz o u)
theorem Ext.w{mu mu':List dk}{H H':Hp}(e:Ext mu mu' H H'):tT mu mu' H H':=⟨e.pre,e.tup,e.frz⟩
theorem tT.trans{mu m1 m2:List dk}{H H1 H2:Hp}(a:tT mu m1 H H1)(b:tT m1 m2 H1 H2):tT mu m2 H H2:=⟨a.pre.trans b.pre,λc xs h=>b.tup c xs (a.tup c xs h),λc o u h=>b.frz c o u (a.frz c o u h)⟩
theorem tT.at{mu mu':List dk}{H H':Hp}(e:tT mu mu' H H'){n:Nat}{a:dk}(h:mu[n]?=Z a):mu'[n]?=Z a:=by
 obtain⟨t,rfl⟩:=e.pre;have b:n<mu.length:=(R1 h).1;rw[gL1 b];exact h
structure Hq (mu mu':List dk)(H H':Hp):Prop where
 pre:mu <+: mu'
 tup:∀a xs,Rd H a (.tup xs)->Rd H' a (.tup xs)
 frl:∀a o xs,H a=some (.frz o (.lst xs))->H' a=some (.frz o (.lst xs))
theorem tT.v{mu mu':List dk}{H H':Hp}(e:tT mu mu' H H'):Hq mu mu' H H':=⟨e.pre,e.tup,λa o xs h=>e.frz a o _ h⟩
theorem Ext.v{mu mu':List dk}{H H':Hp}(e:Ext mu mu' H H'):Hq mu mu' H H':=e.w.v
theorem Hq.at{mu mu':List dk}{H H':Hp}(e:Hq mu mu' H H'){n:Nat}{a:dk}(h:mu[n]?=Z a):mu'[n]?=Z a:=by
 obtain⟨t,rfl⟩:=e.pre;have b:n<mu.length:=(R1 h).1;rw[gL1 b];exact h
theorem kA.exv{K:Fg1}{mu mu':List dk}{H H':Hp}{a:dk}{vs:List V}(e:Hq mu mu' H H')(h:kA K H a vs):kA K H' a vs:=by
 rcases h with h|h
 ·exact .inl (e.tup a vs h)
 ·exact .inr h
theorem RoL.exv{K:Fg1}{mu mu':List dk}{H H':Hp}{a:dk}{vs:List V}(e:Hq mu mu' H H')(h:RoL K H a vs):RoL K H' a vs:=by
 rcases h with⟨o,h⟩|h
 ·exact .inl ⟨o,e.frl a o _ h⟩
 ·exact .inr h
theorem eW.exv{K:Fg1}{mu mu':List dk}{H H':Hp}(e:Hq mu mu' H H'):∀ {d:D} {v:V},eW K H mu d v->eW K H' mu' d v:=fun h=>h.rec (motive_1:=fun d v _=>eW K H' mu' d v) (motive_2:=fun ds vs _=>dX K H' mu' ds vs)
  .non .bl .int .str (λh _ ih=>.tup (kA.exv e h) ih) (λh _ ih=>.rol (RoL.exv e h) ih) (λh=>.ref (e.at h)) (λh=>.fn h) .nil (λ_ _ a b=>.cons a b)
theorem dX.ind{K:Fg1}{mu:List dk}{H:Hp}{P:(ds:List D)->(vs:List V)->dX K H mu ds vs->Prop}(hn:P [] [] .nil)(hc:∀{d v ds vs} (r:eW K H mu d v) (t:dX K H mu ds vs),P ds vs t->P (d::ds) (v::vs) (.cons r t)){ds:List D}{vs:List V}(h:dX K H mu ds vs):P ds vs h:=
 h.rec (motive_1:=λ_ _ _=>True) (motive_2:=P) trivial (λ_=>trivial) (λ_=>trivial) (λ_=>trivial) (λ_ _ _=>trivial) (λ_ _ _=>trivial) (λ_=>trivial) (λ_=>trivial) hn (λr t _ ih=>hc r t ih)
theorem dX.exv{K:Fg1}{mu mu':List dk}{H H':Hp}(e:Hq mu mu' H H'):∀{ds:List D} {vs:List V},dX K H mu ds vs->dX K H' mu' ds vs:=λh=>h.ind (P:=λds vs _=>dX K H' mu' ds vs) .nil λr _ ih=>.cons (eW.exv e r) ih
section
variable{K:Fg1}{mu mu':List dk}{H H':Hp}{a:dk}{vs:List V}
theorem eW.exw(e:tT mu mu' H H'){d:D}{v:V}(h:eW K H mu d v):eW K H' mu' d v:=h.exv e.v
theorem dX.exw(e:tT mu mu' H H'){ds:List D}(h:dX K H mu ds vs):dX K H' mu' ds vs:=h.exv e.v
theorem eW.ext(e:Ext mu mu' H H'){d:D}{v:V}(h:eW K H mu d v):eW K H' mu' d v:=h.exv e.v
theorem dX.ext(e:Ext mu mu' H H'){ds:List D}(h:dX K H mu ds vs):dX K H' mu' ds vs:=h.exv e.v
end
section
variable{K:Fg1}{H:Hp}{mu:List dk}
theorem dX.length:∀{ds:List D} {vs:List V},dX K H mu ds vs->ds.length=vs.length:=λh=>h.ind (P:=λds vs _=>ds.length=vs.length) O λ_ _ ih=>congrArg (· + 1) ih
theorem dX.get:∀{ds:List D} {vs:List V} {i:Nat} {d:D},dX K H mu ds vs->ds[i]?=Z d -> ∃v,vs[i]?=Z v/\eW K H mu d v:=by
 intro ds vs i d h e
 induction h using dX.ind generalizing i with
 |hn=>cases e
 |hc r t ih=>cases i with
  |zero=>cases e;exact⟨_,O,r⟩
  |succ i=>exact ih (i:=i) e
theorem dX.getV:∀{ds:List D} {vs:List V} {i:Nat} {v:V},dX K H mu ds vs->vs[i]?=Z v -> ∃d,ds[i]?=Z d/\eW K H mu d v:=by
 intro ds vs i d h e
 induction h using dX.ind generalizing i with
 |hn=>cases e
 |hc r t ih=>cases i with
  |zero=>cases e;exact⟨_,O,r⟩
  |succ i=>exact ih (i:=i) e
theorem dX.append:∀{ds es:List D} {vs ws:List V},dX K H mu ds vs->dX K H mu es ws->dX K H mu (ds++es) (vs++ws):=λh s=>h.ind (P:=λds vs _=>dX K H mu (ds++_) (vs++_)) s λr _ ih=>.cons r ih
theorem dX.take:∀{ds:List D} {vs:List V} (n:Nat),dX K H mu ds vs->dX K H mu (ds.take n) (vs.take n):=by
 intro ds vs n h
 induction h using dX.ind generalizing n with
 |hn=>rw[aw,aw];exact .nil
 |hc r t ih=>cases n with
  |zero=>exact .nil
  |succ n=>exact .cons r (ih n)
theorem dX.drop:∀{ds:List D} {vs:List V} (n:Nat),dX K H mu ds vs->dX K H mu (ds.drop n) (vs.drop n):=by
 intro ds vs n h
 induction h using dX.ind generalizing n with
 |hn=>rw[ay,ay];exact .nil
 |hc r t ih=>cases n with
  |zero=>exact .cons r t
  |succ n=>exact ih n
theorem dX.set{d:D}{v:V}(r:eW K H mu d v):∀{ds:List D} {vs:List V} (i:Nat),dX K H mu ds vs->dX K H mu (ds.set i d) (vs.set i v):=by
 intro ds vs i h
 induction h using dX.ind generalizing i with
 |hn=>exact .nil
 |hc q t ih=>cases i with
  |zero=>exact .cons r t
  |succ i=>exact .cons q (ih i)
theorem dX.eraseIdx:∀{ds:List D} {vs:List V} (i:Nat),dX K H mu ds vs->dX K H mu (ds.eraseIdx i) (vs.eraseIdx i):=by
 intro ds vs i h
 induction h using dX.ind generalizing i with
 |hn=>exact .nil
 |hc q t ih=>cases i with
  |zero=>exact t
  |succ i=>exact .cons q (ih i)
theorem dX.reverse:∀{ds:List D} {vs:List V},dX K H mu ds vs->dX K H mu ds.reverse vs.reverse:=by
 intro ds vs h
 induction h using dX.ind with
 |hn=>exact .nil
 |hc r t ih=>rw[aW,aW];exact dX.append ih (.cons r .nil)
end
def KR{κ:Type}(K:Fg1)(H:Hp)(mu:List dk):List (κ×D)->List (κ×V)->Prop:=Paired λp q=>p.1=q.1/\eW K H mu p.2 q.2
mutual
noncomputable def tkD:TK->D
 | .non=>.non
 | .int i=>.int i
 | .tup xs=>.tup (jw xs)
noncomputable def jw:List TK->List D
 |[]=>[]
 |x::xs=>tkD x::jw xs
end
def j4(a:dk)(xs:List (TK×dk×di))(h:dB):Prop:=(a == Pm)=J/\(xs.map (·.1)).Nodup /\ ∃o es ep,h.get? a=Z o/\o.ExactDict/\o.data = .dict es ep/\es.toList=xs.map λx=>(⟨x.1.hash,.ref x.2.1,x.2.2⟩:DictEntry)
def Hr(a:dk)(xs:List (TK×dk×di))(o:Obj):Prop:=(a == Pm)=J/\(xs.map (·.1)).Nodup/\o.ExactDict /\ ∃es ep,o.data = .dict es ep/\es.toList=xs.map λx=>(⟨x.1.hash,.ref x.2.1,x.2.2⟩:DictEntry)
def KT(K:Fg1)(H:Hp)(mu:List dk):List (TK×D)->List (TK×dk×di)->Prop:=Paired λp q=>p.1=q.1/\p.1.dep<=8/\eW K H mu (tkD p.1) (.ref q.2.1) /\ ∃v,d3 v q.2.2/\eW K H mu p.2 v
def pR(K:Fg1)(H:Hp)(mu:List dk)(a:dk):Ob->Prop
 | .lst ds=>∃vs,H a=Z (.lst vs)/\dX K H mu ds vs
 | .dct kvs=>∃ws,H a=Z (.dK ws)/\KR K H mu kvs ws
 | .dcT kvs=>∃xs,H a=Z (.ext (j4 a xs))/\KT K H mu kvs xs/\xs.length<=dy
 | .iset xs=>H a=Z (.set (λk=>xs.contains k) xs.length)/\xs.Nodup
 | .dcF kvs=>∃xs,(∃o u,H a=Z (.frz o u)/\Hr a xs o)/\KT K H mu kvs xs/\xs.length<=dy
 | .tst ks=>∃xs,H a=Z (.ext (vx a xs))/\KT K H mu (ks.map λk=>(k,D.non)) xs
structure Sim (K:Fg1)(H:Hp)(mu:List dk)(S:Sto):Prop where
 len:mu.length=S.length
 nd:mu.Nodup
 ob:∀(n:Nat) (o:Ob) (a:dk),S[n]?=some o->mu[n]?=some a->pR K H mu a o
structure fI (K:Fg1)(H:Hp)(mu:List dk)(r:Ev)(σ:L2.St):Prop where
 len:r.length=σ.length
 val:∀(i:Nat) (d:D),r[i]?=some (some d) -> ∃v,σ[i]?=some (some v)/\eW K H mu d v
theorem fI.ext{K:Fg1}{mu mu':List dk}{H H':Hp}{r:Ev}{σ:L2.St}(e:Ext mu mu' H H')(h:fI K H mu r σ):fI K H' mu' r σ:=⟨h.len,λi d q=>by
 obtain⟨v,b,a⟩:=h.val i d q;exact⟨v,b,a.ext e⟩⟩
theorem KR.ext{κ:Type}{K:Fg1}{mu mu':List dk}{H H':Hp}{ks:List (κ×D)}{ws:List (κ×V)}(e:Ext mu mu' H H')(h:KR K H mu ks ws):KR K H' mu' ks ws:=
 Paired.mapP h λ_ _ z=>⟨z.1,z.2.ext e⟩
theorem KT.ext{K:Fg1}{mu mu':List dk}{H H':Hp}{ks:List (TK×D)}{ws:List (TK×dk×di)}(e:Ext mu mu' H H')(h:KT K H mu ks ws):KT K H' mu' ks ws:=
 Paired.mapP h λ_ _ ⟨z,d,k,v,a,r⟩=>⟨z,d,k.ext e,v,a,r.ext e⟩
theorem Sim.nil{K:Fg1}{H:Hp}:Sim K H [] []:=⟨O,bp,λn o a h=>by simp at h⟩
theorem Sim.here{K:Fg1}{H:Hp}{mu:List dk}{S:Sto}(s:Sim K H mu S){a:dk}(h:a∈mu):∃o,H a=Z o:=by
 obtain⟨n,b⟩:=bq h;have c:n<S.length:=by rw[<- s.len];exact(R1 b).1
 have q:=s.ob n _ a (gG1 c) b;cases e:S[n]with
 |lst ds=>rw[e]at q;obtain⟨vs,z,_⟩:=q;exact⟨_,z⟩
 |dct ks=>rw[e]at q;obtain⟨vs,z,_⟩:=q;exact⟨_,z⟩
 |dcT ks=>rw[e]at q;obtain⟨vs,z,_⟩:=q;exact⟨_,z⟩
 |iset xs=>rw[e]at q;exact⟨_,q.1⟩
 |dcF ks=>rw[e]at q;obtain⟨vs,⟨_,_,z,_⟩,_⟩:=q;exact⟨_,z⟩
 |tst ks=>rw[e]at q;obtain⟨vs,z,_⟩:=q;exact⟨_,z⟩
def tR(K:Fg1)(mu:List dk)(H:Hp)(d:D)(S':Sto)(Q:VK):Prop:=∀v H' mu',Ext mu mu' H H'->eW K H' mu' d v->Sim K H' mu' S'->Q v H'
inductive tM (K:Fg1)(m:FE)(σ:L2.St)(H:Hp)(Q:VK):Prop
 |mk (r:Ev) (mu:List dk) (S:Sto) (d:D) (S':Sto) (he:fI K H mu r σ) (hs:Sim K H mu S) (hm:m r S=some (d,S')) (hc:tR K mu H d S' Q)
inductive AU (K:Fg1)(m:FT)(σ:L2.St)(H:Hp)(Q:Bool->Hp->Prop):Prop
 |mk (r:Ev) (mu:List dk) (S:Sto) (b:Bool) (S':Sto) (he:fI K H mu r σ) (hs:Sim K H mu S) (hm:m r S=some (b,S')) (hc:∀H' mu',Ext mu mu' H H'->Sim K H' mu' S'->Q b H')
inductive N5 (K:Fg1)(m:FA)(σ:L2.St)(H:Hp)(Q:List V->Hp->Prop):Prop
 |mk (r:Ev) (mu:List dk) (S:Sto) (ds:List D) (S':Sto) (he:fI K H mu r σ) (hs:Sim K H mu S) (hm:m r S=some (ds,S')) (hc:∀vs H' mu',Ext mu mu' H H'->dX K H' mu' ds vs->Sim K H' mu' S'->Q vs H')
def M6(K:Fg1)(mu:List dk)(H:Hp)(r':Ev)(S':Sto)(E:ju)(f:Fl):Prop:=match f with
 | .nx=>∀ σ' H' mu',Ext mu mu' H H'->fI K H' mu' r' σ'->Sim K H' mu' S'->E.nx σ' H'
 | .bk=>∀ σ' H' mu',Ext mu mu' H H'->fI K H' mu' r' σ'->Sim K H' mu' S'->E.bk σ' H'
 | .ct=>∀ σ' H' mu',Ext mu mu' H H'->fI K H' mu' r' σ'->Sim K H' mu' S'->E.ct σ' H'
 | .rt d=>tR K mu H d S' E.rt
inductive xb (K:Fg1)(m:FS)(E:ju)(σ:L2.St)(H:Hp):Prop
 |mk (r:Ev) (mu:List dk) (S:Sto) (f:Fl) (r':Ev) (S':Sto) (he:fI K H mu r σ) (hs:Sim K H mu S) (hm:m r S=some (f,r',S')) (hc:M6 K mu H r' S' E f)
inductive rN (K:Fg1)(f:FN)(vs:List V)(H:Hp)(Q:VK):Prop
 |mk (mu:List dk) (S:Sto) (ds:List D) (d:D) (S':Sto) (hr:dX K H mu ds vs) (hs:Sim K H mu S) (hm:f ds S=some (d,S')) (hc:tR K mu H d S' Q)
abbrev ME(X:Cx)(e:Expr)(m:FE):Prop:=PE X e (tM X.K m)
abbrev MT(X:Cx)(e:Expr)(m:FT):Prop:=PT X e (AU X.K m)
abbrev MW(X:Cx)(e:Expr)(m:FT):Prop:=PW X e (AU X.K m)
abbrev MA(X:Cx)(es:List Expr)(m:FA):Prop:=PA X es (N5 X.K m)
abbrev MS(X:Cx)(st:dE)(m:FS):Prop:=PS X st (xb X.K m)
abbrev Ag(X:Cx)(st:List dE)(m:FS):Prop:=vE X st (xb X.K m)
variable{X:Cx}
section
variable{e:Expr}{es:List Expr}{st:dE}{sts:List dE}
theorem eM{t t':TE}(h:PE X e t)(i:∀ σ H Q,t' σ H Q->t σ H Q):PE X e t':=λag s σ H Q I q=>h ag s σ H Q I (i σ H Q q)
theorem vV{t t':TT}(h:PT X e t)(i:∀ σ H Q,t' σ H Q->t σ H Q):PT X e t':=λag s σ H Q I q=>h ag s σ H Q I (i σ H Q q)
theorem Bq{t t':TT}(h:PW X e t)(i:∀ σ H Q,t' σ H Q->t σ H Q):PW X e t':=λa ag s σ H Q I q=>h a ag s σ H Q I (i σ H Q q)
theorem BM{t t':TA}(h:PA X es t)(i:∀ σ H Q,t' σ H Q->t σ H Q):PA X es t':=λpos ag s σ H Q I q=>h pos ag s σ H Q I (i σ H Q q)
theorem il{t t':TS}(h:PS X st t)(i:∀E σ H,t' E σ H->t E σ H):PS X st t':=λag s σ H E I q=>h ag s σ H E I (i E σ H q)
theorem sB{t t':TS}(h:vE X sts t)(i:∀E σ H,t' E σ H->t E σ H):vE X sts t':=λag s σ H E I q=>h ag s σ H E I (i E σ H q)
end
noncomputable def mV (i:Nat):FE:=λr S=>match r[i]? with
 |some (some d)=>some (d,S)
 |_=>none
noncomputable def mC (d:D):FE:=λ_ S=>some (d,S)
section
variable{pos:Pos}
theorem Ji (i:Nat){x:Str}(hN:X.N[i]?=Z x)(hv:Vis X.env.scope x)(hd:autoParam ((x == ("__debug__":Str))=J) bu0)(hcd:autoParam ((x == ("__classdict__":Str))=J) bu0):ME X (.Name x pos) (mV i):=
 eM (Io hN hv hd hcd) <| by
  rintro σ H Q ⟨r,mu,S,d,h,c,g,a,hc⟩;unfold mV at a;split at a
  ·rename_i j e;cases a;obtain⟨v,f,b⟩:=c.val i _ e;exact⟨v,f,hc v H mu (.refl _ _) b g⟩
  ·cases a
theorem Ci{e:Expr}{v:V}(d:D)(h:PE X e (tC v))(hr:∀H mu,eW X.K H mu d v):ME X e (mC d):=
 eM h <| by
  rintro σ H Q ⟨r,mu,S,f,c,g,b,a,hc⟩;cases a;exact hc v H mu (.refl _ _) (hr H mu) b
theorem Jr{i:Int}{j}:ME X (.Constant (.int i) j pos) (mC (.int i)):=Ci _ Ix λ_ _=>.int i
theorem LF{b:Bool}{j}:ME X (.Constant (.bool b) j pos) (mC (.bl b)):=Ci _ Lo λ_ _=>.bl b
theorem Jp{j}:ME X (.Constant .none j pos) (mC .non):=Ci _ Iv λ_ _=>.non
theorem Jk{x:Str}{j}:ME X (.Constant (.str x) j pos) (mC (.str x)):=Ci _ Iq λ_ _=>.str x
end
noncomputable def dH:FA:=λ_ S=>Z ([],S)
noncomputable def dG (m:FE)(n:FA):FA:=λr S=>(m r S).bind λp=>(n r p.2).bind λq=>some (p.1::q.1,q.2)
section
variable{pos:Pos}{e:Expr}{es:List Expr}{m:FE}{n:FA}
theorem Jv:MA X [] dH:=BM lg <| by
 rintro σ H Q ⟨r,mu,S,ds,c,d,b,a,hc⟩;cases a;exact hc [] H mu (.refl _ _) .nil b
theorem FB(h:ME X e m)(ht:MA X es n)(hs:autoParam (dw (e::es) X.env=(J,eval e X.env)::dw es X.env) cu0):MA X (e::es) (dG m n):=
 BM (iD h ht hs) <| by
  rintro σ H Q ⟨r,mu,S,ds,s,g,hs,a,hc⟩;unfold dG at a;obtain⟨⟨d,i⟩,l,a⟩:=R3 a;obtain⟨⟨c,t⟩,o,a⟩:=R3 a;cases a;refine⟨r,mu,S,d,i,g,hs,l,λv H1 mu1 f k p=>?_⟩;refine⟨r,mu1,i,c,_,g.ext f,p,o,λvs H2 b j r2 q=>?_⟩;exact hc _ H2 b (f.trans j) (.cons (k.ext j) r2) q
end
noncomputable def m2 (f:FN)(a b:FE):FE:=λr S=>(a r S).bind λp=>(b r p.2).bind λq=>f [p.1,q.1] q.2
noncomputable def m1 (f:FN)(a:FE):FE:=λr S=>(a r S).bind λp=>f [p.1] p.2
noncomputable def mN (f:FN)(a:FA):FE:=λr S=>(a r S).bind λp=>f p.1 p.2
abbrev r2(K:Fg1)(f:FN):R2:=λx y H Q=>rN K f [x,y] H Q
section
variable{K:Fg1}{f:FN}{a b:FE}{σ:L2.St}{H:Hp}{Q:VK}
theorem xM(h:tM K (m2 f a b) σ H Q):KS (r2 K f) (tM K a) (tM K b) σ H Q:=by
 obtain⟨r,mu,S,d,p,l,C,c,hc⟩:=h;obtain⟨⟨j,k⟩,x,c⟩:=R3 c;obtain⟨⟨m,i⟩,y,c⟩:=R3 c;refine⟨r,mu,S,j,k,l,C,x,λv H1 mu1 n B s=>?_⟩;refine⟨r,mu1,k,m,i,l.ext n,s,y,λu H2 e o r2 t=>?_⟩;exact⟨e,i,[j,m],d,p,.cons (B.ext o) (.cons r2 .nil),t,c,λv z g w A q=>hc v z g ((n.trans o).trans w) A q⟩
theorem xK{a:FA}(h:tM K (mN f a) σ H Q):N5 K a σ H λvs H1=>rN K f vs H1 Q:=by
 obtain⟨r,mu,S,d,i,m,p,b,hc⟩:=h;obtain⟨⟨e,g⟩,o,b⟩:=R3 b;refine⟨r,mu,S,e,g,m,p,o,λv H1 mu1 t l s=>?_⟩;exact⟨mu1,g,e,d,i,l,s,b,λv k c n j q=>hc v k c (t.trans n) j q⟩
theorem LB{op:PH}{x y:Expr}{pos:Pos}(ho:gE X (P6 op) (r2 X.K f))(hx:ME X x a)(hy:ME X y b):ME X (.BinOp x op y pos) (m2 f a b):=eM (Lj ho hx hy) λ_ _ _=>xM
theorem Js{op:P8}{x y:Expr}{pos:Pos}(ho:gE X (P7 op) (r2 X.K f))(hx:ME X x a)(hy:ME X y b)(hm:P9 op y=J):ME X (.Compare x [op] [y] pos) (m2 f a b):=eM (E3 ho hx hy hm) λ_ _ _=>xM
theorem LC{x y:Expr}{pos:Pos}(ho:Ho X (r2 X.K f))(hx:ME X x a)(hy:ME X y b)(hs:n4 y):ME X (.Subscript x y pos) (m2 f a b):=eM (Ll ho hx hy hs) λ_ _ _=>xM
theorem Ch {x:Str}{p pos:Pos}{e:Expr}{es:List Expr}{id:String}{a:FA}(hc:eR X (.builtin id) (rN X.K f))(hg:Gl X x)(hm:X.mg x=none)(hv:Po x=some (.builtin id))(ha:MA X (e::es) a)(hn:autoParam (x≠"__name__") bu0)(hdb:autoParam ((x == ("__debug__":Str))=false) bu0)
  (he:autoParam (dw (e::es) X.env=(J,eval e X.env)::dw es X.env) cu0) (hpl:autoParam ((Pu pos (dw es X.env)).any (·.1)=J) cu0):ME X (.Call (.Name x p) (e::es) [] pos) (mN f a):=
 eM (lJ hc hg hm hv ha hn hdb he hpl) λ_ _ _=>xK
theorem zp {x:Str}{p pos:Pos}{e:Expr}{es:List Expr}{T:String}{a:FA}(hc:eR X (.type T) (rN X.K f))(hg:Gl X x)(hm:X.mg x=none)(hv:Po x=some (.type T))(ha:MA X (e::es) a)(hn:autoParam (x≠"__name__") bu0)(hdb:autoParam ((x == ("__debug__":Str))=false) bu0)
  (he:autoParam (dw (e::es) X.env=(J,eval e X.env)::dw es X.env) cu0) (hpl:autoParam ((Pu pos (dw es X.env)).any (·.1)=J) cu0):ME X (.Call (.Name x p) (e::es) [] pos) (mN f a):=
 eM (ke hc hg hm hv ha hn hdb he hpl) λ_ _ _=>xK
end
noncomputable def mB (m:FE):FT:=λr S=>(m r S).bind λp=>match p.1 with
 | .bl b=>some (b,p.2)
 |_=>none
theorem LH{K:Fg1}{m:FE}{σ:L2.St}{H:Hp}{Q:Bool->Hp->Prop}(h:AU K (mB m) σ H Q):tB (tM K m) σ H Q:=by
 obtain⟨r,mu,S,b,l,e,g,a,hc⟩:=h;obtain⟨⟨c,n⟩,f,a⟩:=R3 a;cases c with
 |bl k=>
  cases a;refine⟨r,mu,S,_,_,e,g,f,λv H1 mu1 j d i=>?_⟩;cases d;exact⟨_,O,hc H1 mu1 j i⟩
 |_=>cases a
noncomputable def p0(a b:FT):FT:=λr S=>(a r S).bind λp=>if p.1=M then b r p.2 else Z (J,p.2)
noncomputable def Ck(a b:FT):FT:=λr S=>(a r S).bind λp=>if p.1=M then Z (M,p.2)else b r p.2
noncomputable def nE(a:FT):FT:=λr S=>(a r S).bind λp=>Z (!p.1,p.2)
noncomputable def kU(a b:FE):FE:=λr S=>(a r S).bind λp=>match p.1 with
 | .bl c=>if c=M then b r p.2 else Z (.bl J,p.2)
 |_=>Y
noncomputable def OQ(a b:FE):FE:=λr S=>(a r S).bind λp=>match p.1 with
 | .bl c=>if c=M then Z (.bl M,p.2)else b r p.2
 |_=>Y
noncomputable def uD(a:FE):FE:=λr S=>(a r S).bind λp=>match p.1 with
 | .bl c=>Z (.bl (!c),p.2)
 |_=>Y
noncomputable def uE(c:FT)(a b:FE):FE:=λr S=>(c r S).bind λp=>if p.1=M then a r p.2 else b r p.2
section
variable{x y c:Expr}{rest:List Expr}{pos:Pos}{a b:FT}{f g:FE}
theorem IV{op:P8}{f:FN}{a b:FE}(ho:gE X (P7 op) (r2 X.K f))(hx:ME X x a)(hy:ME X y b)(hm:P9 op y=J):MT X (.Compare x [op] [y] pos) (mB (m2 f a b)):=
 vV (EL ho hx hy hm) fun σ H Q h=>by
  obtain⟨r,mu,S,d,c,g,i,hm,hc⟩:=LH h;exact xM ⟨r,mu,S,d,c,g,i,hm,λv H' mu' k e j=>hc v H' mu' k e j⟩
theorem Fk(ha:MT X x a):MW X (.BoolOp .And [x] pos) a:=EJ ha
theorem IR(ha:MT X x a):MW X (.BoolOp .Or [x] pos) a:=HY ha
theorem IS(ha:MT X x a)(hb:MW X (.BoolOp .And (y::rest) pos) b):MW X (.BoolOp .And (x::y::rest) pos) (p0 a b):=
 Bq (HZ ha hb) <| by
  rintro σ H Q ⟨r,mu,S,k,i,f,l,c,hc⟩;obtain⟨⟨b1,g⟩,j,c⟩:=R3 c;refine⟨r,mu,S,b1,g,f,l,j,λH1 mu1 e h=>?_⟩;cases b1 with
  |true=>exact⟨r,mu1,g,k,i,f.ext e,h,c,λH2 d n m=>hc H2 d (e.trans n) m⟩
  |false=>cases c;exact hc H1 mu1 e h
theorem Ly(ha:MT X x a)(hb:MW X (.BoolOp .Or (y::rest) pos) b):MW X (.BoolOp .Or (x::y::rest) pos) (Ck a b):=
 Bq (Lf ha hb) <| by
  rintro σ H Q ⟨r,mu,S,k,i,f,l,c,hc⟩;obtain⟨⟨b1,g⟩,j,c⟩:=R3 c;refine⟨r,mu,S,b1,g,f,l,j,λH1 mu1 e h=>?_⟩;cases b1 with
  |false=>exact⟨r,mu1,g,k,i,f.ext e,h,c,λH2 d n m=>hc H2 d (e.trans n) m⟩
  |true=>cases c;exact hc H1 mu1 e h
theorem Nr(h:MW X x a):MT X x a:=PW.pt h
theorem IU(ha:MT X x a):MT X (.UnaryOp .Not x pos) (nE a):=
 vV (H7 ha) <| by
  rintro σ H Q ⟨r,mu,S,k,i,c,f,b,hc⟩;obtain⟨⟨b1,e⟩,d,b⟩:=R3 b;cases b;exact⟨r,mu,S,b1,e,c,f,d,λH1 mu1 h g=>hc H1 mu1 h g⟩
theorem Jm{op}(h:ME X x f):ME X (.BoolOp op [x] pos) f:=Ir h
theorem Jt(ha:ME X x f)(hb:ME X (.BoolOp .And (y::rest) pos) g):ME X (.BoolOp .And (x::y::rest) pos) (kU f g):=
 eM (IA ha hb) <| by
  rintro σ H Q ⟨r,mu,S,k,j,e,o,a,hc⟩;obtain⟨⟨d,h⟩,n,a⟩:=R3 a;refine⟨r,mu,S,d,h,e,o,n,λv H1 mu1 c m i=>?_⟩;cases d with
  |bl b1=>
   cases m;refine⟨b1,O,?_⟩;cases b1 with
   |true=>exact⟨r,mu1,h,k,j,e.ext c,i,a,λl H2 b q r2 p=>hc l H2 b (c.trans q) r2 p⟩
   |false=>cases a;exact hc _ H1 mu1 c (.bl J) i
  |_=>cases a
theorem Jo(ha:ME X x f):ME X (.UnaryOp .Not x pos) (uD f):=
 eM (Iu ha) <| by
  rintro σ H Q ⟨r,mu,S,k,l,d,h,a,hc⟩;obtain⟨⟨b,g⟩,e,a⟩:=R3 a;refine⟨r,mu,S,b,g,d,h,e,λv H1 mu1 j c i=>?_⟩;cases b with
  |bl b1=>
   cases c;cases a;exact⟨b1,O,hc _ H1 mu1 j (.bl _) i⟩
  |_=>cases a
theorem LD(hc:MT X c a)(hx:ME X x f)(hy:ME X y g):ME X (.IfExp c x y pos) (uE a f g):=
 eM (BG hc hx hy) <| by
  rintro σ H Q ⟨r,mu,S,k,n,i,q,d,hc⟩;obtain⟨⟨b1,j⟩,p,d⟩:=R3 d;refine⟨r,mu,S,b1,j,i,q,p,λH1 mu1 e o=>?_⟩;cases b1 with
  |true=>exact⟨r,mu1,j,k,n,i.ext e,o,d,λh H2 b m r2 l=>hc h H2 b (e.trans m) r2 l⟩
  |false=>exact⟨r,mu1,j,k,n,i.ext e,o,d,λh H2 b m r2 l=>hc h H2 b (e.trans m) r2 l⟩
end
noncomputable def LG(f g:FN)(a b c:FE):FE:=λr S=>(a r S).bind λp=>(b r p.2).bind λq=>(f [p.1,q.1] q.2).bind λt=>match t.1 with
 | .bl k=>if k=M then(c r t.2).bind λz=>g [q.1,z.1] z.2 else Z (.bl J,t.2)
 |_=>Y
section
variable{x y z:Expr}{pos:Pos}{f g:FN}{a b c:FE}{op op':P8}
theorem Jw{K:Fg1}{σ:L2.St}{H:Hp}{Q:VK}(h:tM K (LG f g a b c) σ H Q):AX (r2 K f) (r2 K g) (tM K a) (tM K b) (tM K c) σ H Q:=by
 obtain⟨r,mu,S,d,C,q,X,e,hc⟩:=h;obtain⟨⟨w,x⟩,N,e⟩:=R3 e;obtain⟨⟨s,t⟩,av,e⟩:=R3 e;obtain⟨⟨A,B⟩,R,e⟩:=R3 e;refine⟨r,mu,S,w,x,q,X,N,λv1 H1 mu1 l V G=>?_⟩;refine⟨r,mu1,x,s,t,q.ext l,G,av,λv2 H2 o m r2 I=>?_⟩;refine⟨o,t,[w,s],A,B,.cons (V.ext m) (.cons r2 .nil),I,R,λwq P i j U u=>?_⟩;cases A with
 |bl k=>
  cases U;refine⟨k,O,?_⟩;cases k with
  |false=>cases e;exact hc _ P i ((l.trans m).trans j) (.bl J) u
  |true=>
   obtain⟨⟨z,y⟩,T,e⟩:=R3 e;refine⟨r,i,B,z,y,q.ext ((l.trans m).trans j),u,T,λau H4 n v F E=>?_⟩;exact⟨n,y,[s,z],d,C,.cons ((r2.ext j).ext v) (.cons F .nil),E,e,λaq L p W ao D=>hc aq L p ((((l.trans m).trans j).trans v).trans W) ao D⟩
 |_=>cases e
theorem Cf(ho:gE X (P7 op) (r2 X.K f))(ho':gE X (P7 op') (r2 X.K g))(hx:ME X x a)(hy:ME X y b)(hz:ME X z c)(hm:autoParam (lastMarks [op,op'] [y,z]=false) BI._auto_1):
  ME X (.Compare x [op,op'] [y,z] pos) (LG f g a b c):=eM (BI ho ho' hx hy hz hm) λ_ _ _=>Jw
end
mutual
noncomputable def D.und(n:Nat):D->Bool
 | .tup xs=>D.unds n xs
 | .rol xs=>D.unds n xs
 | .ref k=>decide (k<n)
 | .non=>M
 | .bl _=>M
 | .int _=>M
 | .str _=>M
 | .fn _=>M
noncomputable def D.unds(n:Nat):List D->Bool
 |[]=>M
 |d::ds=>D.und n d&&D.unds n ds
end
noncomputable def D.sames(a b:List D):Bool:=@decide (a=b) (Classical.propDecidable _)
theorem D.sames_eq{a b:List D}(h:D.sames a b=M):a=b:=@QX _ (Classical.propDecidable _) h
theorem D.sames_refl(a:List D):D.sames a a=M:=@decide_eq_true _ (Classical.propDecidable _) O
section
variable{K:Fg1}{H:Hp}{mu mu':List dk}
theorem eW.cut{n:Nat}(h:∀ k,k<n->mu[k]? = mu'[k]?):∀ {d:D} {v:V},eW K H mu d v->d.und n=true->eW K H mu' d v:=fun c=>c.rec (motive_1:=fun d v _=>d.und n=true->eW K H mu' d v) (motive_2:=fun ds vs _=>D.unds n ds=true->dX K H mu' ds vs)
  (λ_=>.non) (λb _=>.bl b) (λi _=>.int i) (λx _=>.str x) (λq _ ih e=>.tup q (ih (by rw[D.und]at e;exact e))) (λq _ ih e=>.rol q (ih (by rw[D.und]at e;exact e)))
  (λq e=>.ref (by rw[D.und]at e;rw[<- h _ (QX e)];exact q)) (λq _=>.fn q) (λ_=>.nil) (λ_ _ a b e=>by rw[D.unds,bA1]at e;exact .cons (a e.1) (b e.2))
theorem dX.cut{n:Nat}(h:∀k,k<n->mu[k]?=mu'[k]?):∀{ds:List D} {vs:List V},dX K H mu ds vs->D.unds n ds=M->dX K H mu' ds vs:=λa=>a.ind (P:=λds vs _=>D.unds n ds=M->dX K H mu' ds vs) (λ_=>.nil) λr _ b e=>by rw[D.unds,bA1]at e;exact .cons (eW.cut h r e.1) (b e.2)
end
noncomputable def Ob.und(n:Nat):Ob->Bool
 | .lst xs=>D.unds n xs
 | .dct kvs=>D.unds n (kvs.map (·.2))
 | .dcT kvs=>D.unds n (kvs.map (·.2))
 | .iset _=>M
 | .dcF kvs=>D.unds n (kvs.map (·.2))
 | .tst _=>M
theorem KR.cut{κ:Type}{K:Fg1}{H:Hp}{mu mu':List dk}{n:Nat}(h:∀k,k<n->mu[k]?=mu'[k]?):∀{ks:List (κ×D)} {ws:List (κ×V)},KR K H mu ks ws->D.unds n (ks.map (·.2))=M->KR K H mu' ks ws:=by
 intro ks ws a e
 induction a with
 |nil=>exact .nil
 |cons r t ih=>
  rw[mP1,D.unds,bA1]at e;exact .cons ⟨r.1,r.2.cut h e.1⟩ (ih e.2)
mutual
theorem AR(n:Nat):∀k:TK,(tkD k).und n=M
 | .non=>rfl
 | .int _=>rfl
 | .tup xs=>by rw[tkD,D.und];exact w9 n xs
theorem w9(n:Nat):∀ks:List TK,D.unds n (jw ks)=M
 |[]=>rfl
 |x::xs=>by rw[jw,D.unds,AR n x,w9 n xs];rfl
end
theorem KT.cut{K:Fg1}{H:Hp}{mu mu':List dk}{n:Nat}(h:∀k,k<n->mu[k]?=mu'[k]?):∀{ks:List (TK×D)} {ws:List (TK×dk×di)},KT K H mu ks ws->D.unds n (ks.map (·.2))=M->KT K H mu' ks ws:=by
 intro ks ws b e
 induction b with
 |nil=>exact .nil
 |cons r t ih=>
  rw[mP1,D.unds,bA1]at e;obtain⟨z,d,k,v,a,r⟩:=r;exact .cons ⟨z,d,k.cut h (AR n _),v,a,r.cut h e.1⟩ (ih e.2)
theorem xD(n:Nat):∀ks:List TK,D.unds n ((ks.map λk=>(k,D.non)).map (·.2))=M
 |[]=>rfl
 |_::ks=>by rw[mP1,mP1,D.unds,xD n ks];rfl
theorem pR.cut{K:Fg1}{H:Hp}{mu mu':List dk}{n:Nat}{a:dk}(h:∀k,k<n->mu[k]?=mu'[k]?):∀{o:Ob},pR K H mu a o->o.und n=M->pR K H mu' a o
 | .lst _,⟨vs,e,r⟩,b=>⟨vs,e,r.cut h b⟩
 | .dct _,⟨ws,e,r⟩,b=>⟨ws,e,KR.cut h r b⟩
 | .dcT _,⟨ws,e,r,l⟩,b=>⟨ws,e,KT.cut h r b,l⟩
 | .iset _,q,_=>q
 | .dcF _,⟨ws,e,r,l⟩,b=>⟨ws,e,KT.cut h r b,l⟩
 | .tst ks,⟨ws,e,r⟩,_=>⟨ws,e,KT.cut h r (xD n ks)⟩
def gc(n:Nat)(p:D×Sto):D×Sto:=if p.1.und n&&(p.2.take n).all (Ob.und n)then(p.1,p.2.take n)else p
mutual
noncomputable def D.sh(n:Nat):D->D
 | .tup xs=>.tup (D.shs n xs)
 | .rol xs=>.rol (D.shs n xs)
 | .ref k=>.ref (n+k)
 | .fn x=>.fn x
 | .non=>.non
 | .bl b=>.bl b
 | .int i=>.int i
 | .str x=>.str x
noncomputable def D.shs(n:Nat):List D->List D
 |[]=>[]
 |d::ds=>D.sh n d::D.shs n ds
end
def Ob.sh(n:Nat):Ob->Ob
 | .lst xs=>.lst (D.shs n xs)
 | .dct kvs=>.dct (kvs.map λp=>(p.1,p.2.sh n))
 | .dcT kvs=>.dcT (kvs.map λp=>(p.1,p.2.sh n))
 | .iset xs=>.iset xs
 | .dcF kvs=>.dcF (kvs.map λp=>(p.1,p.2.sh n))
 | .tst ks=>.tst ks
theorem eW.sh{K:Fg1}{H:Hp}{mu mu':List dk}:∀ {d:D} {v:V},eW K H mu' d v->eW K H (mu++mu') (d.sh mu.length) v:=fun c=>c.rec (motive_1:=fun d v _=>eW K H (mu++mu') (d.sh mu.length) v) (motive_2:=fun ds vs _=>dX K H (mu++mu') (D.shs mu.length ds) vs)
  .non .bl .int .str (λh _ ih=>.tup h ih) (λh _ ih=>.rol h ih) (λh=>.ref (by rw[gR1 (br _ _),Nat.add_sub_cancel_left];exact h)) (λh=>.fn h) .nil (λ_ _ a b=>.cons a b)
theorem dX.sh{K:Fg1}{H:Hp}{mu mu':List dk}:∀{ds:List D} {vs:List V},dX K H mu' ds vs->dX K H (mu++mu') (D.shs mu.length ds) vs:=λh=>h.ind (P:=λds vs _=>dX K H (mu++mu') (D.shs mu.length ds) vs) .nil λr _ ih=>.cons (eW.sh r) ih
theorem KR.sh{κ:Type}{K:Fg1}{H:Hp}{mu mu':List dk}:∀{ks:List (κ×D)} {ws:List (κ×V)},KR K H mu' ks ws->KR K H (mu++mu') (ks.map λp=>(p.1,p.2.sh mu.length)) ws:=by
 intro ks ws h
 induction h with
 |nil=>exact .nil
 |cons r t ih=>exact .cons ⟨r.1,r.2.sh⟩ ih
mutual
theorem GT(n:Nat):∀k:TK,(tkD k).sh n=tkD k
 | .non=>rfl
 | .int _=>rfl
 | .tup xs=>by rw[tkD,D.sh,AQ n xs]
theorem AQ(n:Nat):∀ks:List TK,D.shs n (jw ks)=jw ks
 |[]=>rfl
 |x::xs=>by rw[jw,D.shs,GT n x,AQ n xs]
end
theorem KT.sh{K:Fg1}{H:Hp}{mu mu':List dk}:∀{ks:List (TK×D)} {ws:List (TK×dk×di)},KT K H mu' ks ws->KT K H (mu++mu') (ks.map λp=>(p.1,p.2.sh mu.length)) ws:=by
 intro ks ws h
 induction h with
 |nil=>exact .nil
 |cons r t ih=>
  obtain⟨z,d,k,v,a,r⟩:=r;exact .cons ⟨z,d,by have:=k.sh (mu:=mu);rw[GT]at this;exact this,v,a,r.sh⟩ ih
theorem pR.sh{K:Fg1}{H:Hp}{mu mu':List dk}{a:dk}:∀{o:Ob},pR K H mu' a o->pR K H (mu++mu') a (o.sh mu.length)
 | .lst _,⟨vs,e,r⟩=>⟨vs,e,r.sh⟩
 | .dct _,⟨ws,e,r⟩=>⟨ws,e,KR.sh r⟩
 | .dcT _,⟨ws,e,r,l⟩=>⟨ws,e,KT.sh r,l⟩
 | .iset _,q=>q
 | .dcF _,⟨ws,e,r,l⟩=>⟨ws,e,KT.sh r,l⟩
 | .tst ks,⟨ws,e,r⟩=>⟨ws,e,by have:=KT.sh (mu:=mu) r;rw[bu]at this;exact this⟩
theorem eW.mor{K:Fg1}{H:Hp}{mu:List dk}(mu':List dk):∀{d:D} {v:V},eW K H mu d v->eW K H (mu++mu') d v:=λh=>h.exv ⟨bv _ _,λ_ _ h=>h,λ_ _ _ h=>h⟩
theorem dX.mor{K:Fg1}{H:Hp}{mu:List dk}(mu':List dk):∀{ds:List D} {vs:List V},dX K H mu ds vs->dX K H (mu++mu') ds vs:=λh=>h.exv ⟨bv _ _,λ_ _ h=>h,λ_ _ _ h=>h⟩
theorem KR.mor{κ:Type}{K:Fg1}{H:Hp}{mu:List dk}(mu':List dk){ks:List (κ×D)}{ws:List (κ×V)}(h:KR K H mu ks ws):KR K H (mu++mu') ks ws:=Paired.mapP h λ_ _ z=>⟨z.1,z.2.mor mu'⟩
theorem pR.mor{K:Fg1}{H:Hp}{mu:List dk}{a:dk}(mu':List dk):∀{o:Ob},pR K H mu a o->pR K H (mu++mu') a o
 | .lst _,⟨vs,e,r⟩=>⟨vs,e,r.mor mu'⟩
 | .dct _,⟨ws,e,r⟩=>⟨ws,e,KR.mor mu' r⟩
 | .dcT _,⟨ws,e,r,l⟩=>⟨ws,e,Paired.mapP r λ_ _ ⟨z,d,k,v,b,r⟩=>⟨z,d,k.mor mu',v,b,r.mor mu'⟩,l⟩
 | .iset _,q=>q
 | .dcF _,⟨ws,e,r,l⟩=>⟨ws,e,Paired.mapP r λ_ _ ⟨z,d,k,v,b,r⟩=>⟨z,d,k.mor mu',v,b,r.mor mu'⟩,l⟩
 | .tst _,⟨ws,e,r⟩=>⟨ws,e,Paired.mapP r λ_ _ ⟨z,d,k,v,b,r⟩=>⟨z,d,k.mor mu',v,b,r.mor mu'⟩⟩
def rE(f:FN):FN:=λds S=>if D.unds 0 ds=M then(f ds []).map λp=>if p.1.und 0=M then(p.1,S)else(p.1.sh S.length,S++p.2.map (Ob.sh S.length))else(f ds S).map (gc S.length)
theorem pR.keep{K:Fg1}{H H':Hp}{mu:List dk}{a:dk}(e:Ext mu mu H H')(h:∀o,H a=Z o->H' a=Z o):∀{o:Ob},pR K H mu a o->pR K H' mu a o
 | .lst _,⟨vs,q,r⟩=>⟨vs,h _ q,r.ext e⟩
 | .dct _,⟨ws,q,r⟩=>⟨ws,h _ q,KR.ext e r⟩
 | .dcT _,⟨ws,q,r,l⟩=>⟨ws,h _ q,KT.ext e r,l⟩
 | .iset _,q=>⟨h _ q.1,q.2⟩
 | .dcF _,⟨ws,⟨o,u,c,b⟩,r,l⟩=>⟨ws,⟨o,u,h _ c,b⟩,KT.ext e r,l⟩
 | .tst _,⟨ws,q,r⟩=>⟨ws,h _ q,KT.ext e r⟩
theorem vm{K:Fg1}{f:FN}{vs:List V}{H:Hp}{Q:VK}(h:rN K (rE f) vs H Q):rN K f vs H Q:=by
 obtain⟨mu,S,ds,d,aq,C,c,g,hc⟩:=h;unfold rE at g;split at g
 ·rename_i j;obtain⟨⟨w,p⟩,A,g⟩:=R4 g;refine⟨[],[],ds,w,p,C.cut (n:=0) (λk i=>absurd i (bw _)) j,.nil,A,λv H' mu' x r s=>?_⟩;have B:Ext mu mu H H':=⟨bo,λa o e _=>x.old a o e (by simp),x.tup,x.frz,λ_ z=>.inl z⟩;dsimp only at g;split at g
  ·rename_i F;cases g;refine hc v H' mu B (r.cut (n:=0) (λk i=>absurd i (bw _)) F) ⟨c.len,c.nd,λn o a h1 h2=>?_⟩;exact(c.ob n o a h1 h2).keep B λo e=>x.old a o e (by simp)
  ·cases g;have E:∀ a∈mu',H a=none:=fun a u=>(x.new a u).resolve_left (by simp);have L:Ext mu (mu++mu') H H':=⟨bv _ _,fun a o e _=>x.old a o e (by simp),x.tup,x.frz,fun a z=>by
    rcases aG.mp z with z|z
    ·exact .inl z
    ·exact .inr (E a z)⟩
   refine hc v H' (mu++mu') L (by rw[<- c.len];exact r.sh) ⟨by rw[lA1,lA1,lM1,c.len,s.len],?_,λn o a h1 h2=>?_⟩
   ·refine bx.mpr ⟨c.nd,s.nd,λa u b j z=>?_⟩;subst z;obtain⟨o,e⟩:=c.here u;rw[E a j]at e;cases e
   ·by_cases l:n<S.length
    ·rw[gL1 l]at h1;rw[gL1 (by rw[c.len];exact l)]at h2;exact((c.ob n o a h1 h2).keep B λo e=>x.old a o e (by simp)).mor mu'
    ·have m:=a0 l;rw[gR1 m]at h1;rw[gR1 (by rw[c.len];exact m)]at h2;rw[gP1]at h1;obtain⟨ao,I,G⟩:=R4 h1;subst G;have q:=s.ob (n-S.length) ao a I (by rw[c.len]at h2;exact h2);rw[<- c.len];exact q.sh
 ·obtain⟨⟨w,p⟩,A,g⟩:=R4 g;refine⟨mu,S,ds,w,p,C,c,A,λv H' mu' x r s=>?_⟩;unfold gc at g;split at g
  ·rename_i j;cases g;rw [bA1] at j;have i:∀ k,k<S.length->mu'[k]? = mu[k]?:=fun k i=>by
    obtain⟨t,rfl⟩:=x.pre;rw[gL1 (by rw[c.len];exact i)]
   refine hc v H' mu x.back (r.cut i j.1) ⟨?_,c.nd,λn o a h1 h2=>?_⟩
   ·have:=s.len;have D:=x.pre.length_le;rw[aR,<- s.len];rw[c.len]at D ⊢;exact(Nat.min_eq_left D).symm
   ·have l:n<S.length:=by rw[<- c.len];exact(R1 h2).1
    have y:p[n]?=Z o:=by rw[aT l]at h1;exact h1
    refine(s.ob n o a y ((i n l).trans h2)).cut i ?_;exact bA.mp j.2 o (gM1 h1)
  ·cases g;exact hc v H' mu' x r s
noncomputable def A3(K:Fg1)(n:Nat)(f:FN):Sp:=λvs H Q _=>vs.length=n/\rN K f vs H Q
section
variable{k n:Nat}{f:dk}{fd:dD}{ps:List Str}{x:Str}{p pos:Pos}{e:Expr}{es:List Expr}{m:FN}{a:FA}
noncomputable def dI (n:Nat)(f:FN):FN:=λds S=>if ds.length=n then rE f ds S else none
theorem Fz (F:j3 X.prog X.w X.K X.mg X.base vz k f fd ps (A3 X.K n m))(hr:fR k X.A)(hg:Gl X x)(hm:X.mg x=some (.ref f))(hk:wK1 X.K (.ref f)=true)(hb:k8 X.K fd ps [])
  (ha:MA X (e::es) a) (hdb:autoParam ((x == ("__debug__":Str))=J) bu0) (he:autoParam (dw (e::es) X.env=(J,eval e X.env)::dw es X.env) cu0) (hpl:autoParam ((Pu pos (dw es X.env)).any (·.1)=J) cu0):
  ME X (.Call (.Name x p) (e::es) [] pos) (mN (dI n m) a):=
 eM (E5 (E:=E0) F hr hg hm hk hb .nil G0 ha hdb he hpl) fun σ H Q h=>by
  obtain⟨r,mu,S,ds,g,he,s,hm,hc⟩:=xK h;refine⟨r,mu,S,ds,g,he,s,hm,λvs H' mu' w j u=>?_⟩;have q:=hc vs H' mu' w j u;show A3 X.K n m (vs++[]) H' Q E0;rw[aN];obtain⟨c,l,d,t,v,h1,h2,b,i⟩:=q;unfold dI at b;split at b
  ·rename_i o;exact⟨by rw[<- h1.length];exact o,vm ⟨c,l,d,t,v,h1,h2,b,i⟩⟩
  ·cases b
end
noncomputable def kT:FS:=λr S=>Z (.nx,r,S)
noncomputable def dP (a b:FS):FS:=λr S=>(a r S).bind λp=>match p.1 with
 | .nx=>b p.2.1 p.2.2
 |f=>some (f,p.2.1,p.2.2)
noncomputable def eg (m:FE):FS:=λr S=>(m r S).bind λp=>some (.rt p.1,r,p.2)
noncomputable def N9:FS:=λr S=>Z (.rt .non,r,S)
noncomputable def fG (m:FE):FS:=λr S=>(m r S).bind λp=>some (.nx,r,p.2)
noncomputable def fr (c:FT)(a b:FS):FS:=λr S=>(c r S).bind λp=>if p.1=true then a r p.2 else b r p.2
section
variable{pos:Pos}{e c:Expr}{st:dE}{rest as bs:List dE}{a b:FS}{m:FE}{t:FT}
theorem Fn:Ag X [] kT:=sB EN <| by
 rintro E σ H ⟨r,mu,S,f,e,d,b,c,a,hc⟩;cases a;exact hc σ H mu (.refl _ _) b c
theorem B8(h1:MS X st a)(h2:Ag X rest b):Ag X (st::rest) (dP a b):=sB (Bt h1 h2) <| by
 rintro E σ H ⟨r,mu,S,f,u,o,p,s,h,hc⟩;obtain⟨⟨l,m,n⟩,q,h⟩:=R3 h;refine⟨r,mu,S,l,m,n,p,s,q,?_⟩;cases l with
 |nx=>
  intro t H1 mu1 i k j;refine⟨m,mu1,n,f,u,o,k,j,h,?_⟩;cases f with
  |nx=>exact λe H2 c g=>hc e H2 c (i.trans g)
  |bk=>exact λe H2 c g=>hc e H2 c (i.trans g)
  |ct=>exact λe H2 c g=>hc e H2 c (i.trans g)
  |rt d=>exact λv H2 c g=>hc v H2 c (i.trans g)
 |bk=>cases h;exact hc
 |ct=>cases h;exact hc
 |rt d=>cases h;exact hc
theorem Fm(h1:MS X st a):Ag X [st] a:=EM h1
theorem Fo(h:ME X e m)(hs:autoParam (PC e Y pos.line X.env=pure J) cu0):MS X (.Expr e pos) (fG m):=il (EO h hs) <| by
 rintro E σ H ⟨r,mu,S,f,l,i,b,hs,a,hc⟩;obtain⟨⟨d,k⟩,c,a⟩:=R3 a;cases a;exact⟨r,mu,S,d,_,b,hs,c,λv H' mu' x j g=>hc σ H' mu' x (b.ext x) g⟩
theorem IX(h:ME X e m):MS X (.Return (Z e) pos) (eg m):=il (Ia h) <| by
 rintro E σ H ⟨r,mu,S,f,k,i,b,g,a,hc⟩;obtain⟨⟨d,j⟩,c,a⟩:=R3 a;cases a;exact⟨r,mu,S,d,_,b,g,c,hc⟩
theorem Lz(hc:MT X c t)(ha:Ag X as a)(hb:Ag X bs b):MS X (.If c as bs pos) (fr t a b):=il (Lh hc ha hb) <| by
 rintro E σ H ⟨r,mu,S,f,p,m,n,s,i,hc⟩;obtain⟨⟨k,l⟩,q,i⟩:=R3 i;refine⟨r,mu,S,k,l,n,s,q,λH1 mu1 j u=>?_⟩;have o:∀c:FS,c r l=Z (f,p,m)->xb X.K c E σ H1:=λc i=>by
  refine⟨r,mu1,l,f,p,m,n.ext j,u,i,?_⟩;cases f with
  |nx=>exact λg H2 e h=>hc g H2 e (j.trans h)
  |bk=>exact λg H2 e h=>hc g H2 e (j.trans h)
  |ct=>exact λg H2 e h=>hc g H2 e (j.trans h)
  |rt d=>exact λv H2 e h=>hc v H2 e (j.trans h)
 cases k with
 |true=>exact o a i
 |false=>exact o b i
end
abbrev FG:=D->Ev->Sto->Option (Ev×Sto)
abbrev DW:=List D->Ev->Sto->Option (Ev×Sto)
inductive HJ (K:Fg1)(g:FG)(v:V)(σ:L2.St)(H:Hp)(Q:L2.St->Hp->Prop):Prop
 |mk (r:Ev) (mu:List dk) (S:Sto) (d:D) (r':Ev) (S':Sto) (he:fI K H mu r σ) (hs:Sim K H mu S) (hr:eW K H mu d v) (hm:g d r S=some (r',S')) (hc:∀ σ' H' mu',Ext mu mu' H H'->fI K H' mu' r' σ'->Sim K H' mu' S'->Q σ' H')
inductive M7 (K:Fg1)(g:DW)(vs:List V)(σ:L2.St)(H:Hp)(Q:L2.St->Hp->Prop):Prop
 |mk (r:Ev) (mu:List dk) (S:Sto) (ds:List D) (r':Ev) (S':Sto) (he:fI K H mu r σ) (hs:Sim K H mu S) (hr:dX K H mu ds vs) (hm:g ds r S=some (r',S')) (hc:∀ σ' H' mu',Ext mu mu' H H'->fI K H' mu' r' σ'->Sim K H' mu' S'->Q σ' H')
abbrev MG(X:Cx)(e:Expr)(g:FG):Prop:=PG X e (HJ X.K g)
abbrev Ms(X:Cx)(es:List Expr)(g:DW):Prop:=Kv X es (M7 X.K g)
noncomputable def gN (i:Nat):FG:=λd r S=>some (r.set i (some d),S)
noncomputable def gNl:DW:=λds r S=>match ds with
 |[]=>Z (r,S)
 |_=>Y
noncomputable def gCs (g:FG)(gs:DW):DW:=λds r S=>match ds with
 |d::ds=>(g d r S).bind λp=>gs ds p.1 p.2
 |[]=>none
noncomputable def gT (n:Nat)(gs:DW):FG:=λd r S=>match d with
 | .tup ds=>if ds.length=n then gs ds r S else none
 |_=>none
theorem fI.set{K:Fg1}{H:Hp}{mu:List dk}{r:Ev}{σ:L2.St}{i:Nat}{d:D}{v:V}(h:fI K H mu r σ)(q:eW K H mu d v):fI K H mu (r.set i (Z d)) (σ.set i (Z v)):=by
 refine⟨by rw[aV,aV];exact h.len,λj c e=>?_⟩;by_cases a:i=j
 ·subst a;have b:i<r.length:=by
   have:=(R1 e).1
   rwa [aV]at this
  rw[aJ b]at e;cases e;exact⟨v,aJ (by rw[<- h.len];exact b),q⟩
 ·rw[gS1 a]at e;obtain⟨k,g,f⟩:=h.val j c e;exact⟨k,by rw[gS1 a];exact g,f⟩
section
variable{pos:Pos}
theorem vY{e:Expr}{t t':TG}(h:PG X e t)(i:∀v σ H Q,t' v σ H Q->t v σ H Q):PG X e t':=λag s σ H v u Q I r q=>h ag s σ H v u Q I r (i v σ H Q q)
theorem xw{e:List Expr}{t t':Hn}(h:Kv X e t)(i:∀v σ H Q,t' v σ H Q->t v σ H Q):Kv X e t':=λag s σ H v u Q I r q=>h ag s σ H v u Q I r (i v σ H Q q)
theorem Fx(i:Nat){x:Str}(hN:X.N.Nodup)(hi:X.N[i]?=Z x)(hx:vy X.env.scope x)(hf:autoParam (X.fn x=M\/X.env.scope.names.lookup x=Z .local) au0):MG X (.Name x pos) (gN i):=
 vY (xy hN hi hx hf) <| by
  rintro v σ H Q ⟨r,mu,S,d,g,f,c,e,a,b,hc⟩;cases b;exact hc _ H mu (.refl _ _) (c.set a) e
theorem Fw:Ms X [] gNl:=xw EY <| by
 rintro vs σ H Q ⟨r,mu,S,ds,f,e,c,d,b,a,hc⟩;unfold gNl at a;split at a
 ·cases a;cases b;exact⟨O,hc σ H mu (.refl _ _) c d⟩
 ·cases a
theorem Cb{e:Expr}{es:List Expr}{g:FG}{j:DW}(h1:MG X e g)(h2:Ms X es j)(hs:autoParam ((PF (e::es) X.env).map (·.2)=PD e X.env::(PF es X.env).map (·.2)) cu0):Ms X (e::es) (gCs g j):=
 xw (BD h1 h2 hs) <| by
  rintro vs σ H Q ⟨r,mu,S,ds,s,k,m,hs,l,a,hc⟩;unfold gCs at a;split at a
  ·obtain⟨⟨f,h⟩,o,a⟩:=R3 a;cases l with
   |cons q t=>
    exact⟨_,_,O,r,mu,S,_,f,h,m,hs,q,o,λp H1 mu1 i d n=>⟨f,mu1,h,_,s,k,d,n,t.ext i,a,λb H2 c u=>hc b H2 c (i.trans u)⟩⟩
  ·cases a
theorem Jc{es:List Expr}{k:Nat}{b:DW}{n:Nat}(hc:X.calm=M)(h:Ms X es b)(hn:autoParam ((PF es X.env).length=n) cu0)(hst:autoParam ((PF es X.env).findIdx? (·.1)=Y) cu0):MG X (.Tuple es k pos) (gT n b):=
 vY (Il hc h hn hst) <| by
  rintro v σ H Q ⟨r,mu,S,d,j,c,f,i,e,a,hc⟩;cases d with
  |tup ds=>
   rw[gT]at a;split at a
   ·rename_i g;cases e with
    |tup q t=>exact⟨_,_,O,q,by rw[<- t.length];exact g,r,mu,S,ds,j,c,f,i,t,a,hc⟩
   ·cases a
  |_=>cases a
inductive rU (K:Fg1)(f:FN)(o i v:V)(H:Hp)(Q:Hp->Prop):Prop
 |mk (mu:List dk) (S:Sto) (ds:List D) (d:D) (S':Sto) (hr:dX K H mu ds [o,i,v]) (hs:Sim K H mu S) (hm:f ds S=some (d,S')) (hc:∀H' mu',Ext mu mu' H H'->Sim K H' mu' S'->Q H')
noncomputable def gS(f:FN)(a b:FE):FG:=λd r S=>(a r S).bind λp=>(b r p.2).bind λq=>(f [p.1,q.1,d] q.2).bind λt=>Z (r,t.2)
theorem Jd{o i:Expr}{a b:FE}{f:FN}(ho:ME X o a)(hi:ME X i b)(hs:wO X (rU X.K f))(ha:autoParam (∀v,PD (.Subscript o i pos) X.env v=(do
   let ov<-PJ [v] (eval o X.env)
   let iv<-PJ [v,ov] (eval i X.env)
   PK pos
   PJ [v,ov,iv] (setItem ov iv v)
   release [v,ov,iv] [])) du0):MG X (.Subscript o i pos) (gS f a b):=
 vY (Im ho hi hs ha) <| by
  rintro v σ H Q ⟨r,mu,S,d,F,D,k,hs,s,c,hc⟩;obtain⟨⟨m,n⟩,y,c⟩:=R3 c;obtain⟨⟨q,l⟩,z,c⟩:=R3 c;obtain⟨⟨x,I⟩,B,c⟩:=R3 c;cases c;refine⟨r,mu,S,m,n,k,hs,y,λG H1 mu1 e C u=>?_⟩;refine⟨r,mu1,n,q,l,k.ext e,u,z,λE H2 h g r2 w=>?_⟩;exact⟨h,l,[m,q,d],x,_,.cons (C.ext g) (.cons r2 (.cons ((s.ext e).ext g) .nil)),w,B,λA j p t=>hc σ A j ((e.trans g).trans p) (((k.ext e).ext g).ext p) t⟩
noncomputable def dS (m:FE)(g:FG):FS:=λr S=>(m r S).bind λp=>(g p.1 r p.2).bind λq=>some (.nx,q.1,q.2)
theorem sP{K:Fg1}{m:FE}{g:FG}{E:ju}{σ:L2.St}{H:Hp}(h:xb K (dS m g) E σ H):AY (tM K m) (HJ K g) E σ H:=by
 obtain⟨r,mu,S,f,u,s,e,o,a,hc⟩:=h;obtain⟨⟨d,i⟩,l,a⟩:=R3 a;obtain⟨⟨r2,t⟩,n,a⟩:=R3 a;cases a;refine⟨r,mu,S,d,i,e,o,l,λv H1 mu1 j k p=>?_⟩;exact⟨r,mu1,i,d,_,_,e.ext j,p,k,n,λb H2 c q=>hc b H2 c (j.trans q)⟩
theorem I0{tg e:Expr}{m:FE}{g:FG}(he:ME X e m)(hg:MG X tg g)(hs:autoParam (PP [tg] e pos.line X.env=pure J) cu0)(hw:autoParam (PQ [tg] e X.env=pure Y) cu0)(h1:autoParam ((PF [tg] X.env).map (·.2)=[PD tg X.env]) cu0):MS X (.Assign [tg] e pos) (dS m g):=il (Ih he hg hs hw h1) λ_ _ _=>sP
theorem IW(i:Nat){x:Str}{e:Expr}{m:FE}{pos':Pos}(hN:X.N.Nodup)(hi:X.N[i]? = some x)(hx:vy X.env.scope x)(he:ME X e m)(hs:autoParam (PC e (some (.Name x pos')) pos.line X.env=pure false) cu0)(hf:autoParam (X.fn x=true\/X.env.scope.names.lookup x=some .local) au0):
  MS X (.Assign [.Name x pos'] e pos) (dS m (gN i)):=il (H9 hN hi hx he hs hf) λE σ H h=>by
 obtain⟨r,mu,S,d,b,h1,h2,c,j⟩:=sP h;refine⟨r,mu,S,d,b,h1,h2,c,λv H' mu' q n p=>?_⟩;obtain⟨r2,a,t,u,s,w,g,k,o,f,l⟩:=j v H' mu' q n p;cases f;exact l _ H' a (.refl _ _) (g.set o) k
noncomputable def FF(i:Nat)(f:FN)(m:FE):FS:=λr S=>match r[i]? with
 |some (Z d)=>(m r S).bind λp=>(f [d,p.1] p.2).bind λq=>Z (.nx,r.set i (Z q.1),q.2)
 |_=>Y
theorem IZ(i:Nat){x:Str}{e:Expr}{m:FE}{op:PH}{f:FN}{pos':Pos}(hN:X.N.Nodup)(hi:X.N[i]? = some x)(hx:vy X.env.scope x)(he:ME X e m)(ho:MQ X op (r2 X.K f))(hf:autoParam (X.fn x=true\/X.env.scope.names.lookup x=some .local) au0):
  MS X (.AugAssign (.Name x pos') op e pos) (FF i f m):=il (Ig hN hi hx he ho hf) <| by
 rintro E σ H ⟨r,mu,S,F,C,z,he,y,a,hc⟩;unfold FF at a;split at a
 ·rename_i d e;obtain⟨⟨g,h⟩,p,a⟩:=R3 a;obtain⟨⟨s,A⟩,q,a⟩:=R3 a;cases a;obtain⟨v,n,o⟩:=he.val i d e;refine⟨v,n,r,mu,S,g,h,he,y,p,λD H1 mu1 c w l=>?_⟩;exact⟨mu1,h,[d,g],s,_,.cons (o.ext c) (.cons w .nil),l,q,λB t b j u k=>hc _ t b (c.trans j) (((he.ext c).ext j).set u) k⟩
 ·cases a
end
noncomputable def ql (c:FT)(b:FS):Nat->FS
 |0=>λ_ _=>none
 | n+1=>fun r S=>(c r S).bind fun p=>if p.1=true then (b r p.2).bind fun q=>match q.1 with
   | .nx=>ql c b n q.2.1 q.2.2
   | .ct=>ql c b n q.2.1 q.2.2
   | .bk=>some (.nx,q.2.1,q.2.2)
   | .rt d=>some (.rt d,q.2.1,q.2.2)
  else some (.nx,r,p.2)
theorem Hu{K:Fg1}{c:FT}{b:FS}{n:Nat}{E:ju}{σ:L2.St}{H:Hp}(h:xb K (ql c b n) E σ H):AS (AU K c) (xb K b) E σ H:=by
 refine⟨λm a H'=>xb K (ql c b m) E a H',⟨n,h⟩,λm t H1 q=>?_⟩;obtain⟨r,mu,S,f,C,w,u,I,i,hc⟩:=q;cases m with
 |zero=>cases i
 |succ m=>
  obtain⟨⟨k,B⟩,F,i⟩:=R3 i;refine⟨r,mu,S,k,B,u,I,F,λH2 e o A=>?_⟩;cases k with
  |false=>
   cases i;exact hc t H2 e o (u.ext o) A
  |true=>
   obtain⟨⟨z,p,s⟩,G,i⟩:=R3 i;have D:∀{a H' mu'},Ext e mu' H2 H'->fI K H' mu' p a->Sim K H' mu' s->ql c b m p s=Z (f,C,w)->xb K (ql c b m) E a H':=λ{a H' mu'} x g l i=>by
    refine⟨p,mu',s,f,C,w,g,l,i,?_⟩;cases f with
    |nx=>exact λj H2 e y=>hc j H2 e ((o.trans x).trans y)
    |bk=>exact λj H2 e y=>hc j H2 e ((o.trans x).trans y)
    |ct=>exact λj H2 e y=>hc j H2 e ((o.trans x).trans y)
    |rt d=>exact λv H2 e y=>hc v H2 e ((o.trans x).trans y)
   refine⟨λa H'=>xb K (ql c b m) E a H',λa H' q=>⟨m,bB _,q⟩,r,e,B,z,p,s,u.ext o,A,G,?_⟩;cases z with
   |nx=>exact λa H' mu' x g l=>D x g l i
   |ct=>exact λa H' mu' x g l=>D x g l i
   |bk=>cases i;exact λa H' mu' x g l=>hc a H' mu' (o.trans x) g l
   |rt d=>cases i;exact λv H' mu' x p l=>hc v H' mu' (o.trans x) p l
theorem B9{X:Cx}{pos:Pos}(n:Nat){c:Expr}{a:List dE}{t:FT}{b:FS}(hp:PV (Pt X.prog X.w) X.A X.env X.xe)(hc:MT X c t)(hb:Ag X a b):MS X (.While c a [] pos) (ql t b n):=
 il (Bu hp hc hb) λ_ _ _=>Hu
structure Ah where
 items:List D
 chk:List (Nat×List D)
noncomputable def pP (S:Sto):List (Nat×List D)->Bool
 |[]=>true
 | (n,xs)::c=>(match S[n]? with
   |some (.lst ys)=>D.sames ys xs
   |_=>false)&&pP S c
def N1(K:Fg1)(j:It)(ao:Ah)(mu:List dk)(H:Hp):Prop:=∀i H1 mu1 S1,tT mu mu1 H H1->Sim K H1 mu1 S1->pP S1 ao.chk=M ->
 (∀d,ao.items[i]?=Z d->j.go i H1 /\ ∀x H2,j.yld i H1 x H2->Ext mu1 mu1 H1 H2/\Sim K H2 mu1 S1/\eW K H2 mu1 d x)/\(ao.items.length<=i->j.stop i H1)
abbrev FI:=Ev->Sto->Option (Ah×Sto)
inductive KX (K:Fg1)(m:FI)(σ:L2.St)(H:Hp)(R:It->Hp->Prop):Prop
 |mk (r:Ev) (mu:List dk) (S:Sto) (ao:Ah) (S':Sto) (he:fI K H mu r σ) (hs:Sim K H mu S) (hm:m r S=some (ao,S')) (hc:∀j H' mu',Ext mu mu' H H'->N1 K j ao mu' H'->Sim K H' mu' S'->R j H')
abbrev MI(X:Cx)(tg iter:Expr)(m:FI):Prop:=PI X tg iter (KX X.K m)
theorem oF{X:Cx}{tg e:Expr}{t t':TI}(h:PI X tg e t)(i:∀ σ H R,t' σ H R->t σ H R):PI X tg e t':=λag s σ H R I q=>h ag s σ H R I (i σ H R q)
theorem Li{X:Cx}{tg e:Expr}{t t':TI}(h:PI X tg e t)(h':PI X tg e t'):PI X tg e (fun σ H R=>t σ H R\/t' σ H R):=λag s σ H R I q=>q.elim (h ag s σ H R I) (h' ag s σ H R I)
noncomputable def jo (c:List (Nat×List D))(g:FG)(b:FS):List D->FS
 |[]=>λr S=>if pP S c=true then some (.nx,r,S)else none
 | d::ds=>fun r S=>if pP S c=true then (g d r S).bind fun p=>(b p.1 p.2).bind fun q=>match q.1 with
   | .nx=>jo c g b ds q.2.1 q.2.2
   | .ct=>jo c g b ds q.2.1 q.2.2
   | .bk=>some (.nx,q.2.1,q.2.2)
   | .rt v=>some (.rt v,q.2.1,q.2.2)
  else none
noncomputable def fE (m:FI)(g:FG)(b:FS):FS:=λr S=>(m r S).bind λp=>jo p.1.chk g b p.1.items r p.2
theorem nk{α:Type}{l:List α}{i:Nat}{d:α}{ds:List α}(h:l.drop i=d::ds):l[i]?=Z d/\l.drop (i+1)=ds:=by
 have h1:l[i]?=Z d:=by
  have:=congrArg (·[0]?) h;simpa using this
 refine⟨h1,?_⟩;rw[<- List.drop_drop,h];rfl
inductive NY (K:Fg1)(mu1:List dk)(H1:Hp)(c:List (Nat×List D))(g:FG)(b:FS)(f:Fl)(r':Ev)(S':Sto)(L:List D)(σ':L2.St)(H':Hp):Prop
 |mk (r2:Ev) (mu2:List dk) (S2:Sto):Ext mu1 mu2 H1 H'->fI K H' mu2 r2 σ'->Sim K H' mu2 S2->jo c g b L r2 S2=some (f,r',S')->NY K mu1 H1 c g b f r' S' L σ' H'
theorem FD{K:Fg1}{m:FI}{g:FG}{b:FS}{E:ju}{σ:L2.St}{H:Hp}(h:xb K (fE m g b) E σ H):KY (KX K m) (HJ K g) (xb K b) E σ H:=by
 obtain⟨r,mu,S,f,Q,aq,R,hs,G,hc⟩:=h;obtain⟨⟨ao,P⟩,e1,G⟩:=R3 G;refine⟨r,mu,S,ao,P,R,hs,e1,λj H1 mu1 A av s1=>?_⟩;refine⟨λi k w H'=>k=(ao.items.drop i).length/\NY K mu1 H1 ao.chk g b f Q aq (ao.items.drop i) w H',⟨_,O,r,mu1,P,.refl _ _,R.ext A,s1,G⟩,?_⟩;rintro i k C H2 ⟨rfl,r2,l,X,o,s,F,a⟩;cases hl:ao.items.drop i with
 |nil=>
  left;rw[hl]at a;rw[jo]at a;dsimp only at a;split at a
  ·rename_i ok;cases a;refine⟨(av i H2 l _ o.w F ok).2 (List.drop_eq_nil_iff.mp hl),?_⟩;exact hc C H2 l (A.trans o) s F
  ·cases a
 |cons d ds=>
  right;rw[hl]at a;obtain⟨hi,N⟩:=nk hl;rw[jo]at a;dsimp only at a;split at a
  ·rename_i ok;obtain⟨⟨U,T⟩,e3,a⟩:=R3 a;obtain⟨⟨V,D,I⟩,e4,a⟩:=R3 a;obtain⟨go,W⟩:=(av i H2 l _ o.w F ok).1 d hi;refine⟨go,NY K mu1 H1 ao.chk g b f Q aq ds,?_,λx H3 y=>?_⟩
   ·intro w H' h5;exact⟨ds.length,bB _,(congrArg List.length N).symm,N.symm ▸ h5⟩
   ·obtain⟨u,s3,wq⟩:=W x H3 y;refine⟨r2,l,X,d,U,T,s.ext u,s3,wq,e3,fun σ4 H4 B z L au=>?_⟩;refine⟨U,B,T,V,D,I,L,au,e4,?_⟩;cases V with
    |nx=>exact λp t c q e n=>⟨D,c,I,(o.trans u).trans (z.trans q),e,n,a⟩
    |ct=>exact λp t c q e n=>⟨D,c,I,(o.trans u).trans (z.trans q),e,n,a⟩
    |bk=>cases a;exact λp t c q e n=>hc p t c ((A.trans o).trans (u.trans (z.trans q))) e n
    |rt v=>cases a;exact λv5 t c q r5 n=>hc v5 t c ((A.trans o).trans (u.trans (z.trans q))) r5 n
  ·cases a
theorem IY{X:Cx}{pos:Pos}{tg iter:Expr}{a:List dE}{m:FI}{g:FG}{b:FS}(hp:PV (Pt X.prog X.w) X.A X.env X.xe)(hc:X.calm=M)(hi:MI X tg iter m)(hg:MG X tg g)(hb:Ag X a b)(hs:autoParam (∀x,P5 iter X.env x=pure x) du0):MS X (.For tg iter a [] pos) (fE m g b):=il (Ie hp hc hi hg hb hs) λ_ _ _=>FD
noncomputable def hB(n:Nat)(ds:List D):Ev:=ds.map Z++aP (n-ds.length) Y
noncomputable def gM (n:Nat)(b:FS):FN:=λds S=>(b (hB n ds) S).bind λp=>match p.1 with
 | .rt d=>some (d,p.2.2)
 | .nx=>some (.non,p.2.2)
 |_=>none
theorem yT{K:Fg1}{H:Hp}{mu:List dk}{ds:List D}{vs:List V}(N:List Str)(h:dX K H mu ds vs):fI K H mu (hB N.length ds) (L2.jy N vs):=by
 refine⟨?_,λi d e=>?_⟩
 ·unfold hB L2.jy;rw[lA1,lA1,lM1,lM1,lR1,lR1,h.length]
 ·unfold hB at e;unfold L2.jy;by_cases hi:i<ds.length
  ·rw[gL1 (by rw[lM1];exact hi),gP1]at e;obtain⟨f,c,b⟩:=R4 e;cases b;obtain⟨v,a,r⟩:=h.get c;refine⟨v,?_,r⟩;rw[gL1 (by rw[lM1,<- h.length];exact hi),gP1,a];rfl
  ·rw[gR1 (by rw[lM1];lia)]at e;have:=gM1 e;rw[bC]at this;cases this.2
theorem LW{P:dn}{w:dr}{K:Fg1}{mg:Str->Option di}{base:dB}{x c:Str}{st:dE}{f:dk}{fd:dD}{N ps:List Str}{k:Nat}{b:FS}(F:An K x c st f fd)(S:gR N ps (d5 st))(i:∀(e:di) (A:dq) (a:List Env) (s:dj) (H:Hp) (E:XK),fR k (A.deeper (Qk c (d5 st) s.heap.objs.size f e)) ->
   Ag (nL vz P w K mg base N c (d5 st) f e A a s H E).nox (fz st) b):j3 P w K mg base vz (k+1) f fd ps (A3 K ps.length (gM N.length b)):=by
 refine An.ok F S (λvs H Q E h=>h.1) λe A a s H vs Q E n j=>⟨_,i e A a s H E n,?_⟩;obtain⟨_,mu,St,ds,d,t,h1,h2,g,m⟩:=j;unfold gM at g;obtain⟨⟨l,r,o⟩,p,g⟩:=R3 g;refine⟨_,mu,St,l,r,o,yT N h1,h2,p,?_⟩;cases l with
 |nx=>cases g;exact λq H' mu' x u s=>m .non H' mu' x .non s
 |rt d=>cases g;exact m
 |bk=>cases g
 |ct=>cases g
noncomputable def jS(cells:List (Str×dk)):List (Str×Qj)->List (Str×dk)->Option (List (Str×dk))
 |[],acc=>Z acc
 |(n,k)::r,acc=>if k == .free then(cells.lookup n).bind λc=>jS cells r ((n,c)::acc)else jS cells r acc
theorem wE{env:Env}(f:Str×Qj->List (Str×dk)->Sem (ForInStep (List (Str×dk))))(hf:∀n k d,f (n,k) d=if k == .free then(do let c<-cellOf env n;pure (.yield ((n,c)::d)))else pure (.yield d)):
  ∀(a:List (Str×Qj)) (acc b:List (Str×dk)),jS env.cells a acc=Z b->forIn a acc f=(pure b:Sem (List (Str×dk)))
 |[],acc,b,h=>by cases h;rfl
 |(n,k)::r,acc,b,h=>by
  rw[List.forIn_cons,hf];unfold jS at h;split at h
  ·rename_i g;rw[ak g];obtain⟨c,e,h⟩:=R3 h;have:cellOf env n=pure c:=by unfold cellOf;rw[e]
   rw[this,pure_bind,pure_bind];exact wE f hf r _ b h
  ·rename_i g;rw[aj g,pure_bind];exact wE f hf r _ b h
theorem Df{scope:dF}{env:Env}{cl:List (Str×dk)}(h:jS env.cells scope.names []=Z cl):closureFor scope env=pure cl:=by
 simp only[closureFor];rw[wE (env:=env) _ (λn k a=>by cases hk:k == NameKind.free<;>simp[hk]) scope.names [] cl h];rfl
theorem wD{a:List (Str×dk)}:∀{b:List (Str×Qj)} {acc d:List (Str×dk)},jS a b acc=Z d->(∀x c,acc.lookup x=Z c->a.lookup x=Z c) -> ∀x c,d.lookup x=Z c->a.lookup x=Z c
 |[],acc,d,h,ha=>by cases h;exact ha
 |(n,k)::r,acc,d,h,ha=>by
  unfold jS at h;split at h
  ·obtain⟨c,e,h⟩:=R3 h;refine wD h λx g q=>?_;rw[bD]at q;split at q
   ·rename_i f;cases q;rw[RO.mp f];exact e
   ·exact ha x g q
  ·exact wD h ha
theorem nX{b:List (Str×dk)}{x:Str}:∀{a:List (Str×Qj)} {acc d:List (Str×dk)},jS b a acc=Z d->(a.lookup x=Z .free\/(acc.lookup x).isSome=M)->(d.lookup x).isSome=M
 |[],acc,d,h,ha=>by
  cases h;rcases ha with q|q
  ·cases q
  ·exact q
 |(n,k)::r,acc,d,h,ha=>by
  unfold jS at h;split at h
  ·obtain⟨c,e,h⟩:=R3 h;refine nX h ?_;rcases ha with q|q
   ·rw[bD]at q;split at q
    ·rename_i g;right;rw[bD,g];rfl
    ·exact .inl q
   ·right;rw[bD];split
    ·rfl
    ·exact q
  ·rename_i f;refine nX h ?_;rcases ha with q|q
   ·rw[bD]at q;split at q
    ·cases q;exact absurd O f
    ·exact .inl q
   ·exact .inr q
theorem gQ{x:Str}{c:dk}:∀{a:List (Str×Qj)} {n:Nat} {acc:List (Str×dk)},(Ql n a acc).lookup x=Z c->(n<=c/\(x,c)∈Ql n a [])\/acc.lookup x=Z c
 |[],_,_,h=>.inr h
 |(y,k)::r,n,acc,h=>by
  unfold Ql at h ⊢;split at h
  ·rename_i b;rw [if_pos b];have app:∀ (a:List (Str×Qj)) (m:Nat) (acc:List (Str×dk)),Ql m a acc=Ql m a []++acc:=by
    intro a
    induction a with
    |nil=>intro m acc;rfl
    |cons p r ih=>
     obtain⟨z,q⟩:=p;intro m acc;unfold Ql;split
     ·rw[ih _ ((z,m)::acc),ih _ [(z,m)],bE];rfl
     ·exact ih m acc
   rcases gQ h with⟨h1,h2⟩|h1
   ·refine .inl ⟨by lia,?_⟩;rw[app];exact aH _ h2
   ·rw[bD]at h1;split at h1
    ·rename_i d;cases h1;refine .inl ⟨nR1 _,?_⟩;rw[app,RO.mp d];exact mA1 _ mS1
    ·exact .inr h1
  ·rename_i b;rw[aj b];exact gQ h
theorem qa{x:Str}{c:dk}{n:Nat}{acc:List (Str×dk)}{a:List (Str×Qj)}(hx:a.lookup x=Z .cell)(h:(Ql n a acc).lookup x=Z c):n<=c:=by
 have app:∀(a:List (Str×Qj)) (m:Nat) (acc:List (Str×dk)),Ql m a acc=Ql m a []++acc:=by
  intro a
  induction a with
  |nil=>intro m acc;rfl
  |cons p r ih=>
   obtain⟨z,q⟩:=p;intro m acc;unfold Ql;split
   ·rw[ih _ ((z,m)::acc),ih _ [(z,m)],bE];rfl
   ·exact ih m acc
 rw[app,List.lookup_append]at h;have q:=Qm a n [] (.inl hx);obtain⟨b,e⟩:=aQ.mp q;rw[e]at h;cases h;rcases gQ e with⟨h1,_⟩|h1
 ·exact h1
 ·cases h1
theorem kS {aq:Model}{A:dq}{E:di->dj->Prop}{s:dj}{scope:dF}{globals:dk}{c:List (Str×dk)}{qual:Str}{func:Option dk}{code:di}{env:Env}{b:dk}{Q:Env->dj->Prop}
  (d:Q {scope,locals:=s.heap.objs.size,globals,cells:=Ql (s.heap.objs.size+1) scope.names c,qual,func,code:=env.code,frame:=env.frame,builtins:=env.builtins}
   {s with heap:=pushCells (s.heap.push {cls:=.type "dict",data:=.dict #[]}) scope.names}):
  dz aq A (newFunctionEnv scope globals c [] qual func code (Z env) b) Q E s:=by
 simp only[newFunctionEnv,Option.isSome_some,Qv];refine wB1 (wpAny_alloc ?_);refine wB1 (wpAny_layCells _ (λname a cells=>by cases hkc:a == QY<;>simp[hkc]) _ _ _ _ ?_);rw[show({s with heap:=s.heap.push {cls:=.type "dict",data:=.dict #[]}}:dj).heap.objs.size=s.heap.objs.size+1 from hZ1 ..];refine wB1 ?_;rw[List.forIn_nil];exact wP1 (wP1 d)
noncomputable def cxC(X:Cx)(scope:dF)(cl:List (Str×dk))(T:List Str)(keep:List Nat)(s:dj)(H:Hp)(fp:List dk):Cx where
 prog:=X.prog
 w:=X.w
 K:=X.K
 mg:=X.mg
 base:=X.base
 A:=X.A
 N:=T++keep.map λi=>X.N.getD i (Qz "")
 s₀:=s
 H₀:=H
 env:=compEnvC scope (Ql (s.heap.objs.size+1) scope.names cl) s.heap.objs.size X.env
 outer:=X.stack
 stack:=X.stack
 ex:=fp
 fn:=λx=>scope.names.lookup x == Z .cell
 calm:=X.calm
 pn:=[]
 xe:=λ_ _=>False
noncomputable def sX(k:Nat)(keep:List Nat)(σ:L2.St):L2.St:=aP k Y++keep.map λi=>(σ[i]?).join
theorem jM{env:Env}{x:Str}:∀ {a:List (Str×Qj)},
  (a.map λ(n,k)=>if(k == NameKind.free&&env.scope.kind == .function&&env.kindOf n == Z .cell)then(n,QY)else(n,k)).lookup x =
   (a.lookup x).map λk=>if(k == NameKind.free&&env.scope.kind == .function&&env.kindOf x == Z .cell)then QY else k
 |[]=>rfl
 |(n,k)::r=>by
  show List.lookup x ((if(k == NameKind.free&&env.scope.kind == .function&&env.kindOf n == Z .cell)=M then(n,QY)else(n,k))::_)=_;cases hx:x == n with
  |true=>
   have e:=RO.mp hx;subst e;by_cases hc:(k == NameKind.free&&env.scope.kind == .function&&env.kindOf x == Z .cell)=M
   ·rw[ak hc,bD,hx,bD,hx];simp only[oP1,ak hc]
   ·rw[aj hc,bD,hx,bD,hx];simp only[oP1,aj hc]
  |false=>
   have ih:=@jM env x r;by_cases hc:(k == NameKind.free&&env.scope.kind == .function&&env.kindOf n == Z .cell)=M
   ·rw[ak hc,bD,hx,bD,hx];exact ih
   ·rw[aj hc,bD,hx,bD,hx];exact ih
structure KH (X:Cx)(scope:dF)(T:List Str)(keep:List Nat):Prop where
 kind:scope.kind = .function
 names:∀x∈scope.names,x.2 = .local->scope.names.lookup x.1=some .local
 free:∀i∈keep,∃x,X.N[i]?=some x/\scope.names.lookup x=some .free/\(X.env.kindOf x=some .cell\/X.env.kindOf x=some .free)/\(x,QY)∉scope.names
theorem uP{X:Cx}{ag:List (dk×Obj)}{σ:L2.St}{H:Hp}{s:dj}{scope:dF}{t:List (Str×dk)}{T:List Str}{keep:List Nat}{fp:List dk}(I:Inv X ag σ H s)(C:KH X scope T keep)(B:jS X.env.cells scope.names []=some t)(hf:∀b∈fp,kF X ag H b)(L:∀b∈fp,∃o,s.heap.get? b=some o):
  Inv (cxC X scope t T keep s H fp) [] (sX T.length keep σ) H {s with heap:=pushCells (s.heap.push {cls:=.type "dict",data:=.dict #[]}) scope.names}:=by
 have kept:∀b o,s.heap.get? b=Z o->(pushCells (s.heap.push {cls:=.type "dict",data:=.dict #[]}) scope.names).get? b=Z o:=λb o e=>QZ _ _ b o (hP1 _ e);have A:=cellsFrom_ok scope.names (s.heap.push {cls:=.type "dict",data:=.dict #[]}) (s.heap.objs.size+1) [] ⟨λ_ _ R=>(nomatch R),List.Pairwise.nil⟩ (by rw[hZ1];exact nR1 _);rw[hZ1]at A;have F:=wD B (λx c q=>by cases q)
 -- a cell of the block: its own or an elder one
 have d:∀x c,(Ql (s.heap.objs.size+1) scope.names t).lookup x=Z c->(s.heap.objs.size+1<=c/\(x,c)∈Ql (s.heap.objs.size+1) scope.names [])\/X.env.cells.lookup x=Z c:=λx c h=>by
  rcases gQ h with h1|h1
  ·exact .inl h1
  ·exact .inr (F x c h1)
 have g:∀x c,X.env.cells.lookup x=Z c->c<s.heap.objs.size:=λx c e=>by
  obtain⟨v,z⟩:=I.cell x c e;exact z.lt
 have w:∀b∈fp,b<s.heap.objs.size:=λb l=>by
  obtain⟨o,e⟩:=L b l;exact hL1 e
 have fst:∀b∈fp,b∉frs X.stack:=λb l z=>by
  rcases aF.mp (I.stkSub b z)with q|q
  ·exact(hf b l).2.1 q
  ·exact(hf b l).2.2.1 q
 have kindOf:∀x,(cxC X scope t T keep s H fp).env.kindOf x=(scope.names.lookup x).map λk=>if(k == NameKind.free&&X.env.scope.kind == .function&&X.env.kindOf x == Z .cell)then QY else k:=λx=>jM
 refine⟨⟨I.ok.mod,C.kind,I.ok.glob,I.ok.blt,nR1 _,λx y c h1 h2=>?_,λx D=>?_,λx c h1 h2=>?_,I.ok.hd,I.ok.frames,.inl O,λb l=>⟨nN1 (w b l),λx c h z=>?_⟩,λb o e=>I.bs b o e,aD I.ok.bsz I.sz,λb o e l=>?_,fst,I.stack,I.stkFree⟩,
  rfl,I.bare,Un.kept kept,⟨λ_=>Y,(Heap.Ns.new s.heap (.type "dict")).keeps (QZ _ _),λi x v h1 h2 h3=>?_⟩,λx c h=>?_,I.hok.fresh (nR1 _),λx c h=>?_,λp S=>absurd (show p∈([]:List (dk×Obj))from S) (by simp),I.hok.kept kept,?_⟩
 ·rcases d x c h1 with⟨a1,a2⟩|a1<;>rcases d y c h2 with⟨b1,b2⟩|b1
  ·exact name_of_addr A.apart a2 b2
  ·exact absurd (bF (bG a1) (g y c b1)) (aA _)
  ·exact absurd (bF (bG b1) (g x c a1)) (aA _)
  ·exact I.ok.inj x y c a1 b1
 ·have G:scope.names.lookup x=some .cell\/scope.names.lookup x=some .free:=by
   rw[kindOf x]at D;cases e:scope.names.lookup x with
   |none=>rw[e]at D;rcases D with z|z<;>cases z
   |some k=>
    rw[e]at D;simp only[oP1]at D;cases k<;>simp_all
  have:((Ql (s.heap.objs.size+1) scope.names t).lookup x).isSome=M:=by
   rcases G with z|z
   ·exact Qm _ _ _ (.inl z)
   ·exact Qm _ _ _ (.inr (nX B (.inl z)))
  exact aQ.mp this
 ·have f:scope.names.lookup x=Z .cell:=by simpa[cxC]using h1
  have:=qa f h2;exact aD (aX _) this
 ·subst z;rcases d x c h with⟨a1,_⟩|a1
  ·exact absurd (bF (bG a1) (w c l)) (aA _)
  ·exact(hf c l).2.2.2.2.1 x c a1 O
 ·rcases(hf b l).2.2.2.1 with z|z
  ·exact I.ok.noex b o e z
  ·exact absurd (nL1 (hL1 e) (aD I.ok.bsz z)) (aA _)
 ·-- a name of the block that has a value:one of the outer text's
  have hi:T.length<=i:=by
   refine a0 λhi=>?_;unfold sX at h2;rw[gL1 (by rw[lR1];exact hi),aS]at h2;split at h2<;>cases h2
  unfold sX at h2;rw[gR1 (by rw[lR1];exact hi),lR1,gP1]at h2;obtain⟨j,aq,h2⟩:=R4 h2;have f:X.N.getD j (Qz "")=x:=by
   have f:(T++keep.map λi=>X.N.getD i (Qz ""))[i]?=Z x:=h1;rw[gR1 hi,gP1,aq]at f;exact Option.some.inj f
  obtain⟨y,P,av,ky,ny⟩:=C.free j (gM1 aq);have E:y=x:=by rw[<- f,bH,P];rfl
  subst E;have K:σ[j]?=Z (Z v):=by
   cases e:σ[j]? with
   |none=>rw[e]at h2;cases h2
   |some o=>rw[e]at h2;cases h2;rfl
  obtain⟨m,hn,wq⟩:=I.loc;obtain⟨u,W,au⟩:=wq j y v P K (by
   rcases ky with z|z
   ·exact .inr (.inl z)
   ·exact .inr (.inr z))
  refine⟨u,W,?_⟩;rcases au with⟨z,_⟩|⟨_,c,V,zc⟩
  ·rcases ky with q|q<;>(rw[z]at q;cases q)
  ·right;refine⟨?_,c,?_,zc.keeps kept⟩
   ·rw[kindOf,av];simp only[oP1];split
    ·exact .inl O
    ·exact .inr O
   ·obtain⟨c',U⟩:=aQ.mp (Qm scope.names (s.heap.objs.size+1) t (.inr (nX B (.inl av))):((Ql (s.heap.objs.size+1) scope.names t).lookup y).isSome=M);have N:(Ql (s.heap.objs.size+1) scope.names t).lookup y=Z c':=U;rcases d y c' N with⟨a1,a2⟩|a1
    ·-- an own cell of that name:its kind would be cell
     exfalso;have:∀(names:List (Str×Qj)) (n:Nat),(y,c')∈Ql n names []->(y,QY)∈names:=by
      have app:∀(names:List (Str×Qj)) (m:Nat) (acc:List (Str×dk)),Ql m names acc=Ql m names []++acc:=by
       intro names
       induction names with
       |nil=>intro m acc;rfl
       |cons p r ih=>
        obtain⟨z,q⟩:=p;intro m acc;unfold Ql;split
        ·rw[ih _ ((z,m)::acc),ih _ [(z,m)],bE];rfl
        ·exact ih m acc
      intro names
      induction names with
      |nil=>intro n h;cases h
      |cons p r ih=>
       obtain⟨z,q⟩:=p;intro n h;unfold Ql at h;split at h
       ·rename_i Q;rw[app]at h;rcases aG.mp h with h|h
        ·exact mC1 _ (ih _ h)
        ·have:(y,c')=(z,n):=by simpa using h
         cases this;have ao:q=QY:=by simpa using Q
         subst ao;exact mS1
       ·exact mC1 _ (ih _ h)
     exact ny (this _ _ a2)
    ·rw[V]at a1;cases a1;exact N
 ·rcases d x c h with⟨a1,a2⟩|a1
  ·exact⟨_,(A.empty x c a2).1⟩
  ·obtain⟨v,z⟩:=I.cell x c a1;exact⟨v,z.keeps kept⟩
 ·rcases d x c h with⟨a1,a2⟩|a1
  ·exact I.hok.fresh (bG a1)
  ·exact I.freeC x c a1
 ·show(sX T.length keep σ).length=(T++keep.map λi=>X.N.getD i (Qz "")).length;unfold sX;rw[lA1,lA1,lR1,lM1,lM1]
noncomputable def ly(p:Pos)(tg:Expr)(ifs:List Expr)(it:di)(env:Env)(emit:Sem Unit)(c:Code):Sem PySem.Fin:=do
 PK p
 match<-PY it with
 |none=>pure (.done .next)
 |some v=>
  PZ tg it v
  PD tg env v
  let mut ok:=M
  for c in ifs do
   if ok then ok<-isTrue c env (eval c env)
  if ok then emit
  again c
noncomputable def pu(elt:Expr)(acc:di)(env:Env):Sem Unit:=do let _<-call (.builtin "list.append") [acc,<- eval elt env]
noncomputable def ro(e:Expr)(iter:Expr)(acc:di)(env:Env):Sem Unit:=do
 let x<-eval iter env
 PK iter.pos
 let x<-P5 iter env x
 let _<-runOwn (.compStart e 1 (<- PJ [x] (P0 x)) acc env) env
theorem AL(elt tg iter:Expr)(ifs:List Expr)(scope:dF)(pos:Pos)(it acc:di)(env:Env):
  Q0 (.ListComp elt [⟨tg,iter,ifs,0⟩] scope pos) 0 it acc env=ly iter.pos tg ifs it env (pu elt acc env) (.compLoop (.ListComp elt [⟨tg,iter,ifs,0⟩] scope pos) 0 it acc env):=by rfl
noncomputable def GS(p:Pos)(tg:Expr)(ifs:List Expr)(it:di)(env:Env)(e iter:Expr)(acc:di)(c:Code):Sem PySem.Fin:=do
 PK p
 match<-PY it with
 |none=>pure (.done .next)
 |some v=>
  PZ tg it v
  PD tg env v
  let mut ok:=M
  for c in ifs do
   if ok then ok<-isTrue c env (eval c env)
  if ok then
   let x<-eval iter env
   PK iter.pos
   let x<-P5 iter env x
   let _<-runOwn (.compStart e 1 (<- PJ [x] (P0 x)) acc env) env
  again c
theorem Em(p:Pos)(tg:Expr)(ifs:List Expr)(it:di)(env:Env)(e iter:Expr)(acc:di)(c:Code):GS p tg ifs it env e iter acc c=ly p tg ifs it env (ro e iter acc env) c:=by
 unfold GS ly ro;simp only[bind_assoc,pure_bind]
theorem Hz(elt tg iter tg2 iter2:Expr)(ifs ifs2:List Expr)(scope:dF)(pos:Pos)(it acc:di)(env:Env):
  Q0 (.ListComp elt [⟨tg,iter,ifs,0⟩,⟨tg2,iter2,ifs2,0⟩] scope pos) 0 it acc env =
   ly iter.pos tg ifs it env (ro (.ListComp elt [⟨tg,iter,ifs,0⟩,⟨tg2,iter2,ifs2,0⟩] scope pos) iter2 acc env) (.compLoop (.ListComp elt [⟨tg,iter,ifs,0⟩,⟨tg2,iter2,ifs2,0⟩] scope pos) 0 it acc env):=by
 rw[<- Em];rfl
theorem Hy(elt tg iter tg2 iter2:Expr)(ifs ifs2:List Expr)(scope:dF)(pos:Pos)(it acc:di)(env:Env):
  Q0 (.ListComp elt [⟨tg,iter,ifs,0⟩,⟨tg2,iter2,ifs2,0⟩] scope pos) 1 it acc env =
   ly iter2.pos tg2 ifs2 it env (pu elt acc env) (.compLoop (.ListComp elt [⟨tg,iter,ifs,0⟩,⟨tg2,iter2,ifs2,0⟩] scope pos) 1 it acc env):=by rfl
def pO(X:Cx)(ifs:List Expr)(t:TT):Prop:=
 ∀(ag:List (dk×Obj)) (s:dj) (σ:L2.St) (H:Hp) (Q:Bool->Hp->Prop),Inv X ag σ H s->t σ H Q ->
  dz (Pt X.prog X.w) X.A (forIn ifs M λc r=>if r=M then do let ok<-isTrue c X.env (eval c X.env);pure (ForInStep.yield ok)else pure (ForInStep.yield r)) (TP X ag σ Q) X.xe s
theorem Bz{X:Cx}:pO X [] (fun σ H Q=>Q M H):=λag s σ H Q I h=>wpAny_tests_nil ⟨H,I,h⟩
theorem By{X:Cx}{c:Expr}{t:TT}(h:PT X c t):pO X [c] t:=λag s σ H Q I q=>wpAny_tests_one (h ag s σ H Q I q)
def PU(X:Cx)(m:Sem Unit)(t:TS):Prop:=
 ∀(ag:List (dk×Obj)) (s:dj) (σ:L2.St) (H:Hp) (E:ju),Inv X ag σ H s->t E σ H->dz (Pt X.prog X.w) X.A m (λ_ s'=>∃ σ' H',Inv X ag σ' H' s'/\E.nx σ' H') X.xe s
theorem mT{X:Cx}(hx:X.xe=fun _ _=>False)(hc:X.calm=true){elt:Expr}{c:List Comprehension}{scope:dF}{pos p:Pos}{d:Nat}{tg:Expr}{ifs:List Expr}{acc:di}{emit:Sem Unit}{ao:It}{fp:List dk}{it:dk}{L:Nat->dB->Prop}{g:TG}{au:TT}{tb:TS}(eq:Q0 (.ListComp elt c scope pos) d (.ref it) acc X.env=ly p tg ifs (.ref it) X.env emit (.compLoop (.ListComp elt c scope pos) d (.ref it) acc X.env))(T:wN X.prog X.w X.K tg ao fp it L)(hg:PG X tg g)(hi:pO X ifs au)(he:PU X emit tb){ag:List (dk×Obj)}{s:dj}{σ:L2.St}{H:Hp}{D:ju}(I:Inv X ag σ H s)(st:L 0 s.heap)(wq:∀b∈fp,kF X ag H b)(h:∃W:Nat->Nat->L2.St->Hp->Prop,(∃m,W 0 m σ H) /\ ∀i m σ H,W i m σ H ->
   (ao.stop i H/\D.nx σ H)\/(ao.go i H /\ ∃N:L2.St->Hp->Prop,(∀a H',N a H' -> ∃aq,aq<m/\W (i+1) aq a H') /\ ∀x H',ao.yld i H x H'->g x σ H' λt H2=>au t H2 λb y=>if b=M then tb {D with nx:=N} t y else N t y)):
  dA (Pt X.prog X.w) X.A (.compLoop (.ListComp elt c scope pos) d (.ref it) acc X.env) (λr s'=>match r with | .ok _=>∃a H',Inv X ag a H' s'/\D.nx a H' | .error _=>False) s:=by
 obtain⟨W,⟨m0,w0⟩,C⟩:=h;have f:∀{H':Hp},(∀b∈fp,H' b=Y) -> ∀b∈fp,kF X ag H' b:=λhn b l=>⟨hn b l,(wq b l).2⟩;refine codeAny_loop O (λn s'=>∃i a H',Inv X ag a H' s'/\L i s'.heap/\(∀b∈fp,H' b=Y)/\W i n a H') ?_ m0 ⟨0,σ,H,I,st,λb l=>(wq b l).1,w0⟩;rintro n P ⟨i,j,y,I3,K,G,w3⟩;show dz _ _ ((Q0 (.ListComp elt c scope pos) d (.ref it) acc X.env).onRaise (λx=>do noteFrame x X.env;theTreesLotGoes x)) _ _ P;refine wpAny_noted ?_;rw[eq];have no:∀{α:Type} {m:Sem α} {Q:α->dj->Prop} {s:dj} {E:di->dj->Prop},dz (Pt X.prog X.w) X.A m Q X.xe s->dz (Pt X.prog X.w) X.A m Q E s:=λh=>by
  rw[hx]at h;exact Pv h (λ_ _ q=>q) λ_ _ q=>q.elim
 unfold ly;refine wB1 (PN (wB1 ?_));rcases C i n j y w3 with⟨F,qn⟩|⟨go,N,hN,step⟩
 ·refine no (fh (T.done X O O O hc i ag P j y X.xe I3 (f G) K F) λr s4 ⟨av,I4⟩=>?_);subst av;exact wP1 ⟨j,y,I4,qn⟩
 ·refine no (fh (T.item X rfl rfl rfl hc i ag P j y X.xe I3 (f G) K go) fun r s4 ⟨u,av,h4⟩=>?_);subst av;refine wB1 (no (fh h4 fun _ U ⟨x,V,I5,r5,y5,v,S⟩=>?_));have R:=I5.pinned (f S) (T.obj _ _ v);refine wB1 (no (fh (hg _ U j V x u _ R r5 (step x V y5)) fun _ s6 ⟨B,H6,I6,q6⟩=>?_));refine wB1 (no (fh (hi _ s6 B H6 _ I6 q6) fun ok z ⟨w,A,q7⟩=>?_));have again':∀ {k:L2.St} {w:Hp} {z:dj},Inv X (ag++oE fp U.heap) k w z->N k w -> ∃ m,m<n /\ ∃ i a H',Inv X ag a H' z/\L i z.heap/\(∀ b∈fp,H' b=none)/\W i m a H':=fun {k w z} A n7=>by
   obtain⟨aq,hm,w7⟩:=hN k w n7;refine⟨aq,hm,i+1,k,w,A.unpinned,T.keep _ _ _ v λb l o e=>(A.pin (b,o) (mA1 _ (mA1 _ (jg l e)))).1,λb l=>?_,w7⟩;obtain⟨o,e,d⟩:=T.obj _ _ v b l;exact(A.pin (b,o) (mA1 _ (mA1 _ (jg l e)))).2.1
  cases ok with
  |false=>exact wP1 ⟨O,again' A q7⟩
  |true=>exact wB1 (no (fh (he _ z B w _ A q7) λ_ s8 ⟨σ8,H8,I8,q8⟩=>wP1 ⟨O,again' I8 q8⟩))
def tY(p:dk)(te:TE):TS:=λD σ H=>te σ H λx H1=>∃xs,H1 p=Z (.lst xs)/\xs.length<dy/\D.nx σ (upd H1 p (.lst (xs++[x])))
theorem sA{X:Cx}{elt:Expr}{te:TE}(h:PE X elt te)(p:dk):PU X (pu elt (.ref p) X.env) (tY p te):=by
 intro ag s σ H E I q;unfold pu;refine wB1 (fh (h ag s σ H _ I q) λu g ⟨x,H1,b,d,xs,f,e,a⟩=>?_);refine wB1 (fh (qB ag g σ H1 (.ref p) [x] (.ref p) [u] (λ_ H'=>E.nx σ H') b O (.cons d .nil) ⟨p,xs,x,O,O,f,e,a⟩) λ_ j ⟨_,H2,i,_,c⟩=>?_);exact wP1 ⟨σ,H2,i,c⟩
noncomputable def AV(ao:It)(g:TG)(ti:TT)(tb:TS):TS:=λD σ H=>∃W:Nat->Nat->L2.St->Hp->Prop,(∃m,W 0 m σ H) /\ ∀i m σ H,W i m σ H ->
 (ao.stop i H/\D.nx σ H)\/(ao.go i H /\ ∃N:L2.St->Hp->Prop,(∀ σ' H',N σ' H' -> ∃m',m'<m/\W (i+1) m' σ' H') /\ ∀x H',ao.yld i H x H'->g x σ H' fun σ2 H2=>ti σ2 H2 λb H3=>if b=M then tb {D with nx:=N} σ2 H3 else N σ2 H3)
def AT(wi:TI)(g:TG)(ti:TT)(tb:TS):TS:=λD σ H=>wi σ H λao H1=>AV ao g ti tb D σ H1
theorem vd{prog:dn}{w:dr}{A:dq}{R:Qf->dj->Prop}{s:dj}{elt tg iter tg2 iter2:Expr}{ifs ifs2:List Expr}{scope:dF}{pos:Pos}{it acc:di}{env:Env}(b:dA (Pt prog w) A (.compLoop (.ListComp elt [⟨tg,iter,ifs,0⟩,⟨tg2,iter2,ifs2,0⟩] scope pos) 1 it acc env) R s)(h:dz (Pt prog w) A (P0 it) (fun a s'=>dA (Pt prog w) A (.compLoop (.ListComp elt [⟨tg,iter,ifs,0⟩,⟨tg2,iter2,ifs2,0⟩] scope pos) 1 a acc env) R s')
   (notedBy (Pt prog w) A env λx s'=>R (.error x) s') s):
  dA (Pt prog w) A (.compStart (.ListComp elt [⟨tg,iter,ifs,0⟩,⟨tg2,iter2,ifs2,0⟩] scope pos) 1 it acc env) R s:=by
 refine Q1 ?_;show dz _ _ ((compStart (.ListComp elt [⟨tg,iter,ifs,0⟩,⟨tg2,iter2,ifs2,0⟩] scope pos) 1 it acc env).onRaise (λx=>do noteFrame x env;PK theWindowsPlace)) _ _ s;refine wpAny_notedAt ?_;unfold compStart;show dz _ _ (ask >>= _) _ _ s;refine wB1 (Q2 (wpAny_ite ?_));split
 ·first
   |exact wB1 (wP1 (wP1 (And.intro rfl b)))
   |exact wP1 (And.intro rfl b)
 ·first
   |exact wB1 (PR (wB1 (PN (wB1 (Pv h (λa s' h'=>wP1 (And.intro O h')) λ_ _ x=>x)))))
   |(refine wB1 (PR ?_);show dz _ _ (PK iter2.pos >>= _) _ _ s;exact wB1 (PN (wB1 (Pv h (λa s' h'=>wP1 (And.intro O h')) λ_ _ x=>x))))
theorem EK{X:Cx}(hx:X.xe=fun _ _=>False)(hc:X.calm=true){elt tg iter tg2 iter2:Expr}{ifs ifs2:List Expr}{scope:dF}{pos:Pos}{acc:di}{i:TI}{g:TG}{j:TT}{tb:TS}(hi:PI X tg2 iter2 i)(hg:PG X tg2 g)(hf:pO X ifs2 j)(he:PU X (pu elt acc X.env) tb)(hs:autoParam (∀x,P5 iter2 X.env x=pure x) du0):
  PU X (ro (.ListComp elt [⟨tg,iter,ifs,0⟩,⟨tg2,iter2,ifs2,0⟩] scope pos) iter2 acc X.env) (AT i g j tb):=by
 intro ag s σ H E I q;unfold ro;refine wB1 (fh (hi ag s σ H _ I q) λv w h1=>?_);refine wB1 (PN (wB1 (Q3 (hs v) (wB1 (PM (fh h1 λp m h2=>?_))))));obtain⟨it,fp,u,ao,H2,rfl,t,T,b,o,k⟩:=h2;have a:=mT hx hc (Hy elt tg iter tg2 iter2 ifs ifs2 scope pos (.ref it) acc X.env) T hg hf he t b o k;refine wB1 (wpAny_runOwn (h:=Y) ?_);refine Qg (vd a (T.self X.A 0 m _ _ b a)) λr s' d=>?_;cases r with
 |error e=>exact d.elim
 |ok f=>
  obtain⟨c,H',n,l⟩:=d;exact wP1 ⟨c,H',n,l⟩
theorem Un.sameBut{fs ex:List dk}{H H':Hp}{h h1 h2:dB}{c:dk}(u:Un fs ex H H' h h1)(hs:Ps c h1 h2)(hc:h.get? c=Y):Un fs ex H H' h h2:=by
 have ne:∀{b o},h.get? b=Z o->b≠c:=λe z=>by rw[z,hc]at e;cases e
 refine⟨λb o e n d a=>(hs.2 b (ne e)).trans (u.keep b o e n d a),λb o e n d a=>?_,u.free,λb o e a=>?_,u.tups,u.frzs,u.tbls⟩
 ·obtain⟨f,q⟩:=u.slot b o e n d a;exact⟨f,(hs.2 b (ne e)).trans q⟩
 ·obtain⟨o',q⟩:=u.there b o e a;exact⟨o',(hs.2 b (ne e)).trans q⟩
def AW(k:Nat)(keep:List Nat)(wi:TI)(g:TG)(ti:TT)(tb:dk->TS):TE:=fun σ H Q=>wi σ H λao H1=>∀p,H1 p=Y ->
 AV ao g ti (tb p) {nx:=λ_ H'=>Q (.ref p) H',rt:=λ_ _=>False} (sX k keep σ) (upd H1 p (.lst []))
theorem E2{X:Cx}(hc:X.calm=true){elt tg iter:Expr}{ifs:List Expr}{rest:List Comprehension}{scope:dF}{pos:Pos}{T:List Str}{keep:List Nat}{j:List (Str×dk)}{E:TI}{g:TG}{K:TT}{tb:dk->TS}{emit:di->Env->Sem Unit}(eq:∀it k d,Q0 (.ListComp elt (⟨tg,iter,ifs,0⟩::rest) scope pos) 0 it k d=ly iter.pos tg ifs it d (emit k d) (.compLoop (.ListComp elt (⟨tg,iter,ifs,0⟩::rest) scope pos) 0 it k d))(C:KH X scope T keep)(w:jS X.env.cells scope.names []=some j)(hi:PI X tg iter E)(hb:∀s H fp p,PG (cxC X scope j T keep s H fp) tg g/\pO (cxC X scope j T keep s H fp) ifs K/\PU (cxC X scope j T keep s H fp) (emit (.ref p) (cxC X scope j T keep s H fp).env) (tb p))(hs:autoParam (∀x,P5 iter X.env x=pure x) du0):
  PE X (.ListComp elt (⟨tg,iter,ifs,0⟩::rest) scope pos) (AW T.length keep E g K tb):=by
 intro ag s σ H Q I h;rw[eval_ListComp];refine wpAny_comprehension_free (use:=Y) O hs (Df w) C.kind C.names ?_;refine fh (hi ag s σ H _ I h) λv s1 h1=>fh h1 λitv a h2=>?_;obtain⟨it,fp,S,ao,H2,rfl,F,TT,u,L,N⟩:=h2;refine wO1 ?_;have aq:Inv X ag σ (upd H2 a.heap.objs.size (.lst [])) {a with heap:=a.heap.push {cls:=.type "list",data:=.seq ([]:List di).toArray}}:=F.lnew (t':=a.toks) .nil (bi _);have old:∀b∈fp,∃o,a.heap.get? b=Z o:=λb hb=>by
  obtain⟨o,e,_⟩:=TT.obj 0 a.heap u b hb;exact⟨o,e⟩
 have B:∀b∈fp,b≠a.heap.objs.size:=λb hb z=>by
  obtain⟨o,e⟩:=old b hb;have:=hL1 e;rw[z]at this;exact aA _ this
 have A:∀b∈fp,kF X ag (upd H2 a.heap.objs.size (.lst [])) b:=λb hb=>⟨by rw[d6 (B b hb)];exact(L b hb).1,(L b hb).2⟩;have wq:∀b∈fp,∃o,({a with heap:=a.heap.push {cls:=.type "list",data:=.seq ([]:List di).toArray}}:dj).heap.get? b=Z o:=λb hb=>by
  obtain⟨o,e⟩:=old b hb;exact⟨o,hP1 _ e⟩
 have y:=uP aq C w A wq;obtain⟨hg,V,W⟩:=hb {a with heap:=a.heap.push {cls:=.type "list",data:=.seq ([]:List di).toArray}} (upd H2 a.heap.objs.size (.lst [])) fp a.heap.objs.size;refine kS ?_;have f4:∀b∈fp,kF (cxC X scope j T keep {a with heap:=a.heap.push {cls:=.type "list",data:=.seq ([]:List di).toArray}} (upd H2 a.heap.objs.size (.lst [])) fp) [] (upd H2 a.heap.objs.size (.lst [])) b:=λb hb=>
  ⟨(A b hb).1,(y.ok.exf b hb).1,y.ok.exfs b hb,.inl hb,(y.ok.exf b hb).2,λp U=>absurd (show p∈([]:List (dk×Obj))from U) (by simp)⟩
 have n:S 0 (pushCells ((a.heap.push {cls:=.type "list",data:=.seq ([]:List di).toArray}).push {cls:=.type "dict",data:=.dict #[]}) scope.names):=
  TT.keep 0 a.heap _ u λb hb o e=>QZ scope.names _ b o (hP1 _ (hP1 _ e))
 have i:=mT (X:=cxC X scope j T keep {a with heap:=a.heap.push {cls:=.type "list",data:=.seq ([]:List di).toArray}} (upd H2 a.heap.objs.size (.lst [])) fp) O hc (eq (.ref it) (.ref a.heap.objs.size) _) TT hg V W y n f4
  (N a.heap.objs.size (F.hok.fresh (nR1 _)))
 refine Qg (codeAny_compStart_list i (TT.self X.A 0 _ _ _ n i)) λr s' D=>?_;cases r with
 |error e=>exact D.elim
 |ok f=>
  obtain⟨au,H',l,av⟩:=D;obtain⟨m,R,_⟩:=id l.loc;refine⟨m,R,λh' t=>⟨.ref a.heap.objs.size,H',?_,O,av⟩⟩;refine aq.call' (s':={s' with heap:=h'}) (ch:=fp) l.os (Un.sameBut l.base t (Pq (nR1 _))) (λb P e=>?_) l.bare λb hb=>(A b hb).2.2.2 |> λz=>⟨z.1,(A b hb).2.1,z.2.1,z.2.2⟩
  refine(l.hok b P e).stay (λc w' hc q=>(t.2 c ?_).trans q) (λ_ q=>q) λ_ _ q=>q;rintro rfl;have G:=l.free;rcases hc with rfl|hc
  ·exact nomatch G.symm.trans e
  ·exact nomatch G.symm.trans hc
section
variable{K:Fg1}{H:Hp}{mu:List dk}{S:Sto}{p:dk}{u:HO}{o:Ob}{n:Nat}
theorem Rd.ne{a:dk}{x:HO}(h:H p=Y)(q:Rd H a x):a≠p:=by
 rintro rfl;rcases q with q|⟨_,q⟩<;>(rw[h]at q;cases q)
theorem Ext.fresh(hp:H p=Y):Ext mu mu H (upd H p u) where
 pre:=bo
 old:=λa o h _=>by rw[d6 (eu h hp)];exact h
 tup:=λa xs h=>by
  have ne:=Rd.ne hp h;rcases h with h|⟨b,h⟩
  ·exact .inl (by rw[d6 ne];exact h)
  ·exact .inr ⟨b,by rw[d6 ne];exact h⟩
 frz:=λa o x h=>by rw[d6 (eu h hp)];exact h
 new:=λ_ h=>.inl h
theorem Ext.new_(hp:H p=Y):Ext mu (mu++[p]) H (upd H p u) where
 pre:=bv _ _
 old:=(Ext.fresh (mu:=mu) hp).old
 tup:=(Ext.fresh (mu:=mu) hp).tup
 frz:=(Ext.fresh (mu:=mu) hp).frz
 new:=λa h=>by
  rcases aG.mp h with h|h
  ·exact .inl h
  ·have:a=p:=by simpa using h
   subst this;exact .inr hp
theorem Sim.fresh(s:Sim K H mu S)(hp:H p=Y):Sim K (upd H p u) mu S:=
 ⟨s.len,s.nd,λk o a h1 h2=>(s.ob k o a h1 h2).keep (Ext.fresh hp) λb e=>by rw[d6 (eu e hp)];exact e⟩
theorem Sim.notin(s:Sim K H mu S)(hp:H p=Y):p∉mu:=λh=>by
 obtain⟨o,e⟩:=s.here h;rw[hp]at e;cases e
theorem pR.more{a:dk}{mu':List dk}{H':Hp}(e:Ext mu mu' H H')(h:∀o,H a=Z o->H' a=Z o):∀{o:Ob},pR K H mu a o->pR K H' mu' a o
 | .lst _,⟨vs,q,r⟩=>⟨vs,h _ q,r.ext e⟩
 | .dct _,⟨ws,q,r⟩=>⟨ws,h _ q,KR.ext e r⟩
 | .dcT _,⟨ws,q,r,l⟩=>⟨ws,h _ q,KT.ext e r,l⟩
 | .iset _,q=>⟨h _ q.1,q.2⟩
 | .dcF _,⟨ws,⟨o,u,c,b⟩,r,l⟩=>⟨ws,⟨o,u,h _ c,b⟩,KT.ext e r,l⟩
 | .tst _,⟨ws,q,r⟩=>⟨ws,h _ q,KT.ext e r⟩
theorem Sim.new(s:Sim K H mu S)(hp:H p=Y)(ho:pR K (upd H p u) (mu++[p]) p o):Sim K (upd H p u) (mu++[p]) (S++[o]):=by
 refine⟨by rw[lA1,lA1,s.len];rfl,?_,λk o' a h1 h2=>?_⟩
 ·rw[bx];refine⟨s.nd,by simp,λa f b g e=>?_⟩;have:b=p:=by simpa using g
  subst this;subst e;exact s.notin hp f
 ·by_cases d:k<S.length
  ·rw[gL1 d]at h1;rw[gL1 (by rw[s.len];exact d)]at h2;exact(s.ob k o' a h1 h2).more (Ext.new_ hp) λh e=>by rw[d6 (eu e hp)];exact e
  ·have c:k=S.length:=by
    have:=(R1 h1).1;rw[lA1]at this;simp at this;lia
   subst c;rw[gR1 (nR1 _)]at h1;rw[<- s.len,gR1 (nR1 _)]at h2;simp at h1 h2;subst h1;subst h2;exact ho
theorem Ext.put{x:HO}(hp:H p=Z x)(hm:Kx (Z x))(b:p∈mu):Ext mu mu H (upd H p u) where
 pre:=bo
 old:=λa o h n=>by rw[d6 (λe=>n (by rw[e];exact b))];exact h
 tup:=λa xs h=>by
  have ne:a≠p:=by
   rintro rfl;rcases h with h|⟨_,h⟩<;>(rw[hp]at h;cases h;exact hm)
  rcases h with h|⟨c,h⟩
  ·exact .inl (by rw[d6 ne];exact h)
  ·exact .inr ⟨c,by rw[d6 ne];exact h⟩
 frz:=λa o y h=>by
  rw[d6 (λe=>?_)]
  ·exact h
  ·subst e;rw[hp]at h;cases h;exact hm
 new:=λ_ h=>.inl h
theorem Sim.put(s:Sim K H mu S){x:HO}(hn:mu[n]?=Z p)(hp:H p=Z x)(hm:Kx (Z x))(ho:pR K (upd H p u) mu p o):Sim K (upd H p u) mu (S.set n o):=by
 refine⟨by rw[aV];exact s.len,s.nd,λk o' a h1 h2=>?_⟩;by_cases b:n=k
 ·subst b;have c:n<S.length:=by
   have:=(R1 h1).1
   rwa [aV]at this
  rw[aJ c]at h1;cases h1;rw[hn]at h2;cases h2;exact ho
 ·rw [gS1 b] at h1;have ne:a≠p:=fun e=>by
   subst e;obtain⟨g,d⟩:=R1 hn;obtain⟨h,f⟩:=R1 h2;exact b ((aI s.nd).mp (d.trans f.symm))
  exact(s.ob k o' a h1 h2).keep (Ext.put hp hm (gM1 hn)) λi e=>by rw[d6 ne];exact e
theorem Sim.lst(s:Sim K H mu S){ds:List D}{a:dk}(h:S[n]?=Z (.lst ds))(hn:mu[n]?=Z a):∃vs,H a=Z (.lst vs)/\dX K H mu ds vs:=s.ob n _ a h hn
theorem Sim.dcT(s:Sim K H mu S){ks:List (TK×D)}{a:dk}(h:S[n]?=Z (.dcT ks))(hn:mu[n]?=Z a):∃ws,H a=Z (.ext (j4 a ws))/\KT K H mu ks ws/\ws.length<=dy:=s.ob n _ a h hn
theorem Sim.iset(s:Sim K H mu S){xs:List Int}{a:dk}(h:S[n]?=Z (.iset xs))(hn:mu[n]?=Z a):H a=Z (.set (λk=>xs.contains k) xs.length)/\xs.Nodup:=s.ob n _ a h hn
theorem Sim.dct(s:Sim K H mu S){ks:List (Key×D)}{a:dk}(h:S[n]?=Z (.dct ks))(hn:mu[n]?=Z a):∃ws,H a=Z (.dK ws)/\KR K H mu ks ws:=s.ob n _ a h hn
theorem Sim.newL(s:Sim K H mu S){ds:List D}{vs:List V}(r:dX K H mu ds vs)(hp:H p=Y):Sim K (upd H p (.lst vs)) (mu++[p]) (S++[.lst ds]):=s.new hp ⟨vs,d9,r.ext (Ext.new_ hp)⟩
theorem Sim.putL(s:Sim K H mu S){ds:List D}{vs ws:List V}(r:dX K H mu ds vs)(hn:mu[n]?=Z p)(hp:H p=Z (.lst ws)):Sim K (upd H p (.lst vs)) mu (S.set n (.lst ds)):=
 s.put hn hp trivial ⟨vs,d9,r.ext (Ext.put hp trivial (gM1 hn))⟩
end
theorem hK{mu:List dk}{S:Sto}(h:mu.length=S.length)(p:dk):(mu++[p])[S.length]?=Z p:=by
 rw[<- h,gR1 (nR1 _)];simp
noncomputable def eH (a:FA):FE:=λr S=>(a r S).bind λp=>if p.1.length<=dy then some (.tup p.1,p.2)else none
noncomputable def g6 (a:FA):FE:=λr S=>(a r S).bind λp=>if p.1.length<=dy then some (.ref p.2.length,p.2++[.lst p.1])else none
section
variable{es:List Expr}{pos:Pos}{a:FA}
theorem Jj{x1}(h:MA X es a):ME X (.Tuple es x1 pos) (eH a):=eM (Ip h) <| by
 rintro σ H Q ⟨r,mu,S,d,l,f,j,b,hc⟩;obtain⟨⟨ds,m⟩,i,b⟩:=R3 b;dsimp only at b;split at b
 ·rename_i g;cases b;refine⟨r,mu,S,ds,_,f,j,i,λvs H1 mu1 x1 e k=>⟨by rw[<- e.length];exact g,λp c=>?_⟩⟩;exact hc _ _ mu1 (x1.trans (Ext.fresh c)) (.tup (kA.of d9) (e.ext (Ext.fresh c))) (k.fresh c)
 ·cases b
theorem Jq(h:MA X es a):ME X (.List es pos) (g6 a):=eM (Iw h) <| by
 rintro σ H Q ⟨r,mu,S,d,m,g,k,b,hc⟩;obtain⟨⟨ds,n⟩,j,b⟩:=R3 b;dsimp only at b;split at b
 ·rename_i i;cases b;refine⟨r,mu,S,ds,_,g,k,j,λvs H1 mu1 l c f=>⟨by rw[<- c.length];exact i,λp e=>?_⟩⟩;exact hc _ _ (mu1++[p]) (l.trans (Ext.new_ e)) (.ref (hK f.len p)) (f.newL c e)
 ·cases b
end
noncomputable def uQ(k:Nat)(keep:List Nat)(r:Ev):Ev:=aP k Y++keep.map λi=>(r[i]?).join
noncomputable def eZ:FT:=λ_ S=>Z (M,S)
theorem LN{K:Fg1}{H:Hp}{mu:List dk}{r:Ev}{σ:L2.St}(k:Nat)(keep:List Nat)(h:fI K H mu r σ):fI K H mu (uQ k keep r) (sX k keep σ):=by
 refine⟨by unfold uQ sX;rw[lA1,lA1,lM1,lM1,lR1,lR1],λi d e=>?_⟩;unfold uQ at e;unfold sX;by_cases hi:i<k
 ·rw[gL1 (by rw[lR1];exact hi),aS]at e;split at e<;>cases e
 ·rw [gR1 (by rw [lR1];lia),lR1,gP1] at e;rw [gR1 (by rw [lR1];lia),lR1,gP1];obtain ⟨j,b,e⟩:=R4 e;rw [b];have c:r[j]? = some (some d):=by
   cases q:r[j]? with
   |none=>rw[q]at e;cases e
   |some o=>rw[q]at e;cases e;rfl
  obtain⟨v,a,f⟩:=h.val j d c;exact⟨v,by rw[oP1,a];rfl,f⟩
theorem BA{ifs:List Expr}{t t':L2.TT}(h:pO X ifs t)(i:∀ σ H Q,t' σ H Q->t σ H Q):pO X ifs t':=λag s σ H Q I q=>h ag s σ H Q I (i σ H Q q)
theorem Fu:pO X [] (AU X.K eZ):=BA Bz fun σ H Q ⟨r,mu,S,b,d,e,c,a,hc⟩=>by cases a;exact hc H mu (.refl _ _) c
theorem Ft{c:Expr}{t:FT}(h:MT X c t):pO X [c] (AU X.K t):=By h
open PySem.AutoSeq1 (wpAny_loadPart')
def SIt(b:Bool)(h:dB)(it a:dk)(i:Nat):Prop:=match b with
 |true=>h.IsListIter it a i
 |false=>h.IsTupleIter it a i
def SCo(b:Bool)(h:dB)(a:dk)(xs:Array di):Prop:=match b with
 |true=>h.IsList a xs
 |false=>h.IsTuple a xs
theorem SIt.to{b:Bool}{h h':dB}{it a:dk}{i:Nat}(x:SIt b h it a i)(k:∀o,h.get? it=Z o->h'.get? it=Z o):SIt b h' it a i:=by
 cases b<;>(obtain⟨o,e,r⟩:=x;exact⟨o,k o e,r⟩)
theorem SIt.rec_{b:Bool}{h:dB}{it a:dk}{i:Nat}(x:SIt b h it a i):∃o,h.get? it=Z o /\ ∀v,o.data ≠ .cell v:=by
 cases b<;>(obtain⟨o,e,c,d⟩:=x;exact⟨o,e,λv z=>by rw[d]at z;cases z⟩)
theorem SCo.to{b:Bool}{h h':dB}{a:dk}{xs:Array di}(x:SCo b h a xs)(k:∀o,h.get? a=Z o->h'.get? a=Z o):SCo b h' a xs:=by
 cases b<;>(obtain⟨o,e,r⟩:=x;exact⟨o,k o e,r⟩)
noncomputable def gu(b:Bool)(a:dk):Obj:=match b with
 |true=>{cls:=.type "list_iterator",data:=.fields #[.ref a,.int 0 0]}
 |false=>{cls:=.type "tuple_iterator",data:=.fields #[.ref a,.int 0 0]}
section
variable{prog:dn}{w:dr}{A:dq}{E:di->dj->Prop}{s:dj}
theorem si{b:Bool}{h:dB}{it a:dk}(e:h.get? it=Z (gu b a)):SIt b h it a 0:=by
 cases b<;>exact⟨_,e,O,O⟩
theorem jB{b:Bool}{a:dk}{xs:Array di}{Q:di->dj->Prop}(x:SCo b s.heap a xs)(h:Q (.ref s.heap.objs.size) {s with heap:=s.heap.push (gu b a)}):dz (Pt prog w) A (P0 (.ref a)) Q E s:=by
 cases b
 ·exact wpAny_pyIter_tuple x h
 ·exact wpAny_pyIter_list x h
theorem B1{it l:dk}{i:Nat}{xs:Array di}{x:di}{Q:di->dj->Prop}(e:s.heap.IsTupleIter it l i)(tl:s.heap.IsTuple l xs)(hx:xs[i]? = Z x)(f:∀h',h'.IsTupleIter it l (i+1)->Ps it s.heap h'->Q x {s with heap:=h'}):dz (Pt prog w) A (Q4 (.ref it)) Q E s:=by
 obtain⟨o,b,hc,a⟩:=id e;obtain⟨h,d,_,g,c⟩:=tl;unfold Q4;refine wB1 (Qy (name:=Qz "__next__") e.typeIs Q5 (wE1 Q5 e.typeIs F.entry_tuple_iterator_next ?_ (F.args_tuple_iterator_next_1 _)));show dz _ _ (field (.ref it) 0 >>= _) _ _ s;refine wB1 (Qx b a (x:=.ref l) O ?_);show dz _ _ (if(Pj l == Ph)=M then _ else _) _ _ s;rw[aj (show¬ ((Pj l == Ph)=M)from aL)];show dz _ _ (field (.ref it) 1 >>= _) _ _ s;refine wB1 (Qx b a (x:=.int i 0) O ?_);show dz _ _ (seqItems? (.ref l) >>= _) _ _ s;refine wB1 (Q6 d c ?_);simp only[Qr,hx];refine wB1 (wpAny_setField b a (by simp) (wP1 ⟨x,O,wP1 (f _ ⟨_,hW1 _ b (Obj.isFreed_of_fields (Obj.data_mapFields a _)),(Obj.cls_mapFields ..).trans hc,by rw[Obj.data_mapFields a];simp[P1]⟩ (Q7 ..))⟩))
theorem sL {it l:dk}{i:Nat}{xs:Array di}{Q:di->dj->Prop}(h:A.handled=none)(g:s.heap.IsTupleIter it l i)(tl:s.heap.IsTuple l xs)(hx:xs[i]? = none)
  (j:∀h' e,Heap.ExtBut it s.heap h'->(∃o,h'.get? e=Z o/\o.cls = .type "StopIteration")->E (.ref e) {s with heap:=h'}):dz (Pt prog w) A (Q4 (.ref it)) Q E s:=by
 obtain⟨o,d,hc,b⟩:=id g;obtain⟨n,f,_,k,c⟩:=tl;unfold Q4;refine wB1 (Qy (name:=Qz "__next__") g.typeIs Q5 (wE1 Q5 g.typeIs F.entry_tuple_iterator_next ?_ (F.args_tuple_iterator_next_1 _)));show dz _ _ (field (.ref it) 0 >>= _) _ _ s;refine wB1 (Qx d b (x:=.ref l) O ?_);show dz _ _ (if(Pj l == Ph)=M then _ else _) _ _ s;rw[aj (show¬ ((Pj l == Ph)=M)from aL)];show dz _ _ (field (.ref it) 1 >>= _) _ _ s;refine wB1 (Qx d b (x:=.int i 0) O ?_);show dz _ _ (seqItems? (.ref l) >>= _) _ _ s;refine wB1 (Q6 f c ?_);simp only[Qr,hx];refine wB1 (PR (wB1 (wpAny_setField d b (by simp) ?_)));show dz _ _ (newExc (.type "StopIteration") [] >>= _) _ _ _;refine wB1 ?_;simp only[newExc,newTuple];refine wB1 (wO1 ?_ (by size_fits));refine wB1 (m:=Q8 _ _) (Q3 (a:=Ph) (by first|rfl|(simp only[Q8];rfl)) ?_);refine wO1 ?_ (by size_fits);simp only[raiseNew];refine wB1 (wpAny_handled ?_)
 first|rw[show A.in1.handled=Y from h] | rw[h]
 refine wB1 (wP1 (wpAny_throw ?_));exact j _ _ (((Q7 ..).extBut.push _).push _) ⟨_,hS1 _ O,O⟩
theorem lQ{b:Bool}{it l:dk}{i:Nat}{xs:Array di}{x:di}{Q:di->dj->Prop}(c:SIt b s.heap it l i)(tl:SCo b s.heap l xs)(hx:xs[i]? = Z x)(a:∀h',SIt b h' it l (i+1)->Ps it s.heap h'->Q x {s with heap:=h'}):dz (Pt prog w) A (Q4 (.ref it)) Q E s:=by
 cases b
 ·exact B1 c tl hx a
 ·exact wpAny_nextOf_list_item c tl hx a
theorem je {b:Bool}{it l:dk}{i:Nat}{xs:Array di}{Q:di->dj->Prop}(d:A.handled=none)(a:SIt b s.heap it l i)(tl:SCo b s.heap l xs)(hx:xs[i]? = none)
  (c:∀h' e,Heap.ExtBut it s.heap h'->(∃o,h'.get? e=Z o/\o.cls = .type "StopIteration")->E (.ref e) {s with heap:=h'}):dz (Pt prog w) A (Q4 (.ref it)) Q E s:=by
 cases b
 ·exact sL d a tl hx c
 ·exact wpAny_nextOf_list_end d a tl hx c
theorem C2{b:Bool}(l:dk)(xs:Array di):
  Meets (Builtin.«enumerate.__new__» ⟨[.type "enumerate",.ref l],[]⟩) (λ_ R s=>SCo b s.heap l xs /\
   R (.ok (.ret (.ref (s.heap.push (gu b l)).objs.size))) {s with heap:=(s.heap.push (gu b l)).push {cls:=.type "enumerate",data:=.fields #[.none,.bool J,.ref s.heap.objs.size,P1 0,.none,.none]}}):=
 .of_wp λprog w A R s h=>by
  obtain⟨j,g,d,tk,k⟩:=s;obtain⟨i,h⟩:=h;have a:=sub_enumerate
  have f:SCo b (Shared.heap ⟨j,g,d,tk,k⟩) l xs:=i;obtain⟨m,el⟩:∃o,j.get? l=some o:=by cases b<;>(obtain⟨o,e,_⟩:=i;exact⟨o,e⟩)
  wp_walk using wpAny_loadPart' el
  refine wpAny_stack_any λst=>wP1 ?_;split
  ·rename_i c _ _ _ _ _;cases(c == Pk "enumerate")<;>(wp_walk using wpAny_loadPart' el,jB f;exact⟨_,O,h⟩)
  ·wp_walk using wpAny_loadPart' el,jB f
   exact⟨_,O,h⟩
theorem zO{b:Bool}{l:dk}{xs:Array di}{Q:di->dj->Prop}(f:SCo b s.heap l xs)(h:∀h',Q9 h' (s.heap.objs.size+1) s.heap.objs.size 0 .none->SIt b h' s.heap.objs.size l 0->h'.objs.size=s.heap.objs.size+2->(∀b o,s.heap.get? b=some o->h'.get? b=some o)->Q (.ref (s.heap.objs.size+1)) {s with heap:=h'}):
  dz (Pt prog w) A (call (.type "enumerate") [.ref l]) Q E s:=by
 refine callType_new F.called_enumerate (by decide) (F.typeCall_enumerate_1 _) (F.newCall_enumerate_1 _) (λa=>F.args_object_init_2 a _) F.entry_enumerate_new (C2 (b:=b) l xs) ⟨f,?_⟩;have d:(s.heap.push (gu b l)).objs.size=s.heap.objs.size+1:=hZ1 ..
 show _/\_;rw[d];have e:Q9 ((s.heap.push (gu b l)).push {cls:=.type "enumerate",data:=.fields #[.none,.bool J,.ref s.heap.objs.size,P1 0,.none,.none]}) (s.heap.objs.size+1) s.heap.objs.size 0 .none:=by
  have q:=hS1 (s.heap.push (gu b l)) (o:={cls:=.type "enumerate",data:=.fields #[.none,.bool J,.ref s.heap.objs.size,P1 0,.none,.none]}) O;rw[d]at q;exact q
 have hi:(s.heap.push (gu b l)).get? s.heap.objs.size=Z (gu b l):=hS1 _ (by cases b<;>rfl);refine⟨⟨_,e,O⟩,h _ e (si (hP1 _ hi)) (by rw[hZ1,d]) λc o x=>hP1 _ (hP1 _ x)⟩
theorem zN {b:Bool}{e it l:dk}{i:Nat}{xs:Array di}{x old:di}{Q:Option di->dj->Prop}(he:Q9 s.heap e it i old)(U:SIt b s.heap it l i)(tl:SCo b s.heap l xs)(hx:xs[i]? = some x)(n:e≠it)
  (T:∀h',IsEnumOut h' e it ((i:Int)+1) x s.heap.objs.size->SIt b h' it l (i+1)->h'.get? s.heap.objs.size=Z {cls:=.type "tuple",data:=.seq #[.int i s.toks,x]}->h'.objs.size=s.heap.objs.size+1 ->
   (∀b o,b≠e->b≠it->s.heap.get? b=Z o->h'.get? b=Z o)->Q (Z (.ref s.heap.objs.size)) {s with heap:=h',toks:=s.toks+1}):dz (Pt prog w) A (PY (.ref e)) Q E s:=by
 have S:s.TypeIs (.ref e) "enumerate":=⟨_,he,O⟩;unfold PY;refine wB1 (Ra (Qy (name:=Qz "__next__") S Rb (wE1 Rb S F.entry_enumerate_next ?_ (F.args_enumerate_next_1 _))));obtain⟨k,g,d,tk,t⟩:=s;show dz _ _ (field (.ref e) 2 >>= _) _ _ _;refine wB1 (Qx he O (x:=.ref it) O ?_);refine wB1 (lQ U tl hx λh1 H D=>?_);replace D:Ps it k h1:=D;have p:Q9 h1 e it i old:=(D.2 e n).trans he;show dz _ _ (field (.ref e) 3 >>= _) _ _ ⟨h1,g,d,tk,t⟩;refine wB1 (Qx p O (x:=P1 i) O ?_);show dz _ _ (field (.ref e) 4 >>= _) _ _ ⟨h1,g,d,tk,t⟩;refine wB1 (Qx p O (x:=.none) O ?_);show dz _ _ (mkInt i >>= _) _ _ ⟨h1,g,d,tk,t⟩;refine wB1 (wpAny_mkInt ?_);show dz _ _ (setField (.ref e) 3 (P1 ((i:Int)+1)) >>= _) _ _ ⟨h1,g,d,tk+1,t⟩;refine wB1 (wS1 p (by simp) λh2 h G=>?_);replace G:Ps e h1 h2:=G;replace h:Q9 h2 e it ((i:Int)+1) old:=h;show dz _ _ (setField (.ref e) 4 .none >>= _) _ _ ⟨h2,g,d,tk+1,t⟩;refine wB1 (wS1 h (by simp) λh3 m C=>?_);replace C:Ps e h2 h3:=C;replace m:Q9 h3 e it ((i:Int)+1) old:=m;show dz _ _ (newTuple [.int i tk,x] >>= _) _ _ ⟨h3,g,d,tk+1,t⟩;refine wB1 (wpAny_newTuple ?_);have r:Q9 (h3.push {cls:=.type "tuple",data:=.seq #[.int i tk,x]}) e it ((i:Int)+1) old:=hP1 _ m;generalize a:h3.push {cls:=.type "tuple",data:=.seq #[.int i tk,x]}=h4 at r;have j:h3.objs.size=k.objs.size:=by rw[C.1,G.1,D.1]
 have N:e<k.objs.size:=hL1 he;have P:h4.get? k.objs.size=Z {cls:=.type "tuple",data:=.seq #[.int i tk,x]}:=by rw[<- a,<- j];exact hS1 _ O
 have L:h4.objs.size=k.objs.size+1:=by rw[<- a,hZ1,j]
 have av:∀b o,b≠e->b≠it->k.get? b=Z o->h4.get? b=Z o:=λb o f v R=>by
  rw[<- a];exact hP1 _ (C.extBut b o f (G.extBut b o f (D.extBut b o v R)))
 have aq:SIt b h4 it l (i+1):=H.to λo q=>by rw[<- a];exact hP1 _ (C.extBut _ _ (Pr n) (G.extBut _ _ (Pr n) q))
 show dz _ _ (Rc (.ref e) >>= _) _ _ ⟨h4,g,d,tk+1,t⟩;rw[j];clear a m C h G p D H j h3 h2 h1;refine wB1 ?_;unfold Rc;refine wB1 (Qx r O (x:=.none) O (wP1 ?_));simp only[Qv];refine wB1 (PR ?_);refine wB1 (Qx r O (x:=old) O ?_);refine wB1 (wS1 r (by simp) λh5 B I=>?_);replace I:Ps e h4 h5:=I;replace B:Q9 h5 e it ((i:Int)+1) x:=B;show dz _ _ (Re (.ref e) (.ref k.objs.size) >>= _) _ _ ⟨h5,g,d,tk+1,t⟩;refine wB1 ?_;unfold Re;refine wB1 (wS1 B (by simp) λh6 u K=>?_);replace K:Ps e h5 h6:=K;replace u:IsEnumOut h6 e it ((i:Int)+1) x k.objs.size:=u;refine wS1 u (by simp) λh7 y ao=>?_;replace ao:Ps e h6 h7:=ao;replace y:IsEnumOut h7 e it ((i:Int)+1) x k.objs.size:=y;have up:∀c o,c≠e->h4.get? c=Z o->h7.get? c=Z o:=λc o z q=>ao.extBut _ _ z (K.extBut _ _ z (I.extBut _ _ z q));refine wB1 (Rf (wP1 ⟨_,O,wP1 (T h7 y (aq.to λo q=>up _ o (Pr n) q) (up _ _ (nG1 N) P) (by rw[ao.1,K.1,I.1,L]) λc o f v R=>up c o f (av c o f v R))⟩))
theorem C3{b:Bool}{e it l:dk}{i:Nat}{xs:Array di}{old:di}{Q:Option di->dj->Prop}(f:A.handled=Y)(he:Q9 s.heap e it i old)(j:SIt b s.heap it l i)(tl:SCo b s.heap l xs)(hx:xs[i]? = Y)(h:∀h',Heap.ExtBut it s.heap h'->Q Y {s with heap:=h'}):dz (Pt prog w) A (PY (.ref e)) Q E s:=by
 have d:s.TypeIs (.ref e) "enumerate":=⟨_,he,O⟩;unfold PY;refine wB1 (Ra (Qy (name:=Qz "__next__") d Rb (wE1 Rb d F.entry_enumerate_next ?_ (F.args_enumerate_next_1 _))));show dz _ _ (field (.ref e) 2 >>= _) _ _ _;refine wB1 (Qx he O (x:=.ref it) O ?_);refine wB1 (je f j tl hx λh' x a c=>?_);obtain⟨o,g,hc⟩:=c;refine wB1 (Rg (T:="StopIteration") (b:=M) ⟨o,g,hc⟩ Rh ?_);exact wP1 (h _ a)
theorem rl{e it:dk}{i:Int}{old:di}{Q:di->dj->Prop}(he:Q9 s.heap e it i old)(h:Q (.ref e) s):dz (Pt prog w) A (P0 (.ref e)) Q E s:=by
 have a:s.TypeIs (.ref e) "enumerate":=⟨_,he,O⟩;refine wpAny_pyIter_slot a F.slot_enumerate_iter (wE1 F.slot_enumerate_iter a F.entry_enumerate_iter ?_ (F.args_enumerate_iter_1 _));show dz _ _ (ret (.ref e)) _ _ s;exact wP1 ⟨_,O,"enumerate",_,a,F.slot_enumerate_next.lookup,h⟩
end
open PySem.AutoSeq1 (wpAny_loadPart')
structure NR (z ti to i1 i2:dk):Prop where
 a1:ti≠z
 a2:to≠z
 a3:i1≠z
 a4:i2≠z
 a5:ti≠to
 a6:ti≠i1
 a7:ti≠i2
 a8:to≠i1
 a9:to≠i2
 a10:i1≠i2
section
variable{prog:dn}{w:dr}{A:dq}{E:di->dj->Prop}{s:dj}{b1 b2:Bool}
theorem SCo.ne{b:Bool}{h:dB}{a c:dk}{xs:Array di}{o:Obj}(x:SCo b h a xs)(e:h.get? c=Z o)(n:∀ys k,o.data ≠ .seq ys k):a≠c:=by
 rintro rfl;cases b<;>(obtain⟨o',f,g,k,d⟩:=x;rw[e]at f;cases f;exact n _ _ d)
theorem SCo.ne_it{b f:Bool}{h:dB}{a it l:dk}{xs:Array di}{i:Nat}(x:SCo b h a xs)(y:SIt f h it l i):a≠it:=by
 cases f<;>(obtain⟨o,e,c,d⟩:=y;exact x.ne e λys k z=>by rw[d]at z;cases z)
theorem Ap{z g to i1 j B r:dk}{av P:Nat}{xs ys:Array di}{x y a b:di}{Q:Option di->dj->Prop}(D:NR z g to i1 j)(hz:Ri s.heap z g to .none)(V:Rj s.heap g (.ref i1) (.ref j))(X:Rj s.heap to a b)(n1:B≠to)(n2:r≠to)(h1:SIt b1 s.heap i1 B av)(h2:SIt b2 s.heap j r P)(c1:SCo b1 s.heap B xs)(c2:SCo b2 s.heap r ys)(hx:xs[av]?=some x)(hy:ys[P]?=some y)(hQ:∀h',Ri h' z g to (P1 s.heap.objs.size)->Rj h' to x y->SIt b1 h' i1 B (av+1)->SIt b2 h' j r (P+1)->Rj h' s.heap.objs.size x y->h'.objs.size=s.heap.objs.size+1 ->
   (∀c o,c≠z->c≠to->c≠i1->c≠j->s.heap.get? c=Z o->h'.get? c=Z o)->Q (Z (.ref s.heap.objs.size)) {s with heap:=h'}):dz (Pt prog w) A (PY (.ref z)) Q E s:=by
 have hT:s.TypeIs (.ref z) "zip":=⟨_,hz,O⟩;have l1z:B≠z:=c1.ne hz λ_ _ q=>by cases q
 have wq:r≠z:=c2.ne hz λ_ _ q=>by cases q
 have aq:r≠i1:=c2.ne_it h1;unfold PY;refine wB1 (Ra (Qy (name:=Qz "__next__") hT Rk (wE1 Rk hT F.entry_zip_next ?_ (F.args_zip_next_1 _))));show dz _ _ (field (.ref z) 2 >>= _) _ _ _;refine wB1 (Qx hz O (x:=.bool J) O ?_);show dz _ _ (field (.ref z) 3 >>= _) _ _ _;refine wB1 (Qx hz O (x:=.ref g) O ?_);refine wB1 (Q6 V O ?_);show dz _ _ (Rc (.ref z) >>= _) _ _ _;refine wB1 ?_;unfold Rc;refine wB1 (Qx hz O (x:=.none) O (wP1 ?_));simp only[Qv];refine wB1 (PR ?_);refine wB1 (Qx hz O (x:=.ref to) O ?_);refine wB1 (wS1 hz (by simp) λg1 p m=>?_);replace p:Ri g1 z g to .ellipsis:=p;refine wB1 ?_;simp only[List.zipIdx_cons,List.zipIdx_nil,List.forIn_cons,List.forIn_nil];refine wB1 (wB1 (wpAny_onRaise ?_));show dz _ _ (Q4 (.ref i1) >>= _) _ _ _
 refine wB1 (lQ (h1.to λo q=>m.extBut _ _ D.a3 q) (c1.to λo q=>m.extBut _ _ l1z q) hx λg2 S v=>wP1 ?_);have i:Rj g2 to a b:=v.extBut _ _ D.a8 (m.extBut _ _ D.a2 X);refine wB1 (Q6 i O ?_);refine wB1 (Rl i λg3 f u=>?_);replace f:Rj g3 to x b:=f;refine wB1 (Rf (wP1 ?_));refine wB1 (wB1 (wpAny_onRaise ?_));show dz _ _ (Q4 (.ref j) >>= _) _ _ _
 refine wB1 (lQ (h2.to λo q=>u.extBut _ _ D.a9.symm (v.extBut _ _ D.a10.symm (m.extBut _ _ D.a4 q))) (c2.to λo q=>u.extBut _ _ n2 (v.extBut _ _ aq (m.extBut _ _ wq q))) hy λg4 h24 G=>wP1 ?_);have l:Rj g4 to x b:=G.extBut _ _ D.a9 f;refine wB1 (Q6 l O ?_);refine wB1 (Rl l λd e C=>?_);replace e:Rj d to x y:=e;refine wB1 (Rf (wP1 (wP1 ?_)));refine wB1 (Q6 e O ?_);refine wB1 (wpAny_newTuple ?_);have ao:d.objs.size=s.heap.objs.size:=by rw[C.1,G.1,u.1,v.1,m.1]
 have H:Ri d z g to .ellipsis:=C.extBut _ _ D.a2.symm (G.extBut _ _ D.a4.symm (u.extBut _ _ D.a2.symm (v.extBut _ _ D.a3.symm p)));have au:∀c o,c≠z->c≠to->c≠i1->c≠j->s.heap.get? c=Z o->d.get? c=Z o:=λc o n N R T q=>C.extBut _ _ N (G.extBut _ _ T (u.extBut _ _ N (v.extBut _ _ R (m.extBut _ _ n q))));have h15:SIt b1 d i1 B (av+1):=S.to λo q=>C.extBut _ _ D.a8.symm (G.extBut _ _ D.a10 (u.extBut _ _ D.a8.symm q));have h25:SIt b2 d j r (P+1):=h24.to λo q=>C.extBut _ _ D.a9.symm q;have k:z<d.objs.size:=hL1 H;show dz _ _ (Re (.ref z) (.ref d.objs.size) >>= _) _ _ _;refine wB1 ?_;unfold Re;have U:Ri (d.push {cls:=.type "tuple",data:=.seq #[x,y]}) z g to .ellipsis:=hP1 _ H;refine wB1 (wS1 U (by simp) λg7 t W=>?_);replace t:Ri g7 z g to (P1 d.objs.size):=t;refine wS1 t (by simp) λK h s8=>?_;replace h:Ri K z g to (P1 d.objs.size):=h;have up:∀c o,c≠z->d.get? c=Z o->K.get? c=Z o:=λc o n q=>s8.extBut _ _ n (W.extBut _ _ n (hP1 _ q));have I:Rj K d.objs.size x y:=s8.extBut _ _ (nG1 k) (W.extBut _ _ (nG1 k) (hS1 _ O));have L:K.objs.size=d.objs.size+1:=by rw[s8.1,W.1,hZ1]
 rw[ao]at h I L;refine wP1 ⟨_,O,wP1 ?_⟩;show Q (Z (.ref d.objs.size)) _;rw[ao]
 exact hQ K h (up _ _ D.a2 e) (h15.to λo q=>up _ o D.a3 q) (h25.to λo q=>up _ o D.a4 q) I L λc o n N R T q=>up c o n (au c o n N R T q)
theorem D8{z n to i1 p G y:dk}{L av:Nat}{xs ys:Array di}{a b:di}{Q:Option di->dj->Prop}(wq:A.handled=Y)(D:NR z n to i1 p)(hz:Ri s.heap z n to .none)(K:Rj s.heap n (.ref i1) (.ref p))(aq:Rj s.heap to a b)(n1:G≠to)(n2:y≠to)(h1:SIt b1 s.heap i1 G L)(h2:SIt b2 s.heap p y av)(I:SCo b1 s.heap G xs)(R:SCo b2 s.heap y ys)(t:xs[L]?=Y\/ys[av]?=Y)(X:∀h',(∀c o,c≠z->c≠to->c≠i1->c≠p->s.heap.get? c=Z o->h'.get? c=Z o)->Q Y {s with heap:=h'}):dz (Pt prog w) A (PY (.ref z)) Q E s:=by
 have au:s.TypeIs (.ref z) "zip":=⟨_,hz,O⟩;have C:G≠z:=I.ne hz λ_ _ q=>by cases q
 have N:y≠z:=R.ne hz λ_ _ q=>by cases q
 have B:y≠i1:=R.ne_it h1;unfold PY;refine wB1 (Ra (Qy (name:=Qz "__next__") au Rk (wE1 Rk au F.entry_zip_next ?_ (F.args_zip_next_1 _))));show dz _ _ (field (.ref z) 2 >>= _) _ _ _;refine wB1 (Qx hz O (x:=.bool J) O ?_);show dz _ _ (field (.ref z) 3 >>= _) _ _ _;refine wB1 (Qx hz O (x:=.ref n) O ?_);refine wB1 (Q6 K O ?_);show dz _ _ (Rc (.ref z) >>= _) _ _ _;refine wB1 ?_;unfold Rc;refine wB1 (Qx hz O (x:=.none) O (wP1 ?_));simp only[Qv];refine wB1 (PR ?_);refine wB1 (Qx hz O (x:=.ref to) O ?_);refine wB1 (wS1 hz (by simp) λg1 i g=>?_);replace i:Ri g1 z n to .ellipsis:=i;refine wB1 ?_;simp only[List.zipIdx_cons,List.zipIdx_nil,List.forIn_cons,List.forIn_nil];refine wB1 (wB1 (wpAny_onRaise ?_));show dz _ _ (Q4 (.ref i1) >>= _) _ _ _
 cases hx:xs[L]? with
 |none=>
  refine wB1 (je wq (h1.to λo q=>g.extBut _ _ D.a3 q) (I.to λo q=>g.extBut _ _ C q) hx λao e k P=>?_);obtain⟨S,d,f⟩:=P;have u:Ri ao z n to .ellipsis:=k _ _ D.a3.symm i;have l:e≠z:=λq=>by subst q;rw[u]at d;cases d;simp at f
  refine wS1 u (by simp) λg3 _ m=>?_;refine wB1 (Rg (T:="StopIteration") (b:=M) ⟨S,m.extBut _ _ l d,f⟩ Rh ?_);exact wP1 (X g3 λc o v _ H _ q=>m.extBut _ _ v (k _ _ H (g.extBut _ _ v q)))
 |some x=>
  have hy:ys[av]?=Y:=by rcases t with h|h;rw[hx]at h;cases h;exact h
  refine wB1 (lQ (h1.to λo q=>g.extBut _ _ D.a3 q) (I.to λo q=>g.extBut _ _ C q) hx λao h12 k=>wP1 ?_);have j:Rj ao to a b:=k.extBut _ _ D.a8 (g.extBut _ _ D.a2 aq);refine wB1 (Q6 j O ?_);refine wB1 (Rl j λg3 W m=>?_);refine wB1 (Rf (wP1 ?_));refine wB1 (wB1 (wpAny_onRaise ?_));show dz _ _ (Q4 (.ref p) >>= _) _ _ _
  refine wB1 (je wq (h2.to λo q=>m.extBut _ _ D.a9.symm (k.extBut _ _ D.a10.symm (g.extBut _ _ D.a4 q))) (R.to λo q=>m.extBut _ _ n2 (k.extBut _ _ B (g.extBut _ _ N q))) hy λg4 e V P=>?_);obtain⟨S,d,f⟩:=P;have r:Ri g4 z n to .ellipsis:=V _ _ D.a4.symm (m.extBut _ _ D.a2.symm (k.extBut _ _ D.a3.symm i));have l:e≠z:=λq=>by subst q;rw[r]at d;cases d;simp at f
  refine wS1 r (by simp) λg5 _ U=>?_;refine wB1 (Rg (T:="StopIteration") (b:=M) ⟨S,U.extBut _ _ l d,f⟩ Rh ?_);exact wP1 (X g5 λc o v q2 H q4 q=>U.extBut _ _ v (V _ _ q4 (m.extBut _ _ q2 (k.extBut _ _ H (g.extBut _ _ v q)))))
def zH(b1 b2:Bool)(h:dB)(l1 l2:dk):dB:=((((h.push (gu b1 l1)).push (gu b2 l2)).push {cls:=.type "tuple",data:=.seq #[.ref h.objs.size,.ref (h.objs.size+1)]}).push {cls:=.type "tuple",data:=.seq #[.none,.none]}).push
 {cls:=.type "zip",data:=.fields #[.none,.bool J,.bool J,.ref (h.objs.size+2),.ref (h.objs.size+3)]}
theorem D6(a b:dk)(xs ys:Array di):Meets (Builtin.«zip.__new__» ⟨[.type "zip",.ref a,.ref b],[]⟩) (λ_ R s=>SCo b1 s.heap a xs/\SCo b2 s.heap b ys/\R (.ok (.ret (.ref (s.heap.objs.size+4)))) {s with heap:=zH b1 b2 s.heap a b}):=
 .of_wp λprog w A R s h=>by
  obtain⟨c,g,d,tk,f⟩:=s;obtain⟨l,j,h⟩:=h;have e:=sub_zip
  have k:SCo b1 (Shared.heap ⟨c,g,d,tk,f⟩) a xs:=l;have i:SCo b2 (Shared.heap ⟨c.push (gu b1 a),g,d,tk,f⟩) b ys:=j.to λo q=>hP1 _ q
  wp_walk using jB k,jB i
  refine⟨_,O,?_⟩;have m:(c.push (gu b1 a)).objs.size=c.objs.size+1:=hZ1 ..
  simp only[hZ1,zH]at h ⊢;exact h
theorem Aq{a d:dk}{xs ys:Array di}{Q:di->dj->Prop}(t:SCo b1 s.heap a xs)(k:SCo b2 s.heap d ys)(h:∀h',Ri h' (s.heap.objs.size+4) (s.heap.objs.size+2) (s.heap.objs.size+3) .none->Rj h' (s.heap.objs.size+2) (.ref s.heap.objs.size) (.ref (s.heap.objs.size+1))->Rj h' (s.heap.objs.size+3) .none .none ->
   SIt b1 h' s.heap.objs.size a 0->SIt b2 h' (s.heap.objs.size+1) d 0->h'.objs.size=s.heap.objs.size+5->(∀c o,s.heap.get? c=Z o->h'.get? c=Z o)->Q (.ref (s.heap.objs.size+4)) {s with heap:=h'}):
  dz (Pt prog w) A (call (.type "zip") [.ref a,.ref d]) Q E s:=by
 refine callType_new F.called_zip (by decide) (F.typeCall_zip_2 _ _) (F.newCall_zip_2 _ _) (λg=>F.args_object_init_3 g _ _) F.entry_zip_new (D6 (b1:=b1) (b2:=b2) a d xs ys) ⟨t,k,?_⟩;have up:∀{h:dB} {o:Obj} {c:dk} {u:Obj},h.get? c=Z u->(h.push o).get? c=Z u:=λq=>hP1 _ q;have b:∀{h:dB} {o:Obj} {n:Nat},h.objs.size=n->o.isFreed=J->(h.push o).get? n=Z o:=λe f=>by rw[<- e];exact hS1 _ f
 have j:(gu b1 a).isFreed=J:=by cases b1<;>rfl
 have p:(gu b2 d).isFreed=J:=by cases b2<;>rfl
 have m:(zH b1 b2 s.heap a d).get? s.heap.objs.size=Z (gu b1 a):=up (up (up (up (b O j))));have l:(zH b1 b2 s.heap a d).get? (s.heap.objs.size+1)=Z (gu b2 d):=up (up (up (b (by simp only[hZ1]) p)));have v:Rj (zH b1 b2 s.heap a d) (s.heap.objs.size+2) (.ref s.heap.objs.size) (.ref (s.heap.objs.size+1)):=up (up (b (by simp only[hZ1]) O));have r:Rj (zH b1 b2 s.heap a d) (s.heap.objs.size+3) .none .none:=up (b (by simp only[hZ1]) O);have i:Ri (zH b1 b2 s.heap a d) (s.heap.objs.size+4) (s.heap.objs.size+2) (s.heap.objs.size+3) .none:=b (by simp only[hZ1]) O;exact⟨⟨_,i,O⟩,h _ i v r (si m) (si l) (by simp only[zH,hZ1]) λc o q=>up (up (up (up (up q))))⟩
end
def tO(K:Fg1)(b:Bool)(H:Hp)(a:dk)(xs:List V):Prop:=match b with
 |true=>mU K H a xs
 |false=>kA K H a xs
section
variable{ag:List (dk×Obj)}{σ:L2.St}{H:Hp}{s:dj}
theorem eX{b:Bool}{a:dk}{xs:List V}(I:Inv X ag σ H s)(h:tO X.K b H a xs):∃c:List di,ed xs c/\SCo b s.heap a c.toArray/\xs.length<=dy:=by
 cases b
 ·obtain⟨c,r,p,z⟩:=I.tuple h;exact⟨c,r,p,z⟩
 ·obtain⟨c,r,p,z⟩:=I.list h;exact⟨c,r,p.isList,z⟩
theorem nN{b:Bool}{a:dk}{xs ys:List V}(I:Inv X ag σ H s)(h:tO X.K b H a xs)(h':tO X.K b H a ys):xs=ys:=by
 cases b
 ·exact I.tuple_inj h h'
 ·exact I.list_inj h h'
theorem r6{b:Bool}{a c:dk}{xs:List V}(I:Inv X ag σ H s)(h:tO X.K b H a xs)(f:kF X ag H c):a≠c:=by
 rintro rfl;have d:∀{o},X.K.lookup a=Z o->False:=λ{o} e=>by
  have g:=I.ok.mod.kin _ _ e;rcases f.2.2.2.1 with z|z
  ·exact I.ok.noex _ _ g z
  ·exact absurd (nL1 (hL1 g) (aD I.ok.bsz z)) (aA _)
 cases b
 ·rcases h with(h|⟨_,h⟩)|⟨_,_,_,h,_⟩
  ·rw[f.1]at h;cases h
  ·rw[f.1]at h;cases h
  ·exact d h
 ·rcases h with(h|⟨_,h⟩)|⟨_,_,_,h,_⟩
  ·rw[f.1]at h;cases h
  ·rw[f.1]at h;cases h
  ·exact d h
theorem uO(I:Inv X ag σ H s){fp:List dk}(hf:∀ b∈fp,kF X ag H b){h':dB}{p:dk}{xs:List V}{its:List di}{t':Nat}(hp:s.heap.objs.size<=p)(f:∀ b o,b∉fp->s.heap.get? b=Z o->h'.get? b=Z o)(k:mq h' p its.toArray)(i:ed xs its)(hz:xs.length<=dy):Inv X ag σ (upd H p (.tup xs)) {s with heap:=h',toks:=t'}:=by
 have d:H p=Y:=I.hok.fresh hp;have g:∀{b o},s.heap.get? b=Z o->b≠p:=λe=>nN1 (nL1 (hL1 e) hp);have h:∀{b u},H b=Z u->b∉fp:=λe z=>by rw[(hf _ z).1]at e;cases e
 refine I.step (g':=s.gens) (d':=s.drawn) (ch:=fp) (λb a=>⟨(hf b a).2.2.2.1,(hf b a).2.1,(hf b a).2.2.2.2.1,(hf b a).2.2.2.2.2⟩) (λb o _ _ hc e _=>f b o hc e) (λb o _ _ hc e _=>⟨o.slots,f b o hc e⟩) (λb o _ e n=>?_)
  (λb o hc e=>⟨o,f b o hc e⟩) (λb ys e=>?_) (λb o u e=>?_) (λb ps e=>⟨#[],?_⟩) (λm j=>?_) (λb u e=>?_) I.bare
 ·rw[d6 (g e)];exact n
 ·rw[d6 (eu e d)];exact e
 ·rw[d6 (eu e d)];exact e
 ·rw[d6 (eu e d),e];simp
 ·obtain⟨o,es,ep,l,r⟩:=j;exact⟨o,es,ep,f _ o (λz=>(hf _ z).2.1 O) l,r⟩
 ·by_cases a:b=p
  ·subst a;rw[d9]at e;cases e;exact⟨hz,its,i,k⟩
  ·rw[d6 a]at e;refine(I.hok b u e).stay (λc v hc q=>f c v ?_ q) (λc q=>by rw[d6 (eu q d)];exact q) λc ys q=>by rw[d6 (eu q d)];exact q
   rcases hc with z|z
   ·rw[z];exact h e
   ·exact h z
theorem pa(I:Inv X ag σ H s){fp:List dk}(hf:∀b∈fp,kF X ag H b){h':dB}{t':Nat}(a:∀b o,b∉fp->s.heap.get? b=Z o->h'.get? b=Z o):Inv X ag σ H {s with heap:=h',toks:=t'}:=by
 have f:∀{b u},H b=Z u->b∉fp:=λe z=>by rw[(hf _ z).1]at e;cases e
 refine I.step (g':=s.gens) (d':=s.drawn) (ch:=fp) (λb d=>⟨(hf b d).2.2.2.1,(hf b d).2.1,(hf b d).2.2.2.2.1,(hf b d).2.2.2.2.2⟩) (λb o _ _ hc e _=>a b o hc e) (λb o _ _ hc e _=>⟨o.slots,a b o hc e⟩) (λb o _ e n=>n)
  (λb o hc e=>⟨o,a b o hc e⟩) (λb ys e=>e) (λb o u e=>e) (λb ps e=>⟨#[],by rw[e];simp⟩) (λm g=>?_) (λb u e=>?_) I.bare
 ·obtain⟨o,es,ep,h,r⟩:=g;exact⟨o,es,ep,a _ o (λz=>(hf _ z).2.1 O) h,r⟩
 ·refine(I.hok b u e).stay (λc v hc q=>a c v ?_ q) (λc q=>q) λc ys q=>q;rcases hc with z|z
  ·rw[z];exact f e
  ·exact f z
end
theorem tX:(2:Nat)<=dy:=by decide
def Op(K:Fg1)(b:Bool)(a:dk):It:=
 ⟨λi H=>∃xs x,tO K b H a xs/\xs[i]?=Z x,λi H x H'=>∃p v,H p=Y/\x = .ref p/\H'=upd H p (.tup [.int i,v]) /\ ∀xs,tO K b H a xs->xs[i]?=Z v,λi H=>∃xs,tO K b H a xs/\xs.length<=i⟩
theorem yL{P:dn}{w:dr}{K:Fg1}{elts:List Expr}{k:Nat}{pos:Pos}(b:Bool)(a e it:dk)(ne:e≠it):wN P w K (.Tuple elts k pos) (Op K b a) [e,it] e (λi h=>(∃old,Q9 h e it (i:Nat) old)/\SIt b h it a i) where
 mem:=by simp
 obj:=by
  rintro i h ⟨⟨old,st⟩,aq⟩ c hc;rcases aF.mp hc with z|z
  ·subst z;exact⟨_,st,λv q=>by cases q⟩
  ·have au:c=it:=by simpa using z
   subst au;exact aq.rec_
 keep:=λi h h' ⟨⟨old,st⟩,aq⟩ av=>⟨⟨old,av e (by simp) _ st⟩,aq.to λo q=>av it (by simp) o q⟩
 item:=by
  intro X r t A hc i ag s σ H E I j st C;subst r t A;obtain⟨⟨old,l⟩,m⟩:=st;obtain⟨xs,x,f,ao⟩:=C;obtain⟨F,n,co,U⟩:=eX I f;obtain⟨u,T,ru⟩:=n.get ao;refine zN l m co (x:=u) (by simpa using T) ne λh1 L B G wq D=>?_;refine⟨.ref s.heap.objs.size,O,?_⟩;refine wpAny_letOwnedTupleGo_enum L λh2 p d=>?_;have N:s.heap.objs.size≠e:=nG1 (hL1 l);have y:∀c o,c∉[e,it]->s.heap.get? c=Z o->h2.get? c=Z o:=λc o hc q=>by
   have g:c≠e:=λz=>hc (by simp[z]);have c2:c≠it:=λz=>hc (by simp[z]);exact d.extBut _ _ g (D c o g c2 q)
  have tp:mq h2 s.heap.objs.size [.int (i:Nat) s.toks,u].toArray:=⟨_,d.extBut _ _ N G,O,_,O,O⟩;have V:=uO I j (t':=s.toks+1) (nR1 _) y tp (xs:=[.int i,x]) (.cons ⟨_,O⟩ (.cons ru .nil)) tX;have S:H s.heap.objs.size=Y:=I.hok.fresh (nR1 _);refine⟨.ref s.heap.objs.size,_,V,O,⟨_,x,S,O,O,λys W=>by rw[nN I W f];exact ao⟩,⟨⟨u,?_⟩,B.to λo q=>d.extBut _ _ (Pr ne) q⟩,λc hc=>?_⟩
  ·have:((i+1:Nat):Int)=(i:Int)+1:=by push_cast;rfl
   rw[this];exact p
  ·have g:c≠s.heap.objs.size:=fun z=>by
    rcases aF.mp hc with q|q
    ·exact N (z.symm.trans q)
    ·have R:c=it:=by simpa using q
     obtain⟨o,Q,_⟩:=m.rec_;rw[<- R,z]at Q;exact aA _ (hL1 Q)
   rw[d6 g];exact(j c hc).1
 done:=by
  intro X r t A hc i ag s σ H E I j st C;subst r t A;obtain⟨⟨old,l⟩,m⟩:=st;obtain⟨xs,f,ao⟩:=C;obtain⟨F,n,co,U⟩:=eX I f;have hl:=n.length;refine C3 (I.ok.hd hc) l m co (by simp;lia) λh' eb=>⟨O,pa I (t':=s.toks) j λc o hc q=>eb c o (λz=>hc (by simp[z])) q⟩
 self:=λ_ _ _ _ _ ⟨⟨_,st⟩,_⟩ h=>rl st h
def Om(K:Fg1)(b1 b2:Bool)(a1 a2:dk):It:=
 ⟨λi H=>∃xs ys x y,tO K b1 H a1 xs/\tO K b2 H a2 ys/\xs[i]?=Z x/\ys[i]?=Z y,λi H x H'=>∃p v u,H p=Y/\x = .ref p/\H'=upd H p (.tup [v,u])/\(∀xs,tO K b1 H a1 xs->xs[i]?=Z v) /\ ∀ys,tO K b2 H a2 ys->ys[i]?=Z u,
  λi H=>∃xs ys,tO K b1 H a1 xs/\tO K b2 H a2 ys/\(xs.length<=i\/ys.length<=i)⟩
theorem AK{P:dn}{w:dr}{K:Fg1}{elts:List Expr}{k:Nat}{pos:Pos}(b1 b2:Bool)(a1 a2 z t to n m:dk)(D:NR z t to n m):wN P w K (.Tuple elts k pos) (Om K b1 b2 a1 a2) [z,t,to,n,m] z
  (λi h=>Ri h z t to .none/\Rj h t (.ref n) (.ref m)/\(∃u v,Rj h to u v)/\SIt b1 h n a1 i/\SIt b2 h m a2 i) where
 mem:=by simp
 obj:=by
  rintro i h ⟨j,b,⟨u,v,d⟩,f,g⟩ c hc;simp only[aF,bI,Rm]at hc;rcases hc with rfl|rfl|rfl|rfl|rfl
  ·exact⟨_,j,λv q=>by cases q⟩
  ·exact⟨_,b,λv q=>by cases q⟩
  ·exact⟨_,d,λv q=>by cases q⟩
  ·exact f.rec_
  ·exact g.rec_
 keep:=λi h h' ⟨j,b,⟨u,v,d⟩,f,g⟩ ao=>⟨ao z (by simp) _ j,ao t (by simp) _ b,⟨u,v,ao to (by simp) _ d⟩,f.to λo q=>ao n (by simp) o q,g.to λo q=>ao m (by simp) o q⟩
 item:=by
  intro X N Q S hc i ag s σ H E I l st T;subst N Q S;obtain⟨j,b,⟨u0,v0,d⟩,f,g⟩:=st;obtain⟨xs,ys,x,y,C,B,ex,wq⟩:=T;obtain⟨V,aq,co,hz⟩:=eX I C;obtain⟨F,p,r,av⟩:=eX I B;obtain⟨u,hu,ru⟩:=aq.get ex;obtain⟨U,au,W⟩:=p.get wq;refine Ap D j b d (r6 I C (l to (by simp))) (r6 I B (l to (by simp))) f g co r (x:=u) (y:=U) (by simpa using hu) (by simpa using au) λh1 p1 p2 p3 p4 p5 p6 G=>?_;refine⟨.ref s.heap.objs.size,O,?_⟩;refine wpAny_letOwnedTupleGo_zip p1 λh2 z2 a=>?_;have lt:∀c∈[z,t,to,n,m],c≠s.heap.objs.size:=λc hc e=>by
   obtain⟨o,eo⟩:∃o,s.heap.get? c=some o:=by
    simp only[aF,bI,Rm]at hc;rcases hc with rfl|rfl|rfl|rfl|rfl
    ·exact⟨_,j⟩
    ·exact⟨_,b⟩
    ·exact⟨_,d⟩
    ·obtain⟨o,e,_⟩:=f.rec_;exact⟨o,e⟩
    ·obtain⟨o,e,_⟩:=g.rec_;exact⟨o,e⟩
   rw[e]at eo;exact aA _ (hL1 eo)
  have R:∀c o,c∉[z,t,to,n,m]->s.heap.get? c=Z o->h2.get? c=Z o:=λc o hc q=>by
   simp only[aF,bI,Rm,not_or]at hc;exact a.extBut _ _ hc.1 (G c o hc.1 hc.2.2.1 hc.2.2.2.1 hc.2.2.2.2 q)
  have tp:mq h2 s.heap.objs.size [u,U].toArray:=⟨_,a.extBut _ _ (Pr (lt z (by simp))) p5,O,_,O,O⟩;have I2:=uO I l (t':=s.toks) (nR1 _) R tp (xs:=[x,y]) (.cons ru (.cons W .nil)) tX;have hn:H s.heap.objs.size=Y:=I.hok.fresh (nR1 _);refine⟨.ref s.heap.objs.size,_,I2,O,⟨_,x,y,hn,O,O,λL A=>by rw[nN I A C];exact ex,λL A=>by rw[nN I A B];exact wq⟩,
   ⟨z2,a.extBut _ _ D.a1 (G _ _ D.a1 D.a5 D.a6 D.a7 b),⟨u,U,a.extBut _ _ D.a2 p2⟩,p3.to λo q=>a.extBut _ _ D.a3 q,p4.to λo q=>a.extBut _ _ D.a4 q⟩,λc hc=>?_⟩
  rw[d6 (lt c hc)];exact(l c hc).1
 done:=by
  intro X N Q S hc i ag s σ H E I l st T;subst N Q S;obtain⟨j,b,⟨u0,v0,d⟩,f,g⟩:=st;obtain⟨xs,ys,C,B,hl⟩:=T;obtain⟨V,aq,co,hz⟩:=eX I C;obtain⟨F,p,r,av⟩:=eX I B;have l1:=aq.length;have l2:=p.length;refine D8 (I.ok.hd hc) D j b d (r6 I C (l to (by simp))) (r6 I B (l to (by simp))) f g co r (by simp;lia) λh' eb=>⟨O,pa I (t':=s.toks) l λc o hc q=>?_⟩;simp only[aF,bI,Rm,not_or]at hc;exact eb c o hc.1 hc.2.2.1 hc.2.2.2.1 hc.2.2.2.2 q
 self:=λ_ _ _ _ _ ⟨st,_⟩ h=>wpAny_pyIter_zip st h
section
variable{elts:List Expr}{k:Nat}{tpos:Pos}
def LR(K:Fg1)(ta:TA):TI:=fun σ H R=>ta σ H λvs H1=>∃a b,vs=[.ref a]/\(∃xs,tO K b H1 a xs)/\R (Op K b a) H1
theorem EX {a:Expr}{ta:TA}{p pos:Pos}(hg:Gl X "enumerate")(hm:X.mg "enumerate"=Y)(ha:PA X [a] ta)(hs:autoParam (dw [a] X.env=[(J,eval a X.env)]) cu0):PI X (.Tuple elts k tpos) (.Call (.Name "enumerate" p) [a] [] pos) (LR X.K ta):=by
 intro ag s σ H R I h;refine Call_ (jN I hg hm boot_enumerate (P4 (fh (ha pos ag s σ H _ I h) λB g ⟨vs,H1,f,n,l⟩=>?_) hs O));obtain⟨c,b,e,⟨xs,u⟩,q⟩:=l;subst e;cases n with
 |cons r m=>
  cases m;cases r;obtain⟨o,A,co,C⟩:=eX f u;refine zO co λh' i y w v=>rl i ?_;have x:Inv X ag σ H1 {g with heap:=h'}:=f.kept (t':=g.toks) v;refine⟨g.heap.objs.size+1,[g.heap.objs.size+1,g.heap.objs.size],_,_,H1,O,x,yL b c _ _ (Nat.succ_ne_self _),⟨⟨.none,i⟩,y⟩,λd j=>?_,q⟩;rcases aF.mp j with z|z
  ·subst z;exact f.fpOk (aX _) (f.hok.fresh (aX _))
  ·have t:d=g.heap.objs.size:=by simpa using z
   subst t;exact f.fpOk (nR1 _) (f.hok.fresh (nR1 _))
def NB(K:Fg1)(ta:TA):TI:=fun σ H R=>ta σ H λvs H1=>∃a1 b1 a2 b2,vs=[.ref a1,.ref a2]/\(∃xs,tO K b1 H1 a1 xs)/\(∃xs,tO K b2 H1 a2 xs)/\R (Om K b1 b2 a1 a2) H1
theorem Ij {a b:Expr}{ta:TA}{p pos:Pos}(hg:Gl X "zip")(hm:X.mg "zip"=none)(ha:PA X [a,b] ta)(hs:autoParam (dw [a,b] X.env=[(false,eval a X.env),(false,eval b X.env)]) cu0)(hs2:autoParam (dw [b] X.env=[(false,eval b X.env)]) cu0):
  PI X (.Tuple elts k tpos) (.Call (.Name "zip" p) [a,b] [] pos) (NB X.K ta):=by
 intro ag s σ H R I h;refine Call_ (jN I hg hm boot_zip (P4 (fh (ha pos ag s σ H _ I h) λL c ⟨vs,H1,f,E,A⟩=>?_) (by rw[hs,hs2]) (by rw[hs2];rfl)));obtain⟨o,b1,D,b2,e,⟨xs,ao⟩,⟨ys,B⟩,q⟩:=A;subst e;cases E with
 |cons r i=>
  cases i with
  |cons w i=>
   cases i;cases r;cases w;obtain⟨F,aq,co,av⟩:=eX f ao;obtain⟨m,y,j,u⟩:=eX f B;refine Aq co j λh' n K C v t N G=>wpAny_pyIter_zip n ?_;have x:Inv X ag σ H1 {c with heap:=h'}:=f.kept (t':=c.toks) G;refine⟨c.heap.objs.size+4,[c.heap.objs.size+4,c.heap.objs.size+2,c.heap.objs.size+3,c.heap.objs.size,c.heap.objs.size+1],_,_,H1,O,x,AK b1 b2 o D _ _ _ _ _ ?_,⟨n,K,⟨_,_,C⟩,v,t⟩,λd l=>?_,q⟩
   ·constructor<;>(intro z;have P:((_:Nat)=_):=z;lia)
   ·have g:c.heap.objs.size<=d:=by
     simp only[aF,bI,Rm]at l;rcases l with rfl|rfl|rfl|rfl|rfl
     ·exact br _ _
     ·exact br _ _
     ·exact br _ _
     ·exact nR1 _
     ·exact br _ _
    exact f.fpOk g (f.hok.fresh g)
end
noncomputable def dZ (S:Sto):D->Option (Bool×List D)
 | .tup xs=>some (false,xs)
 | .rol xs=>some (true,xs)
 | .ref n=>match S[n]? with
  |some (.lst xs)=>some (true,xs)
  |_=>none
 |_=>none
noncomputable def jT(S:Sto):D->List (Nat×List D)
 | .ref n=>match S[n]? with
  |some (.lst xs)=>[(n,xs)]
  |_=>[]
 |_=>[]
section
variable{K:Fg1}{H:Hp}{mu:List dk}{S:Sto}
theorem dW{d:D}{v:V}{b:Bool}{xs:List D}(r:eW K H mu d v)(s:Sim K H mu S)(h:dZ S d=Z (b,xs)):∃a vs,v = .ref a/\tO K b H a vs/\dX K H mu xs vs:=by
 cases d with
 |tup ys=>cases h;cases r with|tup q t=>exact⟨_,_,rfl,q,t⟩
 |rol ys=>cases h;cases r with|rol q t=>exact⟨_,_,rfl,q.sq,t⟩
 |ref n=>
  rw[dZ]at h;split at h
  ·rename_i ys e;cases h;cases r with
   |ref q=>
    obtain⟨vs,f,c⟩:=s.lst e q;exact⟨_,vs,O,mU.of f,c⟩
  ·cases h
 |_=>cases h
theorem iT{d:D}{a:dk}{b:Bool}{xs:List D}(r:eW K H mu d (.ref a))(s:Sim K H mu S)(h:dZ S d=some (b,xs)){H1:Hp}{mu1:List dk}{S1:Sto}(x:tT mu mu1 H H1)(g:Sim K H1 mu1 S1)(ok:pP S1 (jT S d)=true):
  ∃vs,tO K b H1 a vs/\dX K H1 mu1 xs vs:=by
 have f:=r.exw x;have h1:dZ S1 d=Z (b,xs):=by
  cases d with
  |ref n=>
   rw[dZ]at h;split at h
   ·rename_i ys e;cases h;rw[jT,e]at ok;dsimp only[pP]at ok;rw[bJ]at ok;rw[dZ];split at ok
    ·rename_i zs c
     first|rw[c,D.sames_eq ok] | rw[D.sames_eq ok]
    ·cases ok
   ·cases h
  |_=>exact h
 obtain⟨i,vs,e,q,t⟩:=dW f g h1;cases e;exact⟨vs,q,t⟩
end
noncomputable def g9 (m:FE):FI:=λr S=>(m r S).bind λp=>(dZ p.2 p.1).bind λq=>some (⟨q.2,jT p.2 p.1⟩,p.2)
noncomputable def u5:Nat->List D->List D
 |_,[]=>[]
 |n,d::ds=>.tup [.int n,d]::u5 (n+1) ds
noncomputable def p7 (m:FA):FI:=λr S=>(m r S).bind λp=>match p.1 with
 |[d]=>(dZ p.2 d).bind λq=>some (⟨u5 0 q.2,jT p.2 d⟩,p.2)
 |_=>none
noncomputable def wS:List D->List D->List D
 |x::xs,y::ys=>.tup [x,y]::wS xs ys
 |_,_=>[]
def He(m:FA):FI:=λr S=>(m r S).bind λp=>match p.1 with
 |[d,e]=>(dZ p.2 d).bind λq=>(dZ p.2 e).bind λt=>Z (⟨wS q.2 t.2,jT p.2 d++jT p.2 e⟩,p.2)
 |_=>Y
noncomputable def fX(lo:Int):Nat->List D
 |0=>[]
 |n+1=>.int lo::fX (lo+1) n
noncomputable def nJ (m:FA):FI:=λr S=>(m r S).bind λp=>match p.1 with
 |[.int j]=>if-(2^62)<=j/\j<2^62 then some (⟨fX 0 j.toNat,[]⟩,p.2)else none
 |_=>none
def KD(m:FA):FI:=λr S=>(m r S).bind λp=>match p.1 with
 |[.int i,.int j]=>if-(2^62)<=i/\i<2^62 /\ -(2^62)<=j/\j<2^62 then Z (⟨fX i (j-i).toNat,[]⟩,p.2)else Y
 |_=>Y
theorem gD:∀(ds:List D) (n i:Nat),(u5 n ds)[i]?=(ds[i]?).map λd=>.tup [.int ((n+i:Nat):Int),d]
 |[],n,i=>by simp[u5]
 |d::ds,n,0=>by simp[u5]
 |d::ds,n,i+1=>by
  rw[u5,gC1,gD ds (n+1) i,gC1];rw[show n+1+i=n+(i+1) by lia]
theorem gO:∀(ds:List D) (n:Nat),(u5 n ds).length=ds.length
 |[],_=>rfl
 |d::ds,n=>by rw[u5,lC1,gO ds,lC1]
theorem wR:∀(xs ys:List D) (i:Nat) (d:D),(wS xs ys)[i]?=Z d -> ∃x y,xs[i]?=Z x/\ys[i]?=Z y/\d = .tup [x,y]
 |[],_,i,d,h=>by simp[wS]at h
 |_::_,[],i,d,h=>by simp[wS]at h
 |x::xs,y::ys,0,d,h=>by simp[wS]at h;exact⟨x,y,O,O,h.symm⟩
 |x::xs,y::ys,i+1,d,h=>by
  rw[wS,gC1]at h;obtain⟨b,a,c,e,f⟩:=wR xs ys i d h;exact⟨b,a,by simpa using c,by simpa using e,f⟩
theorem wQ:∀(xs ys:List D) (i:Nat),(wS xs ys).length<=i->xs.length<=i\/ys.length<=i
 |[],_,i,_=>.inl (bi _)
 |_::_,[],i,_=>.inr (bi _)
 |x::xs,y::ys,0,h=>by simp[wS]at h
 |x::xs,y::ys,i+1,h=>by
  rcases wQ xs ys i (by simpa[wS]using h)with q|q
  ·exact .inl (by simpa using q)
  ·exact .inr (by simpa using q)
theorem uw:∀(n:Nat) (lo:Int) (i:Nat) (d:D),(fX lo n)[i]?=Z d->i<n/\d = .int (lo+i)
 |0,lo,i,d,h=>by simp[fX]at h
 |n+1,lo,0,d,h=>by simp[fX]at h;exact⟨bK _,by rw[<- h];simp⟩
 |n+1,lo,i+1,d,h=>by
  rw[fX,gC1]at h;obtain⟨h1,h2⟩:=uw n (lo+1) i d h;refine⟨Nat.succ_lt_succ h1,?_⟩;rw[h2,show lo+1+(i:Int)=lo+((i+1:Nat):Int) by push_cast;lia]
theorem et:∀(n:Nat) (lo:Int),(fX lo n).length=n
 |0,_=>rfl
 |n+1,lo=>by rw[fX,lC1,et n]
theorem xC{S:Sto}:∀{c c':List (Nat×List D)},pP S (c++c')=M->pP S c=M/\pP S c'=M
 |[],_,h=>⟨O,h⟩
 |(n,xs)::c,c',h=>by
  rw[bj,pP,bA1]at h;obtain⟨h1,h2⟩:=xC h.2;exact⟨by rw[pP,bA1];exact⟨h.1,h1⟩,h2⟩
section
variable{tg:Expr}
theorem uM(K:Fg1)(lo:Int)(n:Nat)(mu:List dk)(H:Hp):N1 K (Mt lo n) ⟨fX lo n,[]⟩ mu H:=by
 intro i H1 mu1 e x s ok;refine⟨λd a=>?_,λh=>by rw[et]at h;exact h⟩;obtain⟨h1,h2⟩:=uw n lo i d a;refine⟨h1,λy H2 ⟨b,c⟩=>?_⟩;subst b;subst c;subst h2;exact⟨.refl _ _,s,.int _⟩
theorem Jb{e:Expr}{m:FE}(h:ME X e m):MI X tg e (g9 m):=oF (Li (EW h) (Ik h)) <| by
 rintro σ H R ⟨r,mu,S,ao,I,C,E,l,hc⟩;obtain⟨⟨d,K⟩,D,l⟩:=R3 l;obtain⟨⟨b,xs⟩,o,l⟩:=R3 l;cases l;cases b with
 |true=>
  left;refine⟨r,mu,S,d,_,C,E,D,λv H1 mu1 x n f=>?_⟩;obtain⟨a,vs,rfl,q,t⟩:=dW n f o;refine⟨a,O,⟨vs,q⟩,hc _ H1 mu1 x (λi H2 s F z j ok=>?_) f⟩;obtain⟨ws,c,g⟩:=iT n f o z j ok;refine⟨λd p=>?_,λB=>⟨ws,c,by rw[<- g.length];exact B⟩⟩;obtain⟨v,k,w⟩:=g.get p;refine⟨⟨ws,v,c,k⟩,λy G ⟨u,A⟩=>?_⟩;subst u;have:=A ws c;rw[k]at this;cases this;exact⟨.refl _ _,j,w⟩
 |false=>
  right;refine⟨r,mu,S,d,_,C,E,D,λv H1 mu1 x n f=>?_⟩;obtain⟨a,vs,rfl,q,t⟩:=dW n f o;refine⟨a,O,⟨vs,q⟩,hc _ H1 mu1 x (λi H2 s F z j ok=>?_) f⟩;obtain⟨ws,c,g⟩:=iT n f o z j ok;refine⟨λd p=>?_,λB=>⟨ws,c,by rw[<- g.length];exact B⟩⟩;obtain⟨v,k,w⟩:=g.get p;refine⟨⟨ws,v,c,k⟩,λy G ⟨u,A⟩=>?_⟩;subst u;have:=A ws c;rw[k]at this;cases this;exact⟨.refl _ _,j,w⟩
theorem oC{K:Fg1}{H:Hp}{mu:List dk}{d:D}{vs:List V}(r:dX K H mu [d] vs):∃v,vs=[v]/\eW K H mu d v:=by
 cases r with|cons r t=>cases t;exact⟨_,O,r⟩
theorem uh{K:Fg1}{H:Hp}{mu:List dk}{d e:D}{vs:List V}(r:dX K H mu [d,e] vs):∃v u,vs=[v,u]/\eW K H mu d v/\eW K H mu e u:=by
 cases r with|cons r t=>cases t with|cons q t=>cases t;exact⟨_,_,O,r,q⟩
theorem zm {a:Expr}{m:FA}{p pos:Pos}(hg:Gl X "range")(hm:X.mg "range"=Y)(ha:MA X [a] m)(hs:autoParam (dw [a] X.env=[(J,eval a X.env)]) cu0):MI X tg (.Call (.Name "range" p) [a] [] pos) (nJ m):=
 oF (ze hg hm ha hs) <| by
  rintro σ H R ⟨r,mu,S,ao,i,e,hs,hm,hc⟩;obtain⟨⟨ds,k⟩,f,hm⟩:=R3 hm;dsimp only at hm;split at hm
  ·rename_i j;split at hm
   ·rename_i b;cases hm;refine⟨r,mu,S,_,_,e,hs,f,λvs H1 mu1 h d g=>?_⟩;obtain⟨v,rfl,c⟩:=oC d;cases c;exact⟨j,O,b.1,b.2,hc _ H1 mu1 h (uM _ _ _ _ _) g⟩
   ·cases hm
  ·cases hm
theorem zl {a b:Expr}{m:FA}{p pos:Pos}(hg:Gl X "range")(hm:X.mg "range"=Y)(ha:MA X [a,b] m)(hs:autoParam (dw [a,b] X.env=[(J,eval a X.env),(J,eval b X.env)]) cu0)(hs2:autoParam (dw [b] X.env=[(J,eval b X.env)]) cu0):MI X tg (.Call (.Name "range" p) [a,b] [] pos) (KD m):=
 oF (zd hg hm ha hs hs2) <| by
  rintro σ H R ⟨r,mu,S,ao,n,e,hs,hm,hc⟩;obtain⟨⟨ds,o⟩,f,hm⟩:=R3 hm;dsimp only at hm;split at hm
  ·rename_i i j;split at hm
   ·rename_i l;cases hm;refine⟨r,mu,S,_,_,e,hs,f,λvs H1 mu1 k d h=>?_⟩;obtain⟨v,u,rfl,c,g⟩:=uh d;cases c;cases g;exact⟨i,j,O,l,hc _ H1 mu1 k (uM _ _ _ _ _) h⟩
   ·cases hm
  ·cases hm
variable{elts:List Expr}{k:Nat}{tpos:Pos}
theorem Fv {a:Expr}{m:FA}{p pos:Pos}(hg:Gl X "enumerate")(hm:X.mg "enumerate"=Y)(ha:MA X [a] m)(hs:autoParam (dw [a] X.env=[(J,eval a X.env)]) cu0):MI X (.Tuple elts k tpos) (.Call (.Name "enumerate" p) [a] [] pos) (p7 m):=
 oF (EX hg hm ha hs) <| by
  rintro σ H R ⟨r,mu,S,ao,I,A,hs,hm,hc⟩;obtain⟨⟨ds,L⟩,B,hm⟩:=R3 hm;dsimp only at hm;split at hm
  ·rename_i d;obtain⟨⟨b,xs⟩,s,hm⟩:=R3 hm;cases hm;refine⟨r,mu,S,_,_,A,hs,B,λvs H1 mu1 C F f=>?_⟩;obtain⟨v,rfl,n⟩:=oC F;obtain⟨a,vs,rfl,q,t⟩:=dW n f s;refine⟨a,b,O,⟨vs,q⟩,hc _ H1 mu1 C (λi H2 w K D l ok=>?_) f⟩;obtain⟨ws,e,j⟩:=iT n f s D l ok;refine⟨λd c=>?_,λu=>⟨ws,e,by rw[gO]at u;rw[<- j.length];exact u⟩⟩;rw[gD]at c;obtain⟨av,z,c⟩:=R4 c;obtain⟨v,o,g⟩:=j.get z;refine⟨⟨ws,v,e,o⟩,λy N ⟨p,aq,h,x,E,G⟩=>?_⟩;have:=G ws e;rw[o]at this;cases this;subst x;subst E;subst c;rw[bL];exact⟨Ext.fresh h,l.fresh h,.tup (kA.of d9) (.cons (.int _) (.cons (g.ext (Ext.fresh h)) .nil))⟩
  ·cases hm
theorem Ja {a b:Expr}{m:FA}{p pos:Pos}(hg:Gl X "zip")(hm:X.mg "zip"=Y)(ha:MA X [a,b] m)(hs:autoParam (dw [a,b] X.env=[(J,eval a X.env),(J,eval b X.env)]) cu0)(hs2:autoParam (dw [b] X.env=[(J,eval b X.env)]) cu0):MI X (.Tuple elts k tpos) (.Call (.Name "zip" p) [a,b] [] pos) (He m):=
 oF (Ij hg hm ha hs hs2) <| by
  rintro σ H R ⟨r,mu,S,ao,S',T,hs,hm,hc⟩;obtain⟨⟨ds,S1⟩,U,hm⟩:=R3 hm;dsimp only at hm;split at hm
  ·rename_i d e;obtain⟨⟨b1,xs⟩,D,hm⟩:=R3 hm;obtain⟨⟨b2,ys⟩,F,hm⟩:=R3 hm;cases hm;refine⟨r,mu,S,_,_,T,hs,U,λvs H1 mu1 V wq f=>?_⟩;obtain⟨v,u,rfl,B,I⟩:=uh wq;obtain⟨a1,s,rfl,Q,t1⟩:=dW B f D;obtain⟨a2,w,rfl,N,t2⟩:=dW I f F;refine⟨a1,b1,a2,b2,O,⟨s,Q⟩,⟨w,N⟩,hc _ H1 mu1 V (λi H2 av S2 G n ok=>?_) f⟩;obtain⟨h,t⟩:=xC ok;obtain⟨ws,l,K⟩:=iT B f D G n h;obtain⟨c,q,E⟩:=iT I f F G n t;refine⟨λd aq=>?_,λhl=>⟨ws,c,l,q,?_⟩⟩
   ·obtain⟨x',y',ex,W,rfl⟩:=wR xs ys i d aq;obtain⟨v,A,o⟩:=K.get ex;obtain⟨u,x,j⟩:=E.get W;refine⟨⟨ws,c,v,u,l,q,A,x⟩,λy H3 ⟨p,v',u',g,P,au,z3,z4⟩=>?_⟩;have C:=z3 ws l;have L:=z4 c q;rw[A]at C;cases C;rw[x]at L;cases L;subst P;subst au;exact⟨Ext.fresh g,n.fresh g,.tup (kA.of d9) (.cons (o.ext (Ext.fresh g)) (.cons (j.ext (Ext.fresh g)) .nil))⟩
   ·rcases wQ xs ys i hl with z|z
    ·exact .inl (by rw[<- K.length];exact z)
    ·exact .inr (by rw[<- E.length];exact z)
  ·cases hm
end
abbrev G1:=D->Sto->Option (D×Sto)
abbrev G2:=D->D->Sto->Option (D×Sto)
abbrev G3:=D->D->D->Sto->Option (D×Sto)
noncomputable def b1 (f:G1):FN:=λds S=>match ds with
 |[a]=>f a S
 |_=>none
noncomputable def b2 (f:G2):FN:=λds S=>match ds with
 |[a,b]=>f a b S
 |_=>none
noncomputable def b3 (f:G3):FN:=λds S=>match ds with
 |[a,b,c]=>f a b c S
 |_=>none
section
variable{K:Fg1}{H:Hp}{Q:VK}
theorem pT{f:G2}{x y:V}(h:rN K (b2 f) [x,y] H Q):∃mu S d e r a,eW K H mu d x/\eW K H mu e y/\Sim K H mu S/\f d e S=Z (r,a)/\tR K mu H r a Q:=by
 obtain⟨mu,S,ds,r,a,b,i,c,hc⟩:=h;cases b with
 |cons q t=>cases t with
  |cons g t=>cases t;exact⟨mu,S,_,_,r,a,q,g,i,c,hc⟩
theorem Bo{f:G1}{xs:List V}(h:rN K (b1 f) xs H Q):∃x mu S d r a,xs=[x]/\eW K H mu d x/\Sim K H mu S/\f d S=Z (r,a)/\tR K mu H r a Q:=by
 obtain⟨mu,S,ds,r,a,c,e,b,hc⟩:=h;cases c with
 |nil=>cases b
 |cons q t=>cases t with
  |nil=>exact⟨_,mu,S,_,r,a,O,q,e,b,hc⟩
  |cons g t=>cases b
theorem y3{f:G2}{xs:List V}(h:rN K (b2 f) xs H Q):∃x y mu S d e r a,xs=[x,y]/\eW K H mu d x/\eW K H mu e y/\Sim K H mu S/\f d e S=Z (r,a)/\tR K mu H r a Q:=by
 obtain⟨mu,S,ds,r,a,c,i,b,hc⟩:=h;cases c with
 |nil=>cases b
 |cons q t=>cases t with
  |nil=>cases b
  |cons g t=>cases t with
   |nil=>exact⟨_,_,mu,S,_,_,r,a,O,q,g,i,b,hc⟩
   |cons j t=>cases b
theorem tR.now{mu:List dk}{S:Sto}{d:D}{v:V}(c:tR K mu H d S Q)(r:eW K H mu d v)(s:Sim K H mu S):Q v H:=c v H mu (.refl _ _) r s
end
noncomputable def e9(i j:Int):Bool:=(decide (-(2^64)<i)&&decide (i<2^64))||(decide (-(2^64)<j)&&decide (j<2^64))||(decide (i.natAbs<2^1000)&&decide (j.natAbs<2^1000))
noncomputable def fY:G2:=λd e S=>match d,e with
 | .int i,.int j=>Z (.int (i+j),S)
 | .tup xs,.tup ys=>if xs.length+ys.length<=dy then Z (.tup (xs++ys),S)else Y
 | .str x,.str y=>if x.length+y.length<=dy then Z (.str (x++y),S)else Y
 | .ref a,.ref b=>match S[a]?,S[b]? with
  |some (.lst xs),Z (.lst ys)=>if xs.length+ys.length<=dy then Z (.ref S.length,S++[.lst (xs++ys)])else Y
  |_,_=>Y
 |_,_=>Y
noncomputable def gSub:G2:=λd e S=>match d,e with
 | .int i,.int j=>Z (.int (i-j),S)
 |_,_=>Y
def mP:G2:=λd e S=>match d,e with
 | .int i,.int j=>if e9 i j=M then Z (.int (i*j),S)else Y
 |_,_=>Y
noncomputable def lZ:G2:=λd e S=>match d,e with
 | .int i,.int j=>if 0<j then Z (.int (i%j),S)else Y
 |_,_=>Y
noncomputable def nK:G2:=λd e S=>match d,e with
 | .int i,.int j=>if 0<j/\j<1073741824 then Z (.int (i/j),S)else Y
 |_,_=>Y
noncomputable def wl:G2:=λd e S=>match d,e with
 | .int i,.int j=>if 0<=j/\j<=1000000/\i.natAbs<2^64 then Z (.int (i^j.toNat),S)else Y
 |_,_=>Y
theorem wd{i j:Int}(h:e9 i j=M):IntMulOk i j:=by
 unfold e9 at h;simp only[bM,bA1,am]at h;rcases h with(⟨h1,h2⟩|⟨h1,h2⟩)|⟨h1,h2⟩
 ·exact .of_left (intBits_le_64 h1 h2)
 ·exact .of_right (intBits_le_64 h1 h2)
 ·exact .of_bits (aD (intBits_le h1) (by decide)) (aD (intBits_le h2) (by decide))
theorem nR{f:di->di->Sem di}{g:G2}{c:Int->Int->Prop}{v:Int->Int->D}(hg:∀ d e S r a,g d e S=Z (r,a) -> ∃ i j,d = .int i/\e = .int j/\c i j/\r=v i j/\a=S){b:Int->Int->V}(hv:∀i j K H mu,eW K H mu (v i j) (b i j))(ho:gE X f (rI c b)):gE X f (r2 X.K (b2 g)):=by
 intro ag s σ H x y u w Q I n k h;obtain⟨mu,S,d,e,r,a,o,r2,p,m,hc⟩:=pT h;obtain⟨i,j,rfl,rfl,l,rfl,rfl⟩:=hg d e S r a m;cases o;cases r2;exact ho ag s σ H _ _ u w Q I n k ⟨i,j,O,O,l,hc.now (hv i j _ _ _) p⟩
theorem oG{f:di->di->Sem di}{g:G2}{v:Int->Int->D}(hg:∀ d e S r a,g d e S=Z (r,a) -> ∃ i j,d = .int i/\e = .int j/\r=v i j/\a=S){b:Int->Int->V}(hv:∀i j K H mu,eW K H mu (v i j) (b i j))(ho:gE X f (GZ b)):gE X f (r2 X.K (b2 g)):=by
 intro ag s σ H x y u w Q I k c h;obtain⟨mu,S,d,e,r,a,m,r2,n,l,hc⟩:=pT h;obtain⟨i,j,rfl,rfl,rfl,rfl⟩:=hg d e S r a l;cases m;cases r2;exact ho ag s σ H _ _ u w Q I k c ⟨i,j,O,O,hc.now (hv i j _ _ _) n⟩
theorem ng:gE X (P6 .Mult) (r2 X.K (b2 mP)):=nR (c:=λi j=>IntMulOk i j) (v:=λi j=>.int (i*j)) (λd e S r a h=>by
 unfold mP at h;split at h
 ·split at h
  ·rename_i q;cases h;exact⟨_,_,O,O,wd q,O,O⟩
  ·cases h
 ·cases h) (λ_ _ _ _ _=>.int _) (MD λ_ _ _ _ _ _ _ hc q=>mul_int q hc)
theorem nh:gE X (P6 .Mod) (r2 X.K (b2 lZ)):=nR (c:=λ_ j=>0<j) (v:=λi j=>.int (i%j)) (λd e S r a h=>by
 unfold lZ at h;split at h
 ·split at h
  ·rename_i q;cases h;exact⟨_,_,O,O,q,O,O⟩
  ·cases h
 ·cases h) (λ_ _ _ _ _=>.int _) IE
theorem uv:gE X (P6 .FloorDiv) (r2 X.K (b2 nK)):=nR (c:=Mv) (v:=λi j=>.int (i/j)) (λd e S r a h=>by
 unfold nK at h;split at h
 ·split at h
  ·rename_i q;cases h;exact⟨_,_,O,O,q,O,O⟩
  ·cases h
 ·cases h) (λ_ _ _ _ _=>.int _) E9
theorem BV:gE X (P6 .Pow) (r2 X.K (b2 wl)):=nR (c:=Mu) (v:=λi j=>.int (i^j.toNat)) (λd e S r a h=>by
 unfold wl at h;split at h
 ·split at h
  ·rename_i q;cases h;exact⟨_,_,O,O,q,O,O⟩
  ·cases h
 ·cases h) (λ_ _ _ _ _=>.int _) ID
theorem zW{s:dj}{prog:dn}{w:dr}{A:dq}{E:di->dj->Prop}{t b:dk}{ws:List di}{Q:di->dj->Prop}(ht:IsTup s.heap t ([]:List di).toArray)(hb:IsTup s.heap b ws.toArray)(h:Q (.ref b) s):
  dz (Pt prog w) A (P6 .Add (.ref t) (.ref b)) Q E s:=by
 obtain⟨⟨q,o,l,m⟩,k,hc,n,i⟩:=id ht;obtain⟨⟨j,f,e,g⟩,d,c,p,a⟩:=id hb;simp only at hc i c a;subst hc i c a;exact concat_meets ⟨_,k,O⟩ ⟨_,d,O⟩ noFill_tuple_add seq_tuple_add Qo Qp (Qq _ _) (tuple_addW0 t b ([]:List di).toArray ws.toArray n p o f m g (by simp)) ⟨k,d,h⟩
theorem fZ:gE X (P6 .Add) (r2 X.K (b2 fY)):=by
 intro ag s σ H x y u w Q I q o h;obtain⟨mu,S,d,e,r,P,v,r2,g,c,hc⟩:=pT h;unfold fY at c;split at c
 ·cases c;cases v;cases r2;exact IH ag s σ H _ _ u w Q I q o ⟨_,_,O,O,hc.now (.int _) g⟩
 ·rename_i xs ys;split at c
  ·rename_i t;cases c;cases v with
   |tup B l=>
    cases r2 with
    |tup A k=>
     rename_i f a1 m a2;by_cases E:f=[]
     ·subst E;have:xs=[]:=by cases l;rfl
      subst this;cases q;cases o;obtain⟨C,G,F,_⟩:=I.tuple B;obtain⟨D,ao,p2,_⟩:=I.tuple A;have:C=[]:=G.nil_iff.mpr O;subst this;exact zW F p2 ⟨.ref a2,H,I,O,hc.now (.tup A k) g⟩
     ·refine Fa ag s σ H _ _ u w Q I q o ⟨a1,a2,f,m,O,O,B,A,E,by rw[<- l.length,<- k.length];exact t,λz=>?_,λz p n=>?_⟩
      ·subst z;have:ys=[]:=by cases k;rfl
       subst this;rw[aN]at hc;exact hc.now (.tup B l) g
      ·exact hc _ _ mu (Ext.fresh n) (.tup (kA.of d9) ((l.append k).ext (Ext.fresh n))) (g.fresh n)
  ·cases c
 ·rename_i i j;split at c
  ·rename_i t;cases c;cases v;cases r2;exact v6 ag s σ H _ _ u w Q I q o ⟨i,j,O,O,t,hc.now (.str _) g⟩
  ·cases c
 ·rename_i a b;split at c
  ·rename_i xs ys N eb;split at c
   ·rename_i t;cases c;cases v with
    |ref K=>
     cases r2 with
     |ref av=>
      obtain⟨f,L,l⟩:=g.lst N K;obtain⟨m,aq,k⟩:=g.lst eb av;refine IG ag s σ H _ _ u w Q I q o ⟨_,_,f,m,O,O,L,aq,by rw[<- l.length,<- k.length];exact t,λp n=>?_⟩;exact hc _ _ (mu++[p]) (Ext.new_ n) (.ref (hK g.len p)) (g.newL (l.append k) n)
   ·cases c
  ·cases c
 ·cases c
noncomputable def jj(p:Int->Int->Bool):G2:=λd e S=>match d,e with
 | .int i,.int j=>Z (.bl (p i j),S)
 |_,_=>Y
theorem s9{p:Int->Int->Bool}(d e:D)(S:Sto)(r:D)(S':Sto)(h:jj p d e S=Z (r,S')):∃i j,d = .int i/\e = .int j/\r = .bl (p i j)/\S'=S:=by
 unfold jj at h;split at h
 ·cases h;exact⟨_,_,O,O,O,O⟩
 ·cases h
theorem No:gE X (P7 .LtE) (r2 X.K (b2 (jj λi j=>decide (i<=j)))):=oG s9 (λ_ _ _ _ _=>.bl _) Lp
theorem Ff:gE X (P7 .Gt) (r2 X.K (b2 (jj λi j=>decide (j<i)))):=oG s9 (λ_ _ _ _ _=>.bl _) Lq
theorem Lw:gE X (P7 .GtE) (r2 X.K (b2 (jj λi j=>decide (j<=i)))):=oG s9 (λ_ _ _ _ _=>.bl _) Lr
noncomputable def l0:D->Bool
 | .non=>M
 | .bl _=>M
 | .int _=>M
 | .str _=>M
 |_=>J
noncomputable def MM:D->D->Option Bool
 | .non,.non=>some true
 | .bl a,.bl b=>some (a == b)
 | .bl a,.int b=>some ((if a then 1 else 0) == b)
 | .int a,.bl b=>some (a == (if b then 1 else 0))
 | .int a,.int b=>some (a == b)
 | .str a,.str b=>some (a == b)
 |d,e=>if l0 d&&l0 e then some false else none
noncomputable def wz(f:D->D->Option Bool):List D->List D->Option Bool
 |x::xs,y::ys=>(f x y).bind λb=>(wz f xs ys).map λc=>b&&c
 |[],[]=>Z M
 |_,_=>Z J
def i7(S:Sto):Nat->D->D->Option Bool
 |0,_,_=>Y
 |n+1,d,e=>match dZ S d,dZ S e with
  |some p,Z q=>if p.1=q.1 then(if p.1=M/\p.2.length≠q.2.length then Z J else wz (i7 S n) p.2 q.2)else Z J
  |some _,Y=>if l0 e=M then Z J else Y
  |none,Z _=>if l0 d=M then Z J else Y
  |none,Y=>MM d e
section
variable{ag:List (dk×Obj)}{σ:L2.St}{H:Hp}{s:dj}{mu:List dk}{S:Sto}
theorem fQ{K:Fg1}{d:D}{v:V}(r:eW K H mu d v)(h:l0 d=M):kX v=M /\ ∀e w,eW K H mu e w->l0 e=M->MM d e=Z (vD v w):=by
 cases d with
 |non=>cases r;refine⟨O,λe w q f=>?_⟩;cases e with
  |non=>cases q;rfl
  |bl _=>cases q;rfl
  |int _=>cases q;rfl
  |str _=>cases q;rfl
  |_=>cases f
 |bl b=>cases r;refine⟨O,λe w q f=>?_⟩;cases e with
  |non=>cases q;rfl
  |bl _=>cases q;rfl
  |int _=>cases q;rfl
  |str _=>cases q;rfl
  |_=>cases f
 |int i=>cases r;refine⟨O,λe w q f=>?_⟩;cases e with
  |non=>cases q;rfl
  |bl _=>cases q;rfl
  |int _=>cases q;rfl
  |str _=>cases q;rfl
  |_=>cases f
 |str x=>cases r;refine⟨O,λe w q f=>?_⟩;cases e with
  |non=>cases q;rfl
  |bl _=>cases q;rfl
  |int _=>cases q;rfl
  |str _=>cases q;rfl
  |_=>cases f
 |_=>cases h
theorem pq{d e:D}{b:Bool}(h:MM d e=Z b):l0 d=M/\l0 e=M:=by
 cases d<;>cases e<;>first|exact⟨rfl,rfl⟩|(cases h;done)|exact nomatch h|(simp[MM,l0]at h)
theorem CZ{v:V}(h:kX v=M):vD v v=M:=by
 cases v<;>first|rfl|(cases h;done)|exact Rn _|(simp[vD];done)
theorem u3(I:Inv X ag σ H s)(hs:Sim X.K H mu S):∀(n:Nat) {d e:D} {v:V} {b:Bool},eW X.K H mu d v->eW X.K H mu e v->i7 S n d e=Z b->b=M
 |0,_,_,_,_,_,_,h=>by cases h
 |n + 1,d,e,v,b,y,l,h=>by
  rw[i7]at h;have g:∀{xs ys:List D} {vs:List V} {b:Bool},dX X.K H mu xs vs->dX X.K H mu ys vs->wz (i7 S n) xs ys=Z b->b=M:=by
   intro xs
   induction xs with
   |nil=>intro ys vs b B z h;cases B;cases z;cases h;rfl
   |cons x xs ih=>
    intro ys vs b B z h;cases B with
    |cons r t=>
     cases z with
     |cons K L=>
      rw[wz]at h;obtain⟨b1,i,h⟩:=R3 h;obtain⟨b2,c,h⟩:=R4 h;subst h;rw[u3 I hs n r K i,ih t L c];rfl
  cases hd:dZ S d with
  |some p=>
   obtain⟨E,xs⟩:=p;obtain⟨a,vs,rfl,q,t⟩:=dW y hs hd;cases he:dZ S e with
   |some p2=>
    obtain⟨qb,ys⟩:=p2;obtain⟨a2,A,c,m,u⟩:=dW l hs he;cases c;rw[hd,he]at h;dsimp only at h;obtain⟨Q,T,co,_⟩:=eX I q;obtain⟨C,aq,j,_⟩:=eX I m;have P:E=qb:=by
     cases E<;>cases qb
     ·rfl
     ·obtain⟨o,i,w,_⟩:=co;obtain⟨av,c,k,_⟩:=j;rw[i]at c;cases c;rw[w]at k;exact absurd k (by decide)
     ·obtain⟨o,i,w,_⟩:=co;obtain⟨av,c,k,_⟩:=j;rw[i]at c;cases c;rw[w]at k;exact absurd k (by decide)
     ·rfl
    subst P;have G:=nN I q m;subst G;rw[ak O,aj (by rw[t.length,u.length];simp)]at h;exact g t u h
   |none=>
    rw[hd,he]at h;dsimp only at h;split at h
    ·rename_i f;have:=(fQ l f).1;cases this
    ·cases h
  |none=>
   cases he:dZ S e with
   |some p2=>
    obtain⟨qb,ys⟩:=p2;obtain⟨a2,A,c,m,u⟩:=dW l hs he;subst c;rw[hd,he]at h;dsimp only at h;split at h
    ·rename_i f;have:=(fQ y f).1;cases this
    ·cases h
   |none=>
    rw[hd,he]at h;dsimp only at h;obtain⟨N,R⟩:=pq h;obtain⟨ao,F⟩:=fQ y N;rw[F e v l R]at h;cases h;exact CZ ao
theorem fv{A:dq}{b:Bool}{a:dk}{its:Array di}{v:V}{u:di}(c:SCo b s.heap a its)(r:d3 v u)(f:kX v=true)(d:A.units<Qe):
   QH A s (.ref a) u J/\QH A s u (.ref a) J/\Ro A s (.ref a) u J/\Ro A s u (.ref a) J:=by
 cases v with
 | non => cases r;cases b
          · exact⟨.tuple_none c d,.none_tuple c d,.tuple_none c d,.none_tuple c d⟩
          · exact⟨.list_none c d,.none_list c d,.list_none c d,.none_list c d⟩
 | bl k => cases r;cases b
           · exact⟨.tuple_bool k c d,.bool_tuple k c d,.tuple_bool k c d,.bool_tuple k c d⟩
           · exact⟨.list_bool k c d,.bool_list k c d,.list_bool k c d,.bool_list k c d⟩
 | int i => obtain ⟨t,rfl⟩:=r;cases b
            · exact⟨.tuple_int i t c d,.int_tuple i t c d,.tuple_int i t c d,.int_tuple i t c d⟩
            · exact⟨.list_int i t c d,.int_list i t c d,.list_int i t c d,.int_list i t c d⟩
 | str x => obtain ⟨t,rfl⟩:=r;cases b
            · exact⟨.tuple_str x t c d,.str_tuple x t c d,.tuple_str x t c d,.str_tuple x t c d⟩
            · exact⟨.list_str x t c d,.str_list x t c d,.list_str x t c d,.str_list x t c d⟩
 |_=>cases f
theorem EH{A:dq}{x y:V}{u w:di}(c:d3 x u)(a:d3 y w)(h:kX x=M)(g:kX y=M):Ro A s u w (vD x y):=by
 cases x with
 |non=>cases c;cases y with
  |non=>cases a;exact .none_none
  |bl k=>cases a;exact .none_bool k
  |int i=>obtain⟨t,rfl⟩:=a;exact .none_int i t
  |str z=>obtain⟨t,rfl⟩:=a;exact .none_str z t
  |_=>cases g
 |bl e=>cases c;cases y with
  |non=>cases a;exact .bool_none e
  |bl k=>cases a;exact .bool_bool e k
  |int i=>obtain⟨t,rfl⟩:=a;exact .bool_int e i t
  |str z=>obtain⟨t,rfl⟩:=a;exact .bool_str e z t
  |_=>cases g
 |int f=>obtain⟨b,rfl⟩:=c;cases y with
  |non=>cases a;exact .int_none f b
  |bl k=>cases a;exact .int_bool f b k
  |int i=>obtain⟨t,rfl⟩:=a;exact .int_int f b i t
  |str z=>obtain⟨t,rfl⟩:=a;exact .int_str f b z t
  |_=>cases g
 |str d=>obtain⟨b,rfl⟩:=c;cases y with
  |non=>cases a;exact .str_none d b
  |bl k=>cases a;exact .str_bool d b k
  |int i=>obtain⟨t,rfl⟩:=a;exact .str_int d b i t
  |str z=>obtain⟨t,rfl⟩:=a;exact .str_str d b z t
  |_=>cases g
 |_=>cases h
theorem wy(f:D->D->Option Bool):∀{xs ys:List D} {b:Bool},wz f xs ys=Z b -> ∃e:Nat->Bool,(∀j x y,xs[j]?=Z x->ys[j]?=Z y->f x y=Z (e j))/\b=((af (min xs.length ys.length)).all e&&xs.length == ys.length)
 |[],[],b,h=>by cases h;exact⟨λ_=>M,λj x y h=>by simp at h,O⟩
 |[],y::ys,b,h=>by cases h;exact⟨λ_=>M,λj x y h=>by simp at h,by simp⟩
 |x::xs,[],b,h=>by cases h;exact⟨λ_=>M,λj x y h h'=>by simp at h',by simp⟩
 |x::xs,y::ys,b,h=>by
  rw[wz]at h;obtain⟨b1,k,h⟩:=R3 h;obtain⟨b2,l,h⟩:=R4 h;obtain⟨e,g,m⟩:=wy f l;refine⟨λj=>match j with|0=>b1|j+1=>e j,λj i d c a=>?_,?_⟩
  ·cases j with
   |zero=>simp at c a;subst c;subst a;exact k
   |succ j=>exact g j i d (by simpa using c) (by simpa using a)
  ·rw[<- h,m,lC1,lC1,Nat.succ_min_succ,List.range_succ_eq_map,bN,List.all_map];have:((xs.length+1 == ys.length+1):Bool)=(xs.length == ys.length):=by simp
   rw[this,Bool.and_assoc];rfl
theorem lj(I:Inv X ag σ H s)(hs:Sim X.K H mu S):∀(n:Nat) {A:dq} {d e:D} {v w:V} {u z:di} {b:Bool},A.units+n<Qe->eW X.K H mu d v->eW X.K H mu e w->d3 v u->d3 w z->i7 S n d e=Z b->QH A s u z b/\Ro A s u z b
 |0,_,_,_,_,_,_,_,_,_,_,_,_,_,h=>by cases h
 |n + 1,A,d,e,v,w,u,z,b,hu,av,o,P,ao,h=>by
  have g:A.units<Qe:=by lia
  have h0:=h;rw[i7]at h;cases hd:dZ S d with
  |some p=>
   obtain⟨au,xs⟩:=p;obtain⟨a,vs,rfl,q,t⟩:=dW av hs hd;obtain⟨k,N,co,_⟩:=eX I q;cases P;cases he:dZ S e with
   |some p2=>
    obtain⟨qb,ys⟩:=p2;obtain⟨a2,K,rfl,T,aq⟩:=dW o hs he;obtain⟨c,l,i,_⟩:=eX I T;cases ao;rw[hd,he]at h;dsimp only at h;have m:Ro A s (.ref a) (.ref a2) b->QH A s (.ref a) (.ref a2) b/\Ro A s (.ref a) (.ref a2) b:=λrc=>by
     refine⟨?_,rc⟩;by_cases ha:a=a2
     ·subst ha;rw[u3 I hs (n+1) av o h0];exact .same _
     ·exact .of_refs ha rc
    split at h
    ·rename_i Q;have U:au=qb:=Q;subst U;split at h
     ·rename_i hl;cases h;obtain⟨h1,h2⟩:=hl;subst h1;refine m (.lists_lengths co i ?_ g);have l1:=t.length;have l2:=aq.length;have l3:=N.length;have l4:=l.length
      simp only[sT1,bne_iff_ne,ne_eq];lia
     ·rename_i hl;obtain ⟨f,hf,F⟩:=wy _ h;have elts:∀ j (h1:j<k.toArray.size) (h2:j<c.toArray.size),QH A.in1 s k.toArray[j] c.toArray[j] (f j):=fun j h1 h2=>by
       have E:j<k.length:=by simpa using h1
       have L:j<c.length:=by simpa using h2
       have k1:j<vs.length:=by rw[N.length];exact E
       have k2:j<K.length:=by rw[l.length];exact L
       obtain⟨x,ex,rx⟩:=t.getV (gG1 k1);obtain⟨y,ey,ry⟩:=aq.getV (gG1 k2);obtain⟨u1,r,R⟩:=N.get (gG1 k1);obtain⟨u2,B,wq⟩:=l.get (gG1 k2);have G:k.toArray[j]=u1:=by
        rw[gG1 E]at r;simpa using r
       have W:c.toArray[j]=u2:=by
        rw[gG1 L]at B;simpa using B
       rw[G,W];exact(lj I hs n (A:=A.in1) (by show A.units+1+n<Qe;lia) rx ry R wq (hf j x y ex ey)).1
      have l1:=t.length;have l2:=aq.length;have l3:=N.length;have l4:=l.length
      cases au with
      |false=>
       refine m ?_;have:=SeqAt.RcAt.tuples co i g elts;rw[F];have G:k.toArray.size=xs.length:=by simp;lia
       have W:c.toArray.size=ys.length:=by simp;lia
       rw[G,W]at this;exact this
      |true=>
       refine m ?_;have C:xs.length=ys.length:=by
        by_cases z:xs.length=ys.length
        ·exact z
        ·exact absurd ⟨O,z⟩ hl
       have:=SeqAt.RcAt.lists co i (by simp;lia) g elts;rw[F];have G:k.toArray.size=xs.length:=by simp;lia
       rw[G]at this;rw[C,Nat.min_self,Rn,bJ,<- C];exact this
    ·rename_i Q;cases h;cases au with
     |true=>
      cases qb with
      |true=>exact absurd O Q
      |false=>exact⟨.list_tuple co i g,.list_tuple co i g⟩
     |false=>
      cases qb with
      |false=>exact absurd O Q
      |true=>exact⟨.tuple_list co i g,.tuple_list co i g⟩
   |none=>
    rw[hd,he]at h;dsimp only at h;split at h
    ·rename_i f;cases h;obtain⟨r1,r2,r3,r4⟩:=fv co ao (fQ o f).1 g;exact⟨r1,r3⟩
    ·cases h
  |none=>
   cases he:dZ S e with
   |some p2=>
    obtain⟨qb,ys⟩:=p2;obtain⟨a2,K,rfl,T,aq⟩:=dW o hs he;obtain⟨c,l,i,_⟩:=eX I T;cases ao;rw[hd,he]at h;dsimp only at h;split at h
    ·rename_i f;cases h;obtain⟨r1,r2,r3,r4⟩:=fv i P (fQ av f).1 g;exact⟨r2,r4⟩
    ·cases h
   |none=>
    rw[hd,he]at h;dsimp only at h;obtain⟨f1,f2⟩:=pq h;obtain⟨g1,g2⟩:=fQ av f1;have g3:=(fQ o f2).1;rw[g2 e w o f2]at h;cases h;exact⟨ll P ao g1 g3,EH P ao g1 g3⟩
end
noncomputable def d8:Nat:=60
def gEq:G2:=λd e S=>(i7 S d8 d e).map λb=>(.bl b,S)
theorem iX(l:X.A.units+64<Qe):gE X (P7 .Eq) (r2 X.K (b2 gEq)):=by
 intro ag s σ H x y u w Q I g f h;obtain⟨mu,S,d,e,r,k,i,r2,c,a,hc⟩:=pT h;obtain⟨b,j,a⟩:=R4 a;cases a;exact(lj I c d8 (by show _+60<Qe;lia) i r2 g f j).2 X.prog X.w X.xe _ ⟨.bl b,H,I,O,hc.now (.bl b) c⟩
section
variable{ag:List (dk×Obj)}{σ:L2.St}{H:Hp}{s:dj}{mu:List dk}{S:Sto}
theorem Fi{A:dq}{x y:V}{u w:di}(c:d3 x u)(a:d3 y w)(h:kX x=M)(g:kX y=M):SeqAt.RcNeAt A s u w (!vD x y):=by
 cases x with
 |non=>cases c;cases y with
  |non=>cases a;exact .none_none
  |bl k=>cases a;exact .none_bool k
  |int i=>obtain⟨t,rfl⟩:=a;exact .none_int i t
  |str z=>obtain⟨t,rfl⟩:=a;exact .none_str z t
  |_=>cases g
 |bl e=>cases c;cases y with
  |non=>cases a;exact .bool_none e
  |bl k=>cases a;exact .bool_bool e k
  |int i=>obtain⟨t,rfl⟩:=a;exact .bool_int e i t
  |str z=>obtain⟨t,rfl⟩:=a;exact .bool_str e z t
  |_=>cases g
 |int f=>obtain⟨b,rfl⟩:=c;cases y with
  |non=>cases a;exact .int_none f b
  |bl k=>cases a;exact .int_bool f b k
  |int i=>obtain⟨t,rfl⟩:=a;exact .int_int f b i t
  |str z=>obtain⟨t,rfl⟩:=a;exact .int_str f b z t
  |_=>cases g
 |str d=>obtain⟨b,rfl⟩:=c;cases y with
  |non=>cases a;exact .str_none d b
  |bl k=>cases a;exact .str_bool d b k
  |int i=>obtain⟨t,rfl⟩:=a;exact .str_int d b i t
  |str z=>obtain⟨t,rfl⟩:=a;exact .str_str d b z t
  |_=>cases g
 |_=>cases h
theorem ni{A:dq}{b:Bool}{a:dk}{its:Array di}{v:V}{u:di}(c:SCo b s.heap a its)(r:d3 v u)(f:kX v=M)(d:A.units<Qe):SeqAt.RcNeAt A s (.ref a) u M/\SeqAt.RcNeAt A s u (.ref a) M:=by
 cases v with
 | non => cases r;cases b
          · exact⟨.tuple_none c d,.none_tuple c d⟩
          · exact⟨.list_none c d,.none_list c d⟩
 | bl k => cases r;cases b
           · exact⟨.tuple_bool k c d,.bool_tuple k c d⟩
           · exact⟨.list_bool k c d,.bool_list k c d⟩
 | int i => obtain ⟨t,rfl⟩:=r;cases b
            · exact⟨.tuple_int i t c d,.int_tuple i t c d⟩
            · exact⟨.list_int i t c d,.int_list i t c d⟩
 | str x => obtain ⟨t,rfl⟩:=r;cases b
            · exact⟨.tuple_str x t c d,.str_tuple x t c d⟩
            · exact⟨.list_str x t c d,.str_list x t c d⟩
 |_=>cases f
theorem IQ(I:Inv X ag σ H s)(hs:Sim X.K H mu S)(n:Nat){A:dq}{d e:D}{v w:V}{u z:di}{b:Bool}(hu:A.units+n<Qe)(Q:eW X.K H mu d v)(F:eW X.K H mu e w)(U:d3 v u)(K:d3 w z)(h:i7 S n d e=Z b):SeqAt.RcNeAt A s u z (!b):=by
 cases n with
 |zero=>cases h
 |succ n=>
  have g:A.units<Qe:=by lia
  rw[i7]at h;cases hd:dZ S d with
  |some p=>
   obtain⟨W,xs⟩:=p;obtain⟨a,vs,rfl,q,t⟩:=dW Q hs hd;obtain⟨k,P,co,_⟩:=eX I q;cases U;cases he:dZ S e with
   |some p2=>
    obtain⟨qb,ys⟩:=p2;obtain⟨a2,G,rfl,N,av⟩:=dW F hs he;obtain⟨c,l,i,_⟩:=eX I N;cases K;rw[hd,he]at h;dsimp only at h;have l1:=t.length;have l2:=av.length;have l3:=P.length;have l4:=l.length
    split at h
    ·rename_i L;have R:W=qb:=L;subst R;split at h
     ·rename_i wq;cases h;obtain⟨h1,h2⟩:=wq;subst h1;refine .lists_lengths co i ?_ g;simp only[sT1,bne_iff_ne,ne_eq];lia
     ·rename_i wq;obtain ⟨f,hf,C⟩:=wy _ h;have elts:∀ j (h1:j<k.toArray.size) (h2:j<c.toArray.size),QH A.in1 s k.toArray[j] c.toArray[j] (f j):=fun j h1 h2=>by
       have B:j<k.length:=by simpa using h1
       have ao:j<c.length:=by simpa using h2
       have k1:j<vs.length:=by rw[P.length];exact B
       have k2:j<G.length:=by rw[l.length];exact ao
       obtain⟨x,ex,rx⟩:=t.getV (gG1 k1);obtain⟨y,ey,ry⟩:=av.getV (gG1 k2);obtain⟨u1,m,aq⟩:=P.get (gG1 k1);obtain⟨u2,o,au⟩:=l.get (gG1 k2);have E:k.toArray[j]=u1:=by
        rw[gG1 B]at m;simpa using m
       have T:c.toArray[j]=u2:=by
        rw[gG1 ao]at o;simpa using o
       rw[E,T];exact(lj I hs n (A:=A.in1) (by show A.units+1+n<Qe;lia) rx ry aq au (hf j x y ex ey)).1
      cases W with
      |false=>
       have:=SeqAt.RcNeAt.tuples co i g elts;rw[C];have E:k.toArray.size=xs.length:=by simp;lia
       have T:c.toArray.size=ys.length:=by simp;lia
       rw[E,T]at this;exact this
      |true=>
       have r:xs.length=ys.length:=by
        by_cases z:xs.length=ys.length
        ·exact z
        ·exact absurd ⟨O,z⟩ wq
       have:=SeqAt.RcNeAt.lists co i (by simp;lia) g elts;rw[C];have E:k.toArray.size=xs.length:=by simp;lia
       rw[E]at this;rw[r,Nat.min_self,Rn,bJ,<- r];exact this
    ·rename_i L;cases h;cases W with
     |true=>
      cases qb with
      |true=>exact absurd O L
      |false=>exact .list_tuple co i g
     |false=>
      cases qb with
      |false=>exact absurd O L
      |true=>exact .tuple_list co i g
   |none=>
    rw[hd,he]at h;dsimp only at h;split at h
    ·rename_i f;cases h;exact(ni co K (fQ F f).1 g).1
    ·cases h
  |none=>
   cases he:dZ S e with
   |some p2=>
    obtain⟨qb,ys⟩:=p2;obtain⟨a2,G,rfl,N,av⟩:=dW F hs he;obtain⟨c,l,i,_⟩:=eX I N;cases K;rw[hd,he]at h;dsimp only at h;split at h
    ·rename_i f;cases h;exact(ni i U (fQ Q f).1 g).2
    ·cases h
   |none=>
    rw[hd,he]at h;dsimp only at h;obtain⟨f1,f2⟩:=pq h;obtain⟨g1,g2⟩:=fQ Q f1;have g3:=(fQ F f2).1;rw[g2 e w F f2]at h;cases h;exact Fi U K g1 g3
end
def wm:G2:=λd e S=>(i7 S d8 d e).map λb=>(.bl (!b),S)
noncomputable def D0(f:D->D->Option Bool)(x:D):List D->Option Bool
 |[]=>Z J
 |y::ys=>(f y x).bind λb=>(D0 f x ys).map λc=>b||c
def KE:G2:=λd e S=>(dZ S e).bind λp=>(D0 (i7 S d8) d p.2).map λb=>(.bl b,S)
def mO:G2:=λd e S=>(dZ S e).bind λp=>(D0 (i7 S d8) d p.2).map λb=>(.bl (!b),S)
noncomputable def q3:D->Bool
 | .non=>M
 |_=>J
def NE:G2:=λd e S=>match e with
 | .non=>Z (.bl (q3 d),S)
 |_=>Y
def Gj:G2:=λd e S=>match e with
 | .non=>Z (.bl (!q3 d),S)
 |_=>Y
section
theorem wb(l:X.A.units+64<Qe):gE X (P7 .NotEq) (r2 X.K (b2 wm)):=by
 intro ag s σ H x y u w Q I g f h;obtain⟨mu,S,d,e,r,k,i,r2,c,a,hc⟩:=pT h;obtain⟨b,j,a⟩:=R4 a;cases a;exact IQ I c d8 (by show _+60<Qe;lia) i r2 g f j X.prog X.w X.xe _ ⟨.bl (!b),H,I,O,hc.now (.bl _) c⟩
theorem CC(f:D->D->Option Bool)(x:D):∀{ys:List D} {b:Bool},D0 f x ys=Z b -> ∃bs:List Bool,bs.length=ys.length/\(∀(j:Nat) (y:D) (k:Bool),ys[j]?=Z y->bs[j]?=Z k->f y x=Z k)/\b=bs.any id
 |[],b,h=>by cases h;exact⟨[],O,λj y k h=>by simp at h,O⟩
 |y::ys,b,h=>by
  rw[D0]at h;obtain⟨b1,i,h⟩:=R3 h;obtain⟨b2,l,h⟩:=R4 h;obtain⟨bs,g,m,a⟩:=CC f x l;refine⟨b1::bs,by simp[g],λj e k c d=>?_,?_⟩
  ·cases j with
   |zero=>simp at c d;subst c;subst d;exact i
   |succ j=>exact m j e k (by simpa using c) (by simpa using d)
  ·rw[<- h,a];simp
open Classical in
theorem Hd{ag:List (dk×Obj)}{σ:L2.St}{H:Hp}{s:dj}{mu:List dk}{S:Sto}(I:Inv X ag σ H s)(hs:Sim X.K H mu S){A:dq}(L:A.units+61<Qe){x:D}{v:V}{u:di}(t:eW X.K H mu x v)(C:d3 v u){ys:List D}{vs:List V}{a:List di}{b:Bool}(n:dX X.K H mu ys vs)(o:ed vs a)(h:D0 (i7 S d8) x ys=Z b):∃e:di->Bool,(∀w∈a,QH A.in1 s w u (e w))/\a.any e=b:=by
 obtain⟨bs,N,E,rfl⟩:=CC _ x h;have K:=n.length;have aq:=o.length;have l:∀(j:Nat) w k,a[j]?=Z w->bs[j]?=Z k->QH A.in1 s w u k:=λj w k g f=>by
  have p:j<a.length:=(R1 g).1;obtain⟨y,F,G⟩:=n.getV (i:=j) (v:=vs[j]'(by lia)) (gG1 (by lia));obtain⟨ao,r,r2⟩:=o.get (i:=j) (x:=vs[j]'(by lia)) (gG1 (by lia));rw[g]at r;cases r;exact(lj I hs d8 (A:=A.in1) (by show A.units+1+60<Qe;lia) G t r2 C (E j y k F f)).1
 refine⟨λw=>decide (∃j:Nat,a[j]?=Z w/\bs[j]?=Z M),λw g=>?_,?_⟩
 ·by_cases z:∃j:Nat,a[j]?=Z w/\bs[j]?=Z M
  ·dsimp only;rw[ah z];obtain⟨j,q,c⟩:=z;exact l j w M q c
  ·dsimp only;rw[ai z];obtain⟨j,d⟩:=bq g;have p:j<a.length:=(R1 d).1;have m:j<bs.length:=by lia
   have c:=gG1 m;cases f:bs[j]with
   |true=>rw[f]at c;exact absurd ⟨j,d,c⟩ z
   |false=>rw[f]at c;exact l j w J d c
 ·rw[bO,bP,bP];constructor
  ·rintro⟨w,g,z⟩;obtain⟨j,q,c⟩:=QX z;exact⟨M,gM1 c,O⟩
  ·rintro⟨k,f,z⟩;obtain⟨j,d⟩:=bq f;have p:j<bs.length:=(R1 d).1;have m:j<a.length:=by lia
   have B:k=M:=z;subst B;exact⟨a[j],bQ m,ah ⟨j,gG1 m,d⟩⟩
theorem Np(E:X.A.units+64<Qe):gE X (P7 .In) (r2 X.K (b2 KE)):=by
 intro ag s σ H x y u w Q I o m h;obtain⟨mu,S,d,e,r,D,p,r2,k,g,hc⟩:=pT h;obtain⟨⟨B,ys⟩,v,g⟩:=R3 g;obtain⟨b,z,g⟩:=R4 g;cases g;obtain⟨a,vs,rfl,q,t⟩:=dW r2 k v;cases m;obtain⟨c,n,co,_⟩:=eX I q;obtain⟨f,l,C⟩:=Hd I k (A:=X.A) (by lia) p o t n z;have i:EP X ag σ Q (.bool (c.toArray.any f)) s:=⟨.bl b,H,I,by rw[show c.toArray.any f=c.any f by simp,C];rfl,hc.now (.bl b) k⟩;cases B
 ·exact SeqAt.in_tupleAt f co (λy j=>l y (by simpa using j)) i
 ·exact SeqAt.in_listAt f co (λy j=>l y (by simpa using j)) i
theorem Fe(E:X.A.units+64<Qe):gE X (P7 .NotIn) (r2 X.K (b2 mO)):=by
 intro ag s σ H x y u w Q I o m h;obtain⟨mu,S,d,e,r,D,p,r2,k,g,hc⟩:=pT h;obtain⟨⟨B,ys⟩,v,g⟩:=R3 g;obtain⟨b,z,g⟩:=R4 g;cases g;obtain⟨a,vs,rfl,q,t⟩:=dW r2 k v;cases m;obtain⟨c,n,co,_⟩:=eX I q;obtain⟨f,l,C⟩:=Hd I k (A:=X.A) (by lia) p o t n z;have i:EP X ag σ Q (.bool (!c.toArray.any f)) s:=⟨.bl (!b),H,I,by rw[show c.toArray.any f=c.any f by simp,C];rfl,hc.now (.bl _) k⟩;cases B
 ·exact SeqAt.notIn_tupleAt f co (λy j=>l y (by simpa using j)) i
 ·exact SeqAt.notIn_listAt f co (λy j=>l y (by simpa using j)) i
theorem xE{K:Fg1}{H:Hp}{mu:List dk}{d:D}{v:V}(r:eW K H mu d v):q3 d=decide (v = .non):=by
 cases r<;>simp[q3]
theorem Lu:gE X (P7 .Is) (r2 X.K (b2 NE)):=by
 intro ag s σ H x y u w Q I c b h;obtain⟨mu,S,d,e,r,i,f,r2,g,a,hc⟩:=pT h;cases e with
 |non=>
  cases a;cases r2;refine IF ag s σ H _ _ u w Q I c b ⟨O,?_⟩;rw[<- xE f];exact hc.now (.bl _) g
 |_=>cases a
theorem IL:gE X (P7 .IsNot) (r2 X.K (b2 Gj)):=by
 intro ag s σ H x y u w Q I c b h;obtain⟨mu,S,d,e,r,i,f,r2,g,a,hc⟩:=pT h;cases e with
 |non=>
  cases a;cases r2;refine E8 ag s σ H _ _ u w Q I c b ⟨O,?_⟩;rw[<- xE f];exact hc.now (.bl _) g
 |_=>cases a
end
def eD:G1:=λd S=>match d with
 | .str x=>if x.length<=dy then Z (.int x.length,S)else Y
 |_=>(dZ S d).map λp=>(.int p.2.length,S)
def D2:G2:=λd e S=>match e with
 | .int i=>(dZ S d).bind λp=>(wG p.2 i).map λx=>(x,S)
 |_=>Y
def gTup:G1:=λd S=>(dZ S d).map λp=>(.tup p.2,S)
def Gi:G1:=λd S=>(dZ S d).map λp=>(.ref S.length,S++[.lst p.2])
def lh:G3:=λo i v S=>match o,i with
 | .ref n,.int k=>match S[n]? with
  |some (.lst xs)=>(zy xs.length k).map λj=>(.non,S.set n (.lst (xs.set j v)))
  |_=>Y
 |_,_=>Y
noncomputable def DA:List D->Option Bool
 |[]=>Z M
 | .bl b::r=>(DA r).map λc=>b&&c
 |_=>Y
def p8:G1:=λd S=>(dZ S d).bind λp=>(DA p.2).map λb=>(.bl b,S)
noncomputable def pf:G1:=λd S=>match d with
 | .int i=>Z (.int i,S)
 | .bl b=>Z (.int (if b then 1 else 0),S)
 |_=>Y
noncomputable def Gg:G2:=λd e S=>match d,e with
 | .int i,.int j=>Z (.int (if j>i then j else i),S)
 |_,_=>Y
noncomputable def Gf:G2:=λd e S=>match d,e with
 | .int i,.int j=>Z (.int (if j<i then j else i),S)
 |_,_=>Y
theorem eI:eR X (.builtin "len") (rN X.K (b1 eD)):=by
 intro ag s σ H xs g Q I r h;obtain⟨x,mu,S,d,l,k,rfl,f,e,c,hc⟩:=Bo h;unfold eD at c;split at c
 ·split at c
  ·rename_i z i;cases c;cases f;exact tH ag s σ H _ g Q I r ⟨_,O,i,hc.now (.int _) e⟩
  ·cases c
 ·obtain⟨⟨b,ys⟩,j,c⟩:=R4 c;cases c;obtain⟨a,vs,rfl,q,t⟩:=dW f e j;refine tI ag s σ H _ g Q I r ⟨a,vs,O,?_,?_⟩
  ·cases b
   ·exact .inr q
   ·exact .inl q
  ·rw[<- t.length];exact hc.now (.int _) e
theorem GF{K:Fg1}{H:Hp}{mu:List dk}{ds:List D}{vs:List V}{i:Int}{d:D}(t:dX K H mu ds vs)(h:wG ds i=Z d):∃v,wG vs i=Z v/\eW K H mu d v:=by
 unfold wG at h ⊢;rw[<- t.length];obtain⟨j,c,h⟩:=R3 h;obtain⟨v,a,b⟩:=t.get h;exact⟨v,by rw[c];exact a,b⟩
theorem MV:Ho X (r2 X.K (b2 D2)):=by
 intro value c ag s σ H x y v u Q I n l h g;obtain⟨mu,S,d,e,r,B,p,r2,j,f,hc⟩:=pT h;cases e with
 |int i=>
  obtain⟨⟨b,ys⟩,w,f⟩:=R3 f;obtain⟨z,A,f⟩:=R4 f;cases f;cases r2;obtain⟨a,vs,rfl,q,t⟩:=dW p j w;obtain⟨o,k,m⟩:=GF t A;cases b
  ·exact JL value c ag s σ H _ _ v u Q I n l ⟨a,vs,i,o,O,O,q,k,hc.now m j⟩ g
  ·exact F2 value c ag s σ H _ _ v u Q I n l ⟨a,vs,i,o,O,O,q,k,hc.now m j⟩ g
 |_=>cases f
theorem eP:eR X (.type "tuple") (rN X.K (b1 gTup)):=by
 intro ag s σ H xs i Q I r h;obtain⟨x,mu,S,d,m,k,rfl,g,f,c,hc⟩:=Bo h;obtain⟨⟨b,ys⟩,j,c⟩:=R4 c;cases c;obtain⟨a,vs,rfl,q,t⟩:=dW g f j;refine qc ag s σ H _ i Q I r ⟨a,vs,O,?_⟩;cases b
 ·exact .inr ⟨q,hc.now (.tup q t) f⟩
 ·exact .inl ⟨q,λl e=>hc _ _ mu (Ext.fresh e) (.tup (kA.of d9) (t.ext (Ext.fresh e))) (f.fresh e)⟩
theorem Kd:eR X (.type "list") (rN X.K (b1 Gi)):=by
 intro ag s σ H xs i Q I r h;obtain⟨x,mu,S,d,m,k,rfl,g,e,c,hc⟩:=Bo h;obtain⟨⟨b,ys⟩,j,c⟩:=R4 c;cases c;obtain⟨a,vs,rfl,q,t⟩:=dW g e j;refine tG ag s σ H _ i Q I r ⟨a,vs,O,?_,λl f=>hc _ _ (mu++[l]) (Ext.new_ f) (.ref (hK e.len l)) (e.newL t f)⟩;cases b
 ·exact .inr q
 ·exact .inl q
theorem K5:wO X (rU X.K (b3 lh)):=by
 intro ag s σ H o i v C y u Q I B w x h;obtain⟨mu,S,ds,d,D,l,f,a,hc⟩:=h;cases l with
 |cons z r=>cases r with
  |cons m q=>cases q with
   |cons p A=>
    cases A;rename_i E G F;dsimp only[b3]at a;unfold lh at a;split at a
    ·rename_i n k;split at a
     ·rename_i xs e;obtain⟨j,g,a⟩:=R4 a;cases a;cases z with
      |ref c=>
       cases m;obtain⟨vs,b,t⟩:=f.lst e c;refine Bg ag s σ H _ _ v C y u Q I B w x ⟨_,vs,k,j,O,O,b,by rw[<- t.length];exact g,?_⟩;exact hc _ mu (Ext.put b trivial (gM1 c)) (f.putL (t.set p j) c b)
     ·cases a
    ·cases a
theorem GI{K:Fg1}{H:Hp}{mu:List dk}:∀{ds:List D} {vs:List V} {a:List di} {b:Bool},dX K H mu ds vs->ed vs a->DA ds=Z b -> ∃bs:List Bool,a=bs.map Pi/\b=bs.all id:=by
 intro ds
 induction ds with
 |nil=>intro vs a b r v h;cases r;cases v;cases h;exact⟨[],O,O⟩
 |cons d ds ih=>
  intro vs a b r v h;cases r with
  |cons f t=>
   cases v with
   |cons r g=>
    cases f
    case bl k=>
     obtain⟨c,e,h⟩:=R4 h;obtain⟨bs,j,i⟩:=ih t g e;cases r;exact⟨k::bs,by rw[j];rfl,by rw[<- h,i];rfl⟩
    all_goals cases h
theorem qu(bs:List Bool):(af bs.length).all (λi=>bs.getD i M)=bs.all id:=by
 rw[bO,bA,bA];constructor
 ·intro h b c;obtain⟨i,hi,rfl⟩:=List.mem_iff_getElem.mp c;have:=h i (aC.mpr hi);simpa[bH,hi]using this
 ·intro h i hi;have a:=aC.mp hi;have:=h _ (bQ a);simpa[bH,a]using this
theorem vK{s:dj}{b:Bool}{a:dk}{bs:List Bool}(hc:X.A.handled=Y)(co:SCo b s.heap a (bs.map Pi).toArray){Q:di->dj->Prop}(all:∀h' tk,(∀c o,s.heap.get? c=Z o->h'.get? c=Z o)->Q (.bool (bs.all id)) {s with heap:=h',toks:=tk}):dz (Pt X.prog X.w) X.A (call (.builtin "all") [.ref a]) Q X.xe s:=by
 refine call_all_walk (jB co ?_);have h:a<s.heap.objs.size:=by cases b<;>(obtain⟨o,e,_⟩:=co;exact hL1 e)
 have ne:a≠s.heap.objs.size:=nN1 h;have j:TruthOf X.prog X.w X.A.in1 (λi v=>(bs.map Pi).toArray[i]?=Z v) (λi=>bs.getD i M):=λi v s' p n m g=>by
  have f:(bs.map Pi)[i]?=Z v:=by simpa using m
  rw[gP1]at f;obtain⟨k,l,rfl⟩:=R4 f;dsimp only at g;rw[bH,l]at g;exact Py g
 have keep:∀(h':dB),(∀c o,c∉[s.heap.objs.size]->(s.heap.push (gu b a)).get? c=Z o->h'.get? c=Z o) -> ∀c o,s.heap.get? c=Z o->h'.get? c=Z o:=λh' d c o e=>
  d c o (by simpa using nN1 (hL1 e)) (hP1 _ e)
 have hi:(s.heap.push (gu b a)).get? s.heap.objs.size=Z (gu b a):=hS1 _ (by cases b<;>rfl);cases b with
 |true=>
  refine⟨s.heap.objs.size,_,_,_,_,_,_,O,Walks.list (A:=X.A.in1) hc s.heap.objs.size a ne (bs.map Pi).toArray,⟨⟨_,hi,O,O⟩,SCo.to (b:=M) co λo e=>hP1 _ e⟩,j,λh' tk d=>?_⟩;have e:(bs.map Pi).toArray.size=bs.length:=by simp
  rw[e,qu];exact all h' tk (keep h' d)
 |false=>
  refine⟨s.heap.objs.size,_,_,_,_,_,_,O,Walks.tuple (A:=X.A.in1) hc s.heap.objs.size a ne (bs.map Pi).toArray,⟨⟨_,hi,O,O⟩,SCo.to (b:=J) co λo e=>hP1 _ e⟩,j,λh' tk d=>?_⟩;have e:(bs.map Pi).toArray.size=bs.length:=by simp
  rw[e,qu];exact all h' tk (keep h' d)
theorem Dn(hc:X.calm=M):eR X (.builtin "all") (rN X.K (b1 p8)):=by
 intro ag s σ H xs v Q I r h;obtain⟨x,mu,S,d,w,p,rfl,i,f,c,e⟩:=Bo h;obtain⟨⟨b,ys⟩,m,c⟩:=R3 c;obtain⟨k,n,c⟩:=R4 c;cases c;obtain⟨a,vs,rfl,q,t⟩:=dW i f m;obtain⟨u,rfl,o⟩:=iP r;cases o;obtain⟨j,g,co,_⟩:=eX I q;obtain⟨bs,rfl,rfl⟩:=GI t g n;exact vK (I.ok.hd hc) co λh' tk l=>⟨.bl _,H,I.kept l,O,e.now (.bl _) f⟩
theorem vn:eR X (.type "int") (rN X.K (b1 pf)):=by
 intro ag s σ H xs e Q I r h;obtain⟨x,mu,S,d,j,g,rfl,c,f,a,hc⟩:=Bo h;cases d with
 |int i=>cases a;cases c;exact rB ag s σ H _ e Q I r (.inl ⟨i,O,hc.now (.int _) f⟩)
 |bl b=>cases a;cases c;exact rB ag s σ H _ e Q I r (.inr ⟨b,O,hc.now (.int _) f⟩)
 |_=>cases a
theorem Me(hc:X.calm=M):eR X (.builtin "max") (rN X.K (b2 Gg)):=by
 intro ag s σ H xs f Q I r h;obtain⟨x,y,mu,S,d,e,j,i,rfl,c,r2,g,a,b⟩:=y3 h;unfold Gg at a;split at a
 ·cases a;cases c;cases r2;exact Ad hc ag s σ H _ f Q I r ⟨_,_,O,b.now (.int _) g⟩
 ·cases a
theorem Md(hc:X.calm=M):eR X (.builtin "min") (rN X.K (b2 Gf)):=by
 intro ag s σ H xs f Q I r h;obtain⟨x,y,mu,S,d,e,j,i,rfl,c,r2,g,a,b⟩:=y3 h;unfold Gf at a;split at a
 ·cases a;cases c;cases r2;exact Ac hc ag s σ H _ f Q I r ⟨_,_,O,b.now (.int _) g⟩
 ·cases a
open PySem.SeqAt
open PySem.AutoSeq1 (wpAny_loadPart')
open PySem.MeetsSeq PySem.MeetsSeq2 PySem.MeetsSeq3
def GO(A:dq)(s:dj)(y x:di)(b:Bool):Prop:=∀(prog:dn) (w:dr) (E:di->dj->Prop) (Q:di->dj->Prop),Q (.bool b) s->dz (Pt prog w) A (richCompare .Lt y x) Q E s
inductive Am (A:dq)(s:dj):List di->List di->Bool->Prop
 |nn:Am A s [] [] false
 |nc (y:di) (ys:List di):Am A s [] (y::ys) true
 |cn (x:di) (xs:List di):Am A s (x::xs) [] false
 |eq {x y:di} {xs ys:List di} {k:Bool} (e:EqAt A.in1 s x y true) (t:Am A s xs ys k):Am A s (x::xs) (y::ys) k
 |lt {x y:di} {xs ys:List di} {k:Bool} (e:EqAt A.in1 s x y false) (t:GO A.in1 s x y k):Am A s (x::xs) (y::ys) k
theorem HA(l b:dk)(items items2:Array di)(n B:Nat)(dd p:Option dk)(sl m:Array (Option di))(c:Bool):
  Meets (Builtin.«tuple.__lt__» ⟨[.ref l,.ref b],[]⟩) (fun A R s=>s.heap.get? l=some {cls:=.type "tuple",dict:=dd,data:=.seq items n,slots:=sl}/\s.heap.get? b=some {cls:=.type "tuple",dict:=p,data:=.seq items2 B,slots:=m} /\
    Am A s items.toList items2.toList c/\R (.ok (.ret (.bool c))) s):=
 .of_wp λprog w A R s h=>by
  obtain⟨v,g,d,tk,u⟩:=s;obtain⟨E,D,F,h⟩:=h;have G:=AutoSeq1.sub_tuple_tuple
  wp_walk using wpAny_loadPart' E,wpAny_loadPart' D,Rp _ (λrest b s'=>b.1=Y/\s'=⟨v,g,d,tk,u⟩ /\ ∃vs ws:List di,rest=vs.zip ws/\Am A ⟨v,g,d,tk,u⟩ vs ws c/\vs.length+items2.size=ws.length+items.size) _
  case turn=>
   rintro⟨y,x⟩ rest b s' ⟨j,rfl,vs,ws,f,o,a⟩;cases o with
   |nn=>cases f
   |nc _ _=>cases f
   |cn _ _=>cases f
   |eq e t=>
    rw[bR]at f;injection f with k i;injection k with q r;subst q r
    simp only[lC1]at a;refine wB1 (e prog w _ _ ?_)
    wp_walk
    exact⟨O,O,_,_,i,t,by lia⟩
   |lt e t=>
    rw[bR]at f;injection f with k i;injection k with q r;subst q r
    refine wB1 (e prog w _ _ ?_);have C:=t prog w
    wp_walk using C
    exact⟨_,O,by simpa using h⟩
  case fin=>
   rintro⟨b1,b2⟩ s' ⟨j,rfl,vs,ws,f,o,a⟩;simp only at j;subst j;have z:c=decide (items.size<items2.size):=by
    cases o with
    |nn=>simp only[bf]at a;exact(ai (by lia)).symm
    |nc _ _=>simp only[bf,lC1]at a;exact(ah (by lia)).symm
    |cn _ _=>simp only[bf,lC1]at a;exact(ai (by lia)).symm
    |eq _ _=>rw[bR]at f;cases f
    |lt _ _=>rw[bR]at f;cases f
   rw[z]at h
   wp_walk
   exact⟨_,O,by simpa[Builtin.Tuple.tupleCompareSizes]using h⟩
  case h=>exact⟨O,O,items.toList,items2.toList,O,F,by simp;lia⟩
theorem Cn(l b:dk)(items items2:Array di)(n E:Nat)(dd x:Option dk)(sl u:Array (Option di))(c:Bool)(k:Nat):
  ∀i:Nat,items.size-i=k->i<=items.size->i<=items2.size->Meets (Builtin.«list.__eq__.loop» ⟨[.ref l,.ref b,P1 i,P1 0],[]⟩)
   (λA R s=>s.heap.get? l=Z {cls:=.type "list",dict:=dd,data:=.seq items n,slots:=sl}/\s.heap.get? b=Z {cls:=.type "list",dict:=x,data:=.seq items2 E,slots:=u} /\
    Am A s (items.toList.drop i) (items2.toList.drop i) c/\R (.ok (.ret (.bool c))) s):=by
 induction k with
 |zero=>
  intro i I z r prog w A R s h;obtain⟨F,g,d,tk,C⟩:=s;obtain⟨m,f,a,h⟩:=h
  wp_walk using wpAny_loadPart' m,wpAny_loadPart' f
  have o:items[((i:Nat):Int).toNat]?=Y:=by simp;lia
  have v:items.toList.drop i=[]:=by simp;lia
  rw[v]at a;rw[o]
  wp_walk using wpAny_loadPart' m,wpAny_loadPart' f
  have D:c=decide (items.size<items2.size):=by
   cases h2:items2.toList.drop i with
   |nil=>
    rw[h2]at a;cases a;have:=congrArg List.length h2;simp at this;exact(ai (by lia)).symm
   |cons y ys=>
    rw[h2]at a;cases a;have:=congrArg List.length h2;simp at this;exact(ah (by lia)).symm
  show R (.ok (.ret (.bool (decide (items.size<items2.size))))) _;rw[<- D];exact h
 |succ k ih=>
  intro i I z r prog w A R s h;obtain⟨F,g,d,tk,C⟩:=s;obtain⟨m,f,a,h⟩:=h;have p:i<items.size:=by lia
  have v:items.toList.drop i=items[i]::items.toList.drop (i+1):=by simp[List.drop_eq_getElem_cons,p]
  have o:items[((i:Nat):Int).toNat]?=Z items[i]:=by simp[p]
  have hc:((i:Int)+1)=((i+1:Nat):Int):=by push_cast;rfl
  rw[v]at a;rcases bS i items2.size with j|H
  ·have B:items2.toList.drop i=items2[i]::items2.toList.drop (i+1):=by simp[List.drop_eq_getElem_cons,j]
   have q:items2[((i:Nat):Int).toNat]?=Z items2[i]:=by simp[j]
   rw[B]at a
   wp_walk using wpAny_loadPart' m,wpAny_loadPart' f
   rw[o,q];cases a with
   |eq e t=>
    refine wB1 (e prog w _ _ ?_)
    wp_walk
    rw[hc];exact⟨Rq plain_eq_loop _,wD1 entry_eq_loop (by rw[Rr plain_eq_loop _];exact ih (i+1) (by lia) (by lia) (by lia) prog w A R _ ⟨m,f,t,h⟩)⟩
   |lt e t=>
    refine wB1 (e prog w _ _ ?_);have G:=t prog w
    wp_walk using wpAny_loadPart' m,wpAny_loadPart' f
    rw[o,q]
    wp_walk using G
    simpa using h
  ·have q:items2[((i:Nat):Int).toNat]?=Y:=by simp;lia
   have B:items2.toList.drop i=[]:=by simp;lia
   rw[B]at a;cases a
   wp_walk using wpAny_loadPart' m,wpAny_loadPart' f
   rw[o,q]
   wp_walk using wpAny_loadPart' m,wpAny_loadPart' f
   show R (.ok (.ret (.bool (decide (items.size<items2.size))))) _;rw[ai (by lia)];exact h
theorem Jy(l b:dk)(items items2:Array di)(n f:Nat)(dd a:Option dk)(sl e:Array (Option di))(c:Bool):
  Meets (Builtin.«list.__lt__» ⟨[.ref l,.ref b],[]⟩) (fun A R s=>s.heap.get? l=some {cls:=.type "list",dict:=dd,data:=.seq items n,slots:=sl}/\s.heap.get? b=some {cls:=.type "list",dict:=a,data:=.seq items2 f,slots:=e} /\
    Am A s items.toList items2.toList c/\R (.ok (.ret (.bool c))) s):=by
 intro prog w A R s h;obtain⟨p,g,d,tk,m⟩:=s;obtain⟨j,i,k,h⟩:=h;have o:=AutoSeq1.sub_list_list
 wp_walk using wpAny_loadPart' j,wpAny_loadPart' i
 exact⟨Rq plain_eq_loop _,wD1 entry_eq_loop (by rw[Rr plain_eq_loop _];exact Cn l b items items2 n f dd a sl e c _ 0 O (bi _) (bi _) prog w A R _ ⟨j,i,by simpa using k,h⟩)⟩
theorem HR{A:dq}{s:dj}{k:Bool}{l b:dk}{xs ys:Array di}{c:Bool}(B:SCo k s.heap l xs)(y:SCo k s.heap b ys)(z:A.units<Qe)(h:Am A s xs.toList ys.toList c):GO A s (.ref l) (.ref b) c:=λprog w E Q q=>by
 cases k
 ·obtain⟨⟨v,t,m,r⟩,o,hc,n,j⟩:=id B;obtain⟨⟨p,i,g,f⟩,e,d,u,a⟩:=id y;simp only at hc j d a;subst hc j d a;exact richCompare_meets_room (op:=.Lt) ⟨_,o,O⟩ ⟨_,e,O⟩ PySem.F.slot_tuple_lt PySem.F.entry_tuple_lt (PySem.F.args_tuple_lt_2 _ _) (HA l b xs ys n u t i r f c) ⟨o,e,h,show Pi c≠Value.notImplemented/\Q (.bool c) s from⟨(λx=>nomatch x),q⟩⟩ z
 ·obtain⟨⟨v,t,m,r⟩,o,hc,n,j⟩:=id B;obtain⟨⟨p,i,g,f⟩,e,d,u,a⟩:=id y;simp only at hc j d a;subst hc j d a;exact richCompare_meets_room (op:=.Lt) ⟨_,o,O⟩ ⟨_,e,O⟩ PySem.F.slot_list_lt PySem.F.entry_list_lt (PySem.F.args_list_lt_2 _ _) (Jy l b xs ys n u t i r f c) ⟨o,e,h,show Pi c≠Value.notImplemented/\Q (.bool c) s from⟨(λx=>nomatch x),q⟩⟩ z
noncomputable def LI(f g:D->D->Option Bool):List D->List D->Option Bool
 |[],[]=>Z J
 |[],_::_=>Z M
 |_::_,[]=>Z J
 |x::xs,y::ys=>(f x y).bind λb=>if b=M then LI f g xs ys else g x y
noncomputable def Nt:D->D->Option Bool
 | .int i,.int j=>Z (decide (i<j))
 | .str x,.str y=>Z (decide (x.cps.toList<y.cps.toList))
 |_,_=>Y
def G8(S:Sto):Nat->D->D->Option Bool
 |0,_,_=>Y
 |n+1,d,e=>match Nt d e with
  |some b=>Z b
  |none=>match dZ S d,dZ S e with
   |some p,Z q=>if p.1=q.1 then LI (i7 S n) (G8 S n) p.2 q.2 else Y
   |_,_=>Y
def gLt:G2:=λd e S=>(G8 S d8 d e).map λb=>(.bl b,S)
section
variable{ag:List (dk×Obj)}{σ:L2.St}{H:Hp}{s:dj}{mu:List dk}{S:Sto}
theorem Jx(I:Inv X ag σ H s)(hs:Sim X.K H mu S){n:Nat}{A:dq}(p:A.units+1+n<Qe)(ih:∀ {d e:D} {v w:V} {u z:di} {b:Bool},eW X.K H mu d v->eW X.K H mu e w->d3 v u->d3 w z->G8 S n d e=some b->GO A.in1 s u z b):
  ∀{xs ys:List D} {vs ws:List V} {f zs:List di} {b:Bool},dX X.K H mu xs vs->dX X.K H mu ys ws->ed vs f->ed ws zs->LI (i7 S n) (G8 S n) xs ys=Z b->Am A s f zs b
 :=by
 intro xs
 induction xs with
 |nil=>
  intro ys vs ws f zs b a r2 g c h;cases a;cases g;cases r2 with
  |nil=>cases c;cases h;exact .nn
  |cons _ _=>cases c;cases h;exact .nc _ _
 |cons x xs l=>
  intro ys vs ws f zs b a r2 g c h;cases a with
  |cons a r=>
   cases g with
   |cons i m=>
    cases r2 with
    |nil=>cases c;cases h;exact .cn _ _
    |cons r2 q=>
     cases c with
     |cons j p2=>
      rw[LI]at h;obtain⟨k,o,h⟩:=R3 h;have eq:=(lj I hs n (A:=A.in1) p a r2 i j o).1;cases k with
      |true=>exact .eq eq (l r q m p2 h)
      |false=>exact .lt eq (ih a r2 i j h)
theorem Cm(I:Inv X ag σ H s)(hs:Sim X.K H mu S):∀(n:Nat) {A:dq} {d e:D} {v w:V} {u z:di} {b:Bool},A.units+n<Qe->eW X.K H mu d v->eW X.K H mu e w->d3 v u->d3 w z->G8 S n d e=Z b->GO A s u z b
 |0,_,_,_,_,_,_,_,_,_,_,_,_,_,h=>by cases h
 |n + 1,A,d,e,v,w,u,z,b,U,i,r,m,l,h=>by
  rw[G8]at h;split at h
  ·rename_i k c;cases h;unfold Nt at c;split at c
   ·cases c;cases i;cases r;obtain⟨t,rfl⟩:=m;obtain⟨f,rfl⟩:=l;exact λprog w E Q q=>(PyProof.Rows.lt_int q:dz (Pt prog w) A (P7 .Lt (.int _ t) (.int _ f)) Q E s)
   ·cases c;cases i;cases r;obtain⟨t,rfl⟩:=m;obtain⟨f,rfl⟩:=l;exact λprog w E Q q=>(PyProof.Rows.lt_str q:dz (Pt prog w) A (P7 .Lt (.str _ t) (.str _ f)) Q E s)
   ·cases c
  ·split at h
   ·rename_i p q y L;split at h
    ·rename_i N;obtain⟨aq,xs⟩:=p;obtain⟨qb,ys⟩:=q;have j:aq=qb:=N;subst j;obtain⟨a,vs,rfl,K,G⟩:=dW i hs y;obtain⟨a2,T,rfl,B,C⟩:=dW r hs L;cases m;cases l;obtain⟨R,ao,co,_⟩:=eX I K;obtain⟨x,g,o,_⟩:=eX I B;refine HR co o (by lia) ?_;have:=Jx I hs (A:=A) (n:=n) (by lia) (λP r2 av F h=>Cm I hs n (A:=A.in1) (by show A.units+1+n<Qe;lia) P r2 av F h) G C ao g h;simpa using this
    ·cases h
   ·cases h
theorem kQ(l:X.A.units+64<Qe):gE X (P7 .Lt) (r2 X.K (b2 gLt)):=by
 intro ag s σ H x y u w Q I g f h;obtain⟨mu,S,d,e,r,k,i,r2,c,a,hc⟩:=pT h;obtain⟨b,j,a⟩:=R4 a;cases a;exact Cm I c d8 (by show _+60<Qe;lia) i r2 g f j X.prog X.w X.xe _ ⟨.bl b,H,I,O,hc.now (.bl b) c⟩
end
inductive Ty where
 |int|bool|str|tuple|list|dict
 deriving DecidableEq
noncomputable def Ty.nm:Ty->String
 | .int=>"int" | .bool=>"bool" | .str=>"str" | .tuple=>"tuple" | .list=>"list" | .dict=>"dict"
noncomputable def uN (S:Sto)(T:Ty):D->Option Bool
 | .non=>some false
 | .bl _=>some (decide (T = .bool)||decide (T = .int))
 | .int _=>some (decide (T = .int))
 | .str _=>some (decide (T = .str))
 | .tup _=>some (decide (T = .tuple))
 | .rol _=>some (decide (T = .list))
 | .ref n=>match S[n]? with
  |some (.lst _)=>some (decide (T = .list))
  |some (.dct _)=>some (decide (T = .dict))
  |some (.dcT _)=>some (decide (T = .dict))
  |_=>none
 | .fn _=>none
def sO(T:Ty)(m:FE):FE:=λr S=>(m r S).bind λp=>(uN p.2 T p.1).map λb=>(.bl b,p.2)
section
variable{ag:List (dk×Obj)}{σ:L2.St}{H:Hp}{s:dj}{mu:List dk}{S:Sto}{K:Fg1}
theorem FY(T:Ty):Qb K (.type "NoneType") (.type T.nm)=Z J:=by cases T<;>rfl
theorem JE(T:Ty):Qb K (.type "bool") (.type T.nm)=Z (decide (T = .bool)||decide (T = .int)):=by cases T<;>rfl
theorem F0(T:Ty):Qb K (.type "int") (.type T.nm)=Z (decide (T = .int)):=by cases T<;>rfl
theorem FX(T:Ty):Qb K (.type "str") (.type T.nm)=Z (decide (T = .str)):=by cases T<;>rfl
theorem FW(T:Ty):Qb K (.type "tuple") (.type T.nm)=Z (decide (T = .tuple)):=by cases T<;>rfl
theorem FZ(T:Ty):Qb K (.type "list") (.type T.nm)=Z (decide (T = .list)):=by cases T<;>rfl
theorem xS(T:Ty):Qb K (.type "dict") (.type T.nm)=Z (decide (T = .dict)):=by cases T<;>rfl
theorem F6{T:Ty}{d:D}{v:V}{u:di}{b:Bool}{Q:di->dj->Prop}{E:di->dj->Prop}(I:Inv X ag σ H s)(hs:Sim X.K H mu S)(r:eW X.K H mu d v)(f:d3 v u)(h:uN S T d=some b)(q:∀ tk,Q (.bool b) {s with toks:=tk}):
  dz (Pt X.prog X.w) X.A (call (.builtin "isinstance") [u,.type T.nm]) Q E s:=by
 have g:∀{k:Bool} {a:dk} {vs:List V},tO X.K k H a vs->b=(match k with|true=>decide (T = .list)|false=>decide (T = .tuple))->dz (Pt X.prog X.w) X.A (call (.builtin "isinstance") [.ref a,.type T.nm]) Q E s:=λ{k a vs} j p=>by
  obtain⟨A,B,co,_⟩:=eX I j;cases k
  ·obtain⟨o,e,c,_⟩:=co;subst p;exact Qc PySem.W.kitx_tuple I.kIn ⟨o,e,c⟩ (FW T) (λz=>nomatch z) q
  ·obtain⟨o,e,c,_⟩:=co;subst p;exact Qc PySem.W.kitx_list I.kIn ⟨o,e,c⟩ (FZ T) (λz=>nomatch z) q
 cases d with
 |non=>cases h;cases r;exact i4 I f .non (FY T) q
 |bl k=>cases h;cases r;exact i4 I f (.bl k) (JE T) q
 |int i=>cases h;cases r;exact i4 I f (.int i) (F0 T) q
 |str x=>cases h;cases r;exact i4 I f (.str x) (FX T) q
 |tup xs=>
  cases h;obtain⟨a,vs,rfl,j,t⟩:=dW (S:=S) r hs O;cases f;exact g j O
 |fn x=>cases h
 |rol xs=>
  cases h;obtain⟨a,vs,rfl,j,t⟩:=dW (S:=S) r hs O;cases f;exact g j O
 |ref n=>
  rw[uN]at h;split at h
  ·rename_i xs e;cases h;obtain⟨a,vs,rfl,j,t⟩:=dW (S:=S) r hs (by rw[dZ,e]);cases f;exact g j O
  ·rename_i ks e;cases h;cases r with
   |ref m=>
    obtain⟨ws,l,_⟩:=hs.dct e m;exact i4 I f (.dK l) (xS T) q
  ·rename_i ks e;cases h;cases r with
   | @ref _ a m=>
    cases(show u=Pj a from f);obtain⟨ws,l,_⟩:=hs.dcT e m;obtain⟨⟨_,_,o,_,_,w,y,_⟩,_⟩:=(show eQ X.prog X.w H s.heap a (.ext (j4 a ws))from I.hok a _ l);exact Qc PySem.W.kitx_dict I.kIn ⟨o,w,y.1⟩ (xS T) (λz=>nomatch z) q
  ·cases h
theorem Dm(T:Ty):eR X (.builtin "isinstance") (λxs H Q=>∃x mu S d b,xs=[x,.ty T.nm]/\eW X.K H mu d x/\Sim X.K H mu S/\uN S T d=Z b/\Q (.bl b) H):=by
 intro ag s σ H xs g Q I r h;obtain⟨x,mu,S,d,b,rfl,c,e,a,hc⟩:=h;obtain⟨u,i,rfl,f,rt⟩:=AD r;cases rt;exact F6 I e c f a λtk=>⟨.bl b,H,I.tok tk,O,hc⟩
theorem zo (T:Ty){e:Expr}{m:FE}{nm:Str}{p p2 pos:Pos}(hg:Gl X "isinstance")(hm:X.mg "isinstance"=none)(hg2:Gl X nm)(hm2:X.mg nm=none)(hv2:Po nm=some (.type T.nm))(h:ME X e m)
  (hn:autoParam (nm≠"__name__") bu0) (hd:autoParam ((nm == ("__debug__":Str))=J) bu0)
  (hs1:autoParam (dw [e,.Name nm p2] X.env=(J,eval e X.env)::dw [.Name nm p2] X.env) cu0) (hs2:autoParam (dw [.Name nm p2] X.env=(J,eval (.Name nm p2) X.env)::dw [] X.env) cu0)
  (hpl:autoParam ((Pu pos (dw [.Name nm p2] X.env)).any (·.1)=J) cu0):ME X (.Call (.Name "isinstance" p) [e,.Name nm p2] [] pos) (sO T m):=
 eM (lJ (Dm T) hg hm (by decide+kernel) (iD h (iD (E6 (v:=.ty T.nm) hg2 hm2 hv2 O hn hd) lg hs2) hs1) (by decide) (by decide) hs1 hpl) <| by
  rintro σ H Q ⟨r,mu,S,d,n,g,k,hm,hc⟩;obtain⟨⟨a,o⟩,i,hm⟩:=R3 hm;obtain⟨b,j,hm⟩:=R4 hm;cases hm;refine⟨r,mu,S,a,_,g,k,i,λv H1 mu1 l f c=>?_⟩;exact⟨v,mu1,_,a,b,O,f,c,j,hc _ H1 mu1 l (.bl b) c⟩
end
abbrev FO:=Ev->Sto->Option (Option Int×Sto)
noncomputable def Ou(K:Fg1)(m:FO):TO:=fun σ H Q=>∃r mu S o S',fI K H mu r σ/\Sim K H mu S/\m r S=Z (o,S') /\ ∀H' mu',Ext mu mu' H H'->Sim K H' mu' S'->Q o H'
abbrev MO(X:Cx)(e:Option Expr)(m:FO):Prop:=PO X e (Ou X.K m)
noncomputable def iY:FO:=λ_ S=>Z (Y,S)
noncomputable def jm(m:FE):FO:=λr S=>(m r S).bind λp=>match p.1 with
 | .int i=>Z (Z i,p.2)
 |_=>Y
def l8(xs:List D)(lo hi:Option Int):List D:=(xs.drop (HT.sIx xs.length 0 lo)).take (HT.sIx xs.length xs.length hi-HT.sIx xs.length 0 lo)
theorem Fs:MO X Y iY:=by
 rintro ag s σ H Q I ⟨r,mu,S,o,c,d,b,a,hc⟩;cases a;exact ET ag s σ H Q I (hc H mu (.refl _ _) b)
theorem Fq{e:Expr}{m:FE}(h:ME X e m):MO X (Z e) (jm m):=by
 rintro ag s σ H Q I ⟨r,mu,S,o,l,c,g,a,hc⟩;obtain⟨⟨d,n⟩,f,a⟩:=R3 a;cases d with
 |int i=>
  cases a;refine ES h ag s σ H Q I ⟨r,mu,S,_,_,c,g,f,λv H1 mu1 k b j=>?_⟩;cases b;exact⟨i,O,hc H1 mu1 k j⟩
 |_=>cases a
theorem yo{K:Fg1}{H:Hp}{mu:List dk}{ds:List D}{vs:List V}(t:dX K H mu ds vs)(lo hi:Option Int):dX K H mu (l8 ds lo hi) (vc vs lo hi):=by
 unfold l8 vc;rw[<- t.length];exact(t.drop _).take _
def KP(ta:TA):TE:=fun σ H Q=>ta σ H λvs H1=>∃j:Int,vs=[.int j] /\ ∀p,H1 p=Y->Q (.ref p) (upd H1 p (.rng 0 j))
theorem zf {a:Expr}{ta:TA}{p pos:Pos}(hg:Gl X "range")(hm:X.mg "range"=Y)(ha:PA X [a] ta)(hs:autoParam (dw [a] X.env=[(J,eval a X.env)]) cu0):PE X (.Call (.Name "range" p) [a] [] pos) (KP ta):=by
 intro ag s σ H Q I h;refine Call_ (jN I hg hm boot_range (P4 (fh (ha pos ag s σ H _ I h) λk i ⟨vs,H1,c,g,d⟩=>?_) hs O));obtain⟨j,e,q⟩:=d;subst e;cases g with
 |cons r f=>
  cases f;obtain⟨t,rfl⟩:=r;refine call_range_1 ⟨.ref i.heap.objs.size,_,c.laid (λb o e=>hP1 _ e) (nR1 _) (o:=.rng 0 j) ?_,O,q _ (c.hok.fresh (nR1 _))⟩;exact⟨_,_,_,hS1 _ O⟩
noncomputable def nA(i:Int):Nat->List V
 |0=>[]
 |n+1=>.int i::nA (i+1) n
theorem oB:∀(n:Nat) (i:Int),(nA i n).length=n
 |0,_=>rfl
 |n+1,i=>by rw[nA,lC1,oB n]
theorem ue:∀(n:Nat) (i:Int) (k:Nat) (v:V),(nA i n)[k]?=Z v->v = .int (i+k)
 |0,i,k,v,h=>by simp[nA]at h
 |n+1,i,0,v,h=>by simp[nA]at h;rw[<- h];simp
 |n+1,i,k+1,v,h=>by
  rw[nA,gC1]at h;rw[ue n (i+1) k v h,show i+1+(k:Int)=i+((k+1:Nat):Int) by push_cast;lia]
theorem ud{K:Fg1}{H:Hp}{mu:List dk}:∀(n:Nat) (i:Int),dX K H mu (fX i n) (nA i n)
 |0,_=>.nil
 |n+1,i=>.cons (.int i) (ud n (i+1))
theorem w4:∀{xs:List V} {a:List di},xs.length=a.length->(∀(i:Nat) x u,xs[i]?=Z x->a[i]?=Z u->d3 x u)->ed xs a
 |[],[],_,_=>.nil
 |x::xs,u::a,h,f=>.cons (f 0 x u O O) (w4 (by simpa using h) λi y w h1 h2=>f (i+1) y w (by simpa using h1) (by simpa using h2))
 |[],_::_,h,_=>by simp at h
 |_::_,[],h,_=>by simp at h
theorem Gy(hc:X.calm=M):eR X (.type "list") (λxs H Q=>∃p i j,xs=[.ref p]/\H p=Z (.rng i j)/\(-(2^62)<=i/\i<2^62 /\ -(2^62)<=j/\j<2^62)/\(j-i).toNat<=2^20 /\ ∀l,H l=Y->Q (.ref l) (upd H l (.lst (nA i (j-i).toNat)))):=by
 intro ag s σ H xs F Q I r h;obtain⟨p,i,j,rfl,z,⟨h1,h2,g,m⟩,f,q⟩:=h;obtain⟨u,rfl,A⟩:=iP r;cases A;obtain⟨t,u,v,e⟩:=I.hok p _ z;have B:(((j-i).toNat:Nat):Int)=Builtin.Range.rangeSize i j 1:=by rw[rangeSize_one];split<;>lia
 refine call_list_range (n:=(j-i).toNat) (I.ok.hd hc) e (small_one h1 h2 g m) B.symm (aD f (by decide)) λh' tk b D w o hi=>?_;obtain⟨d,c⟩:=hi;have a:ed (nA i (j-i).toNat) b.toList:=w4 (by rw[oB];simpa using d.symm) λk x u C y=>by
  rw[ue _ _ _ _ C];obtain⟨E,rfl⟩:=c k u (by simpa using y);exact⟨E,by rw[Int.mul_one]⟩
 refine⟨.ref s.heap.objs.size,_,I.laid (t':=tk) w (nR1 _) (show eQ X.prog X.w _ h' _ (.lst (nA i (j-i).toNat))from⟨?_,b.toList,D,a,by simpa using o⟩),O,q _ (I.hok.fresh (nR1 _))⟩;rw[oB];exact aD f (by decide)
noncomputable def ug(i j:Int):Bool:=decide (-(2^62)<=i)&&decide (i<2^62)&&decide (-(2^62)<=j)&&decide (j<2^62)&&decide ((j-i).toNat<=2^20)
def zr(m:FA):FE:=λr S=>(m r S).bind λp=>match p.1 with
 |[.int j]=>if ug 0 j=M then Z (.ref p.2.length,p.2++[.lst (fX 0 j.toNat)])else Y
 |_=>Y
theorem uf{i j:Int}(h:ug i j=M):(-(2^62)<=i/\i<2^62 /\ -(2^62)<=j/\j<2^62)/\(j-i).toNat<=2^20:=by
 unfold ug at h;simp only[bA1,am]at h;obtain⟨⟨⟨⟨h1,h2⟩,b⟩,a⟩,c⟩:=h;exact⟨⟨h1,h2,b,a⟩,c⟩
theorem Jz{K:Fg1}{mu:List dk}{H H1:Hp}{S1:Sto}{i j:Int}{Q:VK}{mu1:List dk}(c:Ext mu mu1 H H1)(b:Sim K H1 mu1 S1)(hc:tR K mu H (.ref S1.length) (S1++[.lst (fX i (j-i).toNat)]) Q){p l:dk}(hp:H1 p=none)(a:upd H1 p (.rng i j) l=none):
  Q (.ref l) (upd (upd H1 p (.rng i j)) l (.lst (nA i (j-i).toNat))):=
 hc _ _ (mu1++[l]) ((c.trans (Ext.fresh hp)).trans (Ext.new_ a)) (.ref (hK b.len l)) ((b.fresh hp).newL (ud _ _) a)
theorem zn {a:Expr}{m:FA}{e p2 b c:Pos}(hc:X.calm=true)(hg:Gl X "range")(hm:X.mg "range"=none)(hg2:Gl X "list")(hm2:X.mg "list"=none)(ha:MA X [a] m)(hs:autoParam (dw [a] X.env=[(false,eval a X.env)]) cu0)
  (hs2:autoParam (dw [.Call (.Name "range" e) [a] [] b] X.env=[(J,eval (.Call (.Name "range" e) [a] [] b) X.env)]) cu0):ME X (.Call (.Name "list" p2) [.Call (.Name "range" e) [a] [] b] [] c) (zr m):=
 eM (ke (Gy hc) hg2 hm2 (by decide+kernel) (iD (zf hg hm ha hs) lg hs2) (by decide) (by decide) hs2) <| by
  rintro σ H Q ⟨r,mu,S,d,u,k,hs,hm,f⟩;obtain⟨⟨ds,w⟩,o,hm⟩:=R3 hm;dsimp only at hm;split at hm
  ·rename_i j;split at hm
   ·rename_i g;cases hm;refine⟨r,mu,S,_,_,k,hs,o,λvs H1 mu1 t i s=>?_⟩;obtain⟨v,rfl,h⟩:=oC i;cases h;refine⟨j,O,λp q=>⟨p,0,j,O,d9,(uf g).1,(uf g).2,λl n=>Jz t s (by rw[Int.sub_zero];exact f) q n⟩⟩
   ·cases hm
  ·cases hm
noncomputable def iJ:G2:=λo v S=>match o with
 | .ref n=>match S[n]? with
  |some (.lst xs)=>if xs.length<dy then Z (.non,S.set n (.lst (xs++[v])))else Y
  |_=>Y
 |_=>Y
def zJ:G2:=λo i S=>match o,i with
 | .ref n,.int k=>match S[n]? with
  |some (.lst xs)=>if-(2^63)<=k/\k<2^63 then(zy xs.length k).bind λj=>(xs[j]?).map λy=>(y,S.set n (.lst (xs.eraseIdx j)))else Y
  |_=>Y
 |_,_=>Y
noncomputable def oS (f:FN)(o:FE)(a:FA):FE:=λr S=>(o r S).bind λp=>match p.1 with
 | .ref n=>match p.2[n]? with
  |some (.lst _)=>(a r p.2).bind λq=>f (p.1::q.1) q.2
  |_=>none
 |_=>none
theorem KN:DV X "list.append" (λx xs H Q=>rN X.K (b2 iJ) (x::xs) H Q):=by
 intro ag s σ H x xs v k Q I i g h;obtain⟨q,y,mu,S,d,e,r,p,o,j,r2,f,a,hc⟩:=y3 h;cases o;cases d with
 |ref n=>
  rw[iJ]at a;split at a
  ·rename_i ys l;split at a
   ·rename_i m;cases a;cases j with
    |ref c=>
     obtain⟨vs,b,t⟩:=f.lst l c;refine qB ag s σ H _ [y] v k Q I i g ⟨_,vs,y,O,O,b,by rw[<- t.length];exact m,?_⟩;exact hc _ _ mu (Ext.put b trivial (gM1 c)) .non (f.putL (t.append (.cons r2 .nil)) c b)
   ·cases a
  ·cases a
 |_=>cases a
theorem GV:DV X "list.pop" (λx xs H Q=>rN X.K (b2 zJ) (x::xs) H Q):=by
 intro ag s σ H x xs v r Q I o m h;obtain⟨E,y,mu,S,d,e,F,D,B,q,r2,g,a,hc⟩:=y3 h;cases B;unfold zJ at a;split at a
 ·rename_i n k;split at a
  ·rename_i ys A;split at a
   ·rename_i i;obtain⟨j,l,a⟩:=R3 a;obtain⟨z,p,a⟩:=R4 a;cases a;cases q with
    |ref c=>
     cases r2;obtain⟨vs,b,t⟩:=g.lst A c;obtain⟨w,C,f⟩:=t.get p;refine B6 ag s σ H _ [.int k] v r Q I o m ⟨_,vs,k,j,w,O,O,b,i.1,i.2,?_,C,?_⟩
     ·rw[<- t.length];exact(sT l).1
     ·have x:=Ext.put (u:=.lst (vs.eraseIdx j)) b trivial (gM1 c);exact hc _ _ mu x (f.ext x) (g.putL (t.eraseIdx j) c b)
   ·cases a
  ·cases a
 ·cases a
theorem Ce {o e:Expr}{es:List Expr}{m:FE}{a:FA}{f:FN}{name:Str}{apos cpos:Pos}{id:String}(slot:Slot "list" name id)(hty:typeOf (.builtin id)=pure (.type "method_descriptor"))(hm:DV X id (fun x xs H Q=>rN X.K f (x::xs) H Q))(ho:ME X o m)(ha:MA X (e::es) a)
  (hbase:autoParam (QI o name X.env (eval o X.env)=eval o X.env) cu0)
  (hfew:autoParam (((Pu cpos (dw (e::es) X.env)).all (λx=> !x.1)&&(QJ cpos (QK [] X.env)).all (λx=>x.1.isSome)&&decide ((e::es).length+([]:List Qi).length+(if([]:List Qi).isEmpty then 0 else 1)<30))=M) cu0)
  (hline:autoParam ((apos.endLine == cpos.line)=M) cu0) (hs:autoParam (dw (e::es) X.env=(J,eval e X.env)::dw es X.env) cu0) (hplain:autoParam ((Pu cpos (dw es X.env)).any (·.1)=J) cu0):
  ME X (.Call (.Attribute o name apos) (e::es) [] cpos) (oS f m a):=
 eM (Ln PySem.F.plainAttrs_list slot hty hm ho ha hbase hfew hline hs hplain) <| by
  rintro σ H Q ⟨r,mu,S,d,s,k,hs,hm,hc⟩;obtain⟨⟨i,j⟩,B,hm⟩:=R3 hm;refine⟨r,mu,S,i,j,k,hs,B,λv H1 mu1 l q h=>?_⟩;cases i with
  |ref n=>
   dsimp only at hm;split at hm
   ·rename_i xs A;obtain⟨⟨ds,g⟩,C,hm⟩:=R3 hm;refine⟨?_,r,mu1,j,ds,g,k.ext l,h,C,λvs H2 b p r2 u=>?_⟩
    ·cases q with
     |ref E=>
      obtain⟨vs,y,t⟩:=h.lst A E;exact .inl ⟨O,vs,mU.of y⟩
    ·exact⟨b,g,.ref n::ds,d,s,.cons (q.ext p) r2,u,hm,λw D c z=>hc w D c ((l.trans p).trans z)⟩
   ·cases hm
  |_=>cases hm
theorem xu{X:Cx}(hc:X.calm=true){elt tg iter:Expr}{ifs:List Expr}{rest:List Comprehension}{scope:dF}{pos l P:Pos}{y:Str}{i:Nat}{T:List Str}{keep:List Nat}{n:List (Str×dk)}{wi:TI}{g:TG}{ti:TT}{tb:dk->TS}{emit:di->Env->Sem Unit}(V:PC (.ListComp elt (⟨tg,iter,ifs,0⟩::rest) scope pos) (some (.Name y P)) l.line X.env=pure true)(eq:∀it t j,Q0 (.ListComp elt (⟨tg,iter,ifs,0⟩::rest) scope pos) 0 it t j=ly iter.pos tg ifs it j (emit t j) (.compLoop (.ListComp elt (⟨tg,iter,ifs,0⟩::rest) scope pos) 0 it t j))(C:KH X scope T keep)(K:jS X.env.cells scope.names []=some n)(hi:PI X tg iter wi)(hb:∀s H fp p,PG (cxC X scope n T keep s H fp) tg g/\pO (cxC X scope n T keep s H fp) ifs ti/\PU (cxC X scope n T keep s H fp) (emit (.ref p) (cxC X scope n T keep s H fp).env) (tb p))(hN:X.N.Nodup)(hy:X.N[i]?=some y)(hx:vy X.env.scope y)(hf:X.fn y=true\/X.env.scope.names.lookup y=some .local)(hs:autoParam (∀x,P5 iter X.env x=pure x) du0):
  PS X (.Assign [.Name y P] (.ListComp elt (⟨tg,iter,ifs,0⟩::rest) scope pos) l) (AY (AW T.length keep wi g ti tb) (ya i)):=by
 intro ag s σ H D I h;rw[exec_Assign_Name_used _ _ _ _ V];refine wB1 (PN (wB1 ?_));show dz _ X.A (do let _<-comprehension (.ListComp elt (⟨tg,iter,ifs,0⟩::rest) scope pos) scope X.env _ (newList []) J (eval iter X.env) (Z (PD (.Name y P) X.env))) _ _ s;refine wB1 (Pv (wpAny_comprehension_free (use:=Z (PD (.Name y P) X.env)) (Q:=λ_ s'=>SP X ag D .next s') O hs (Df K) C.kind C.names ?_) (λ_ s' hq=>wP1 (wP1 hq)) λ_ _ e=>e);refine fh (hi ag s σ H _ I h) λv s1 h1=>fh h1 λitv a h2=>?_;obtain⟨it,fp,tn,ao,H2,rfl,I2,TT,F,f2,q2⟩:=h2;refine wO1 ?_;have w:Inv X ag σ (upd H2 a.heap.objs.size (.lst [])) {a with heap:=a.heap.push {cls:=.type "list",data:=.seq ([]:List di).toArray}}:=I2.lnew (t':=a.toks) .nil (bi _);have old:∀b∈fp,∃o,a.heap.get? b=Z o:=λb hb=>by
  obtain⟨o,e,_⟩:=TT.obj 0 a.heap F b hb;exact⟨o,e⟩
 have W:∀b∈fp,b≠a.heap.objs.size:=λb hb z=>by
  obtain⟨o,e⟩:=old b hb;have:=hL1 e;rw[z]at this;exact aA _ this
 have N:∀b∈fp,kF X ag (upd H2 a.heap.objs.size (.lst [])) b:=λb hb=>⟨by rw[d6 (W b hb)];exact(f2 b hb).1,(f2 b hb).2⟩;have o3:∀b∈fp,∃o,({a with heap:=a.heap.push {cls:=.type "list",data:=.seq ([]:List di).toArray}}:dj).heap.get? b=Z o:=λb hb=>by
  obtain⟨o,e⟩:=old b hb;exact⟨o,hP1 _ e⟩
 have aq:=uP w C K N o3;obtain⟨hg,R,he⟩:=hb {a with heap:=a.heap.push {cls:=.type "list",data:=.seq ([]:List di).toArray}} (upd H2 a.heap.objs.size (.lst [])) fp a.heap.objs.size;refine kS ?_;have f4:∀b∈fp,kF (cxC X scope n T keep {a with heap:=a.heap.push {cls:=.type "list",data:=.seq ([]:List di).toArray}} (upd H2 a.heap.objs.size (.lst [])) fp) [] (upd H2 a.heap.objs.size (.lst [])) b:=λb hb=>
  ⟨(N b hb).1,(aq.ok.exf b hb).1,aq.ok.exfs b hb,.inl hb,(aq.ok.exf b hb).2,λp B=>absurd (show p∈([]:List (dk×Obj))from B) (by simp)⟩
 have E:tn 0 (pushCells ((a.heap.push {cls:=.type "list",data:=.seq ([]:List di).toArray}).push {cls:=.type "dict",data:=.dict #[]}) scope.names):=
  TT.keep 0 a.heap _ F λb hb o e=>QZ scope.names _ b o (hP1 _ (hP1 _ e))
 have k:=mT (X:=cxC X scope n T keep {a with heap:=a.heap.push {cls:=.type "list",data:=.seq ([]:List di).toArray}} (upd H2 a.heap.objs.size (.lst [])) fp) O hc (eq (.ref it) (.ref a.heap.objs.size) _) TT hg R he aq E f4
  (q2 a.heap.objs.size (I2.hok.fresh (nR1 _)))
 refine Qg (codeAny_compStart_list k (TT.self X.A 0 _ _ _ E k)) λr s' wq=>?_;cases r with
 |error e=>exact wq.elim
 |ok f=>
  obtain⟨σ',H',A,q'⟩:=wq;have J1:Inv X ag σ H' s':=w.call' (s':=s') (ch:=fp) A.os A.base A.hok A.bare λb hb=>(N b hb).2.2.2 |> λz=>⟨z.1,(N b hb).2.1,z.2.1,z.2.2⟩
  -- the block's own dict is kept aside
  obtain⟨m,hn,_⟩:=id A.loc;obtain⟨av,es,ep,eC,dC,rC⟩:=id hn;have hCz:(a.heap.push {cls:=.type "list",data:=.seq ([]:List di).toArray}).get? (a.heap.push {cls:=.type "list",data:=.seq ([]:List di).toArray}).objs.size=Y:=Pq (nR1 _);have L:(a.heap.push {cls:=.type "list",data:=.seq ([]:List di).toArray}).objs.size≠X.env.locals:=λz=>by
   have:=w.lt;rw[<- z]at this;exact aA _ this
  have au:H' (a.heap.push {cls:=.type "list",data:=.seq ([]:List di).toArray}).objs.size=Y:=A.free;have J2:Inv X (ag++[((a.heap.push {cls:=.type "list",data:=.seq ([]:List di).toArray}).objs.size,av)]) σ H' s':=J1.pins_of λp B=>by
   rcases aG.mp B with z|z
   ·exact J1.pin p (mA1 _ z)
   ·have z':p=((a.heap.push {cls:=.type "list",data:=.seq ([]:List di).toArray}).objs.size,av):=by simpa using z
    subst z';exact⟨eC,au,L,w.nofs (nR1 _),λv q=>by rw[dC]at q;cases q⟩
  refine fh (xy hN hy hx hf _ s' σ H' (.ref a.heap.objs.size) (.ref a.heap.objs.size) D.nx J2 O q') λ_ s5 ⟨G,H5,J5,q5⟩=>?_;obtain⟨e5,n5,_⟩:=J5.pin ((a.heap.push {cls:=.type "list",data:=.seq ([]:List di).toArray}).objs.size,av) (mA1 _ (mA1 _ mS1));refine⟨m,⟨av,es,ep,e5,dC,rC⟩,λh' U=>?_⟩;have J6:Inv X ag G H5 s5:=J5.unpinned;refine⟨G,H5,J6.turned (t':=s5.toks) (λb o hb e=>(U.2 b hb).trans e) n5 L (.inr ?_) (λx c u z=>?_) (λp B z=>?_),q5⟩
  ·exact w.sz
  ·obtain⟨w',zc⟩:=w.cell x c u;have d:=zc.lt;rw[z]at d;exact aA _ d
  ·obtain⟨S,_⟩:=w.pin p B;have d:=hL1 S;rw[z]at d;exact aA _ d
theorem Dw{K:Fg1}{te:TE}{m:FE}{i:Nat}(hm:∀ σ H Q,tM K m σ H Q->te σ H Q){E:ju}{σ:L2.St}{H:Hp}(h:xb K (dS m (gN i)) E σ H):AY te (ya i) E σ H:=by
 obtain⟨r,mu,S,d,b,h1,h2,c,g⟩:=sP h;refine hm _ _ _ ⟨r,mu,S,d,b,h1,h2,c,λv H' mu' p l o=>?_⟩;obtain⟨r2,a,s,t,q,u,f,j,n,e,k⟩:=g v H' mu' p l o;cases e;exact k _ H' a (.refl _ _) (f.set n) j
theorem mv (i:Nat){x:Str}{pos:Pos}(hN:autoParam (X.N[i]? = some x) cu0)(hv:autoParam (Vis X.env.scope x) au0)(hd:autoParam ((x == ("__debug__":Str))=false) bu0)(hcd:autoParam ((x == ("__classdict__":Str))=false) bu0):
  ME X (.Name x pos) (mV i):=Ji i hN hv hd hcd
def eT(P:dn)(w:dr)(K:Fg1)(mg:Str->Option di)(base:dB)(k:Nat)(x:Str)(n:Nat)(m:FN):Prop:=
 ∃(f:dk) (fd:dD) (ps:List Str),j3 P w K mg base vz k f fd ps (A3 K n m)/\k8 K fd ps []/\wK1 K (.ref f)=M/\mg x=Z (.ref f)
theorem Jl {X:Cx}{k k' n:Nat}{x:Str}{m:FN}{p pos:Pos}{e:Expr}{es:List Expr}{a:FA}(h:eT X.prog X.w X.K X.mg X.base k x n m)(hr:fR k' X.A)(hk:k<=k')(hg:Gl X x)(ha:MA X (e::es) a)(hdb:autoParam ((x == ("__debug__":Str))=false) bu0)
  (he:autoParam (dw (e::es) X.env=(J,eval e X.env)::dw es X.env) cu0) (hpl:autoParam ((Pu pos (dw es X.env)).any (·.1)=J) cu0):ME X (.Call (.Name x p) (e::es) [] pos) (mN (dI n m) a):=by
 obtain⟨f,fd,ps,F,b,d,c⟩:=h;exact Fz F (hr.mono hk) hg c d b ha hdb he hpl
theorem IC{P:dn}{w:dr}{K:Fg1}{mg:Str->Option di}{base:dB}{x a:Str}{st:dE}{f:dk}{fd:dD}{N ps:List Str}{k n:Nat}{b:FS}(F:An K x a st f fd)(hb:k8 K fd ps [])(hm:mg x=some (.ref f))(S:gR N ps (d5 st))(hn:ps.length=n)(d:∀(e:di) (A:dq) (c:List Env) (s:dj) (H:Hp) (E:XK),fR k (A.deeper (Qk a (d5 st) s.heap.objs.size f e)) ->
   Ag (nL vz P w K mg base N a (d5 st) f e A c s H E).nox (fz st) b):eT P w K mg base (k+1) x n (gM N.length b):=by
 subst hn;exact⟨f,fd,ps,LW F S d,hb,F.kp,hm⟩
def CGl(K:Fg1)(mg:Str->Option di)(x:Str)(d:D):Prop:=∃(v:V) (u:di),mg x=Z u/\d3 v u /\ ∀H mu,eW K H mu d v
theorem Fy {X:Cx}{x:Str}{d:D}{pos:Pos}(h:CGl X.K X.mg x d)(hg:Gl X x)(hd:autoParam ((x == ("__debug__":Str))=J) bu0):ME X (.Name x pos) (mC d):=by
 obtain⟨v,u,a,r,q⟩:=h;exact Ci d (EZ hg a r hd) q
noncomputable def f0:List Bool->Ev->Ev
 |true::bs,o::r=>o::f0 bs r
 |false::bs,_::r=>Y::f0 bs r
 |[],_::r=>Y::f0 [] r
 |_,[]=>[]
def lB:Ev->Bool
 |[]=>M
 |none::r=>lB r
 |some d::r=>d.und 0&&lB r
noncomputable def qC (ki ko:List Bool)(b:FS):FS:=fun r S=>if lB (f0 ki r)=true then
  (b (f0 ki r) []).bind λp=>match p.1 with
   | .rt d=>if d.und 0=true then some (.rt d,[],S)else none
   |f=>if lB (f0 ko p.2.1)=true then some (f,f0 ko p.2.1,S)else none
 else none
theorem kg:∀(bs:List Bool) (r:Ev),(f0 bs r).length=r.length
 |true::bs,o::r=>congrArg (· + 1) (kg bs r)
 |false::bs,o::r=>congrArg (· + 1) (kg bs r)
 |[],o::r=>congrArg (· + 1) (kg [] r)
 |[],[]=>rfl
 |true::_,[]=>rfl
 |false::_,[]=>rfl
theorem kh:∀(bs:List Bool) (r:Ev) (i:Nat) (d:D),(f0 bs r)[i]?=Z (Z d)->r[i]?=Z (Z d)
 |true::bs,o::r,0,d,h=>h
 |true::bs,o::r,i+1,d,h=>by
  rw[gC1];exact kh bs r i d (by rw[f0,gC1]at h;exact h)
 |false::bs,o::r,0,d,h=>by simp[f0]at h
 |false::bs,o::r,i+1,d,h=>by
  rw[gC1];exact kh bs r i d (by rw[f0,gC1]at h;exact h)
 |[],o::r,0,d,h=>by simp[f0]at h
 |[],o::r,i+1,d,h=>by
  rw[gC1];exact kh [] r i d (by rw[f0,gC1]at h;exact h)
 |[],[],i,d,h=>by simp[f0]at h
 |true::_,[],i,d,h=>by simp[f0]at h
 |false::_,[],i,d,h=>by simp[f0]at h
theorem mD:∀(r:Ev) (i:Nat) (d:D),lB r=M->r[i]?=Z (Z d)->d.und 0=M
 |none::r,0,d,_,h=>by simp at h
 |none::r,i+1,d,hs,h=>mD r i d hs (by simpa using h)
 |some e::r,0,d,hs,h=>by
  rw[lB,bA1]at hs;simp at h;subst h;exact hs.1
 |some e::r,i+1,d,hs,h=>by
  rw[lB,bA1]at hs;exact mD r i d hs.2 (by simpa using h)
theorem fI.mask{K:Fg1}{H:Hp}{mu mu':List dk}{r:Ev}{σ:L2.St}{bs:List Bool}(h:fI K H mu r σ)(hs:lB (f0 bs r)=M):fI K H mu' (f0 bs r) σ:=
 ⟨by rw[kg];exact h.len,λi d e=>by
  obtain⟨v,c,b⟩:=h.val i d (kh bs r i d e);exact⟨v,c,b.cut (n:=0) (λk a=>absurd a (bw _)) (mD _ i d hs e)⟩⟩
theorem Cj{K:Fg1}{l t:List Bool}{b:FS}{E:ju}{σ:L2.St}{H:Hp}(h:xb K (qC l t b) E σ H):xb K b E σ H:=by
 obtain⟨r,mu,S,f,C,B,q,j,c,hc⟩:=h;unfold qC at c;split at c
 ·rename_i A;obtain⟨⟨m,p,y⟩,w,c⟩:=R3 c;refine⟨f0 l r,[],[],m,p,y,q.mask A,.nil,w,?_⟩;have back:∀{H':Hp} {mu':List dk},Ext [] mu' H H'->Ext mu mu H H':=λ{H' mu'} x=>⟨bo,λa o e _=>x.old a o e (by simp),x.tup,x.frz,λ_ z=>.inl z⟩;have keep:∀{H':Hp} {mu':List dk},Ext [] mu' H H'->Sim K H' mu S:=λ{H' mu'} x=>⟨j.len,j.nd,λn o a h1 h2=>(j.ob n o a h1 h2).keep (back x) λo e=>x.old a o e (by simp)⟩;cases m with
  |rt d=>
   dsimp only at c;split at c
   ·rename_i i;cases c;exact λv H' mu' x r s=>hc v H' mu (back x) (r.cut (n:=0) (λk u=>absurd u (bw _)) i) (keep x)
   ·cases c
  |nx=>
   dsimp only at c;split at c
   ·rename_i i;cases c;exact λg H' mu' x r s=>hc g H' mu (back x) (r.mask i) (keep x)
   ·cases c
  |bk=>
   dsimp only at c;split at c
   ·rename_i i;cases c;exact λg H' mu' x r s=>hc g H' mu (back x) (r.mask i) (keep x)
   ·cases c
  |ct=>
   dsimp only at c;split at c
   ·rename_i i;cases c;exact λg H' mu' x r s=>hc g H' mu (back x) (r.mask i) (keep x)
   ·cases c
 ·cases c
theorem B7{X:Cx}{sts:List dE}{b:FS}(a c:List Bool)(h:Ag X sts b):Ag X sts (qC a c b):=sB h λ_ _ _=>Cj
def CV(K:Fg1)(d:D)(u:di):Prop:=∃v:V,d3 v u /\ ∀H mu,eW K H mu d v
def MU(K:Fg1)(ds:List D)(us:List di):Prop:=∃vs:List V,ed vs us /\ ∀H mu,dX K H mu ds vs
section
variable{K:Fg1}
theorem tw{i:Int}{t}:CV K (.int i) (.int i t):=⟨.int i,⟨t,O⟩,λ_ _=>.int i⟩
theorem tu{x:Str}{t}:CV K (.str x) (.str x t):=⟨.str x,⟨t,O⟩,λ_ _=>.str x⟩
theorem l7:MU K [] []:=⟨[],.nil,λ_ _=>.nil⟩
theorem fB{d:D}{u:di}{ds:List D}{a:List di}(h:CV K d u)(t:MU K ds a):MU K (d::ds) (u::a):=by
 obtain⟨v,r,q⟩:=h;obtain⟨vs,rs,b⟩:=t;exact⟨v::vs,.cons r rs,λH mu=>.cons (q H mu) (b H mu)⟩
theorem px {a:dk}{b:List di}{n:Nat}{sl:Array (Option di)}{ds:List D}(h:K.lookup a=Z ⟨.type "tuple",Y,.seq b.toArray n,sl⟩)(hs:b.length<=dy)(t:MU K ds b):CV K (.tup ds) (.ref a):=by
 obtain⟨vs,rs,c⟩:=t;exact⟨.ref a,O,λH mu=>.tup (.inr ⟨_,b.toArray,n,h,O,O,O,by simpa using hs,by simpa using rs⟩) (c H mu)⟩
theorem Di{mg:Str->Option di}{x:Str}{d:D}{u:di}(hm:mg x=Z u)(h:CV K d u):CGl K mg x d:=by
 obtain⟨v,r,q⟩:=h;exact⟨v,u,hm,r,q⟩
end
theorem kd{K:Fg1}{H:Hp}{mu:List dk}:∀ns:List Int,dX K H mu (ns.map D.int) (ns.map V.int)
 |[]=>.nil
 |n::ns=>.cons (.int n) (kd ns)
theorem JC{K:Fg1}{m:FN}(hm:∀ ns:List Int,ns.length<=63 -> ∃ S,m [.rol (ns.map D.int)] []=some (.bl true,S))(H:Hp)(a:dk)(ns:List Int)(c:ns.length<=63)(f:GP H)(b:mU K H a (ns.map V.int)):
  A3 K 1 m [.ref a] H (λv _=>v = .bl M) λ_ _ _=>False:=by
 refine⟨O,?_⟩;obtain⟨S,e⟩:=hm ns c;have d:RoL K H a (ns.map V.int):=by
  rcases b with h|h
  ·rcases h with h|h
   ·rcases f a with z|⟨o,xs,z⟩
    ·rw[h]at z;cases z
    ·rw[h]at z;cases z
   ·exact .inl h
  ·exact .inr h
 refine⟨[],[],[.rol (ns.map D.int)],.bl M,S,.cons (.rol d (kd ns)) .nil,.nil,e,λv H' mu' x r s=>?_⟩;cases r;rfl
theorem walk_m{l:PySem.W.OpenLaw}{q:dn}{b:List Str}{XP:(Str->Option di)->dB->Prop}{g:dr->dB->Prop}{d:DefRec}{K:Params->Fg1}{m:FN}{k:Nat}{x:Str}(hn:l.most=some 63)(c:d.params.defaults=[])(hr:fR k callerA)(i:∀(w:dr) (h:dB),g w h->(K w.params).In h)(hm:∀ns:List Int,ns.length<=63 -> ∃S,m [.rol (ns.map D.int)] []=some (.bl true,S))(F:∀(w:dr) (mg:Str->Option di) (e:dk) (h:dB),(K w.params).In h->h.Ns dv mg->mg d.name=some (.ref e) ->
   ∃fd:dD,(∀(s:dj) (u:di),BindsTo s fd ⟨[u],[]⟩ [(x,u)]) /\ ∀base:dB,(K w.params).In base->base.Ns dv mg->j3 l.prog w (K w.params) mg base vz k e fd [x] (A3 (K w.params) 1 m)):
  PySem.W.WalkO q b XP g l.row.toRowW d [] (λf vs=>PySem.call f vs):=
 L2.Ek (n:=63) (k:=k) (x:=x) (CX:=λ_=>vz) (sp:=λw=>A3 (K w.params) 1 m) hn (by decide) c hr i F (λ_ H a ns p j o=>JC hm H a ns p j o) λ_ _ _ _ _ z=>z
structure XE (X:Cx)(e:Expr)(m:FE):Prop where
 h:ME X e m
structure XT (X:Cx)(e:Expr)(m:FT):Prop where
 h:MT X e m
structure XW (X:Cx)(e:Expr)(m:FT):Prop where
 h:MW X e m
structure XA (X:Cx)(e:List Expr)(m:FA):Prop where
 h:MA X e m
structure XS (X:Cx)(e:dE)(m:FS):Prop where
 h:MS X e m
structure wK (X:Cx)(e:List dE)(m:FS):Prop where
 h:Ag X e m
structure XI (X:Cx)(tg e:Expr)(m:FI):Prop where
 h:MI X tg e m
structure XG (X:Cx)(e:Expr)(m:FG):Prop where
 h:MG X e m
structure MP (X:Cx)(e:List Expr)(m:DW):Prop where
 h:Ms X e m
structure XO (X:Cx)(e:Option Expr)(m:FO):Prop where
 h:MO X e m
structure XF (X:Cx)(K:Fg1)(ifs:List Expr)(t:FT):Prop where
 h:pO X ifs (AU K t)
theorem eh{X:Cx}:XF X X.K [] eZ:=⟨Fu⟩
theorem gy{X:Cx}{c:Expr}{t:FT}(h:XT X c t):XF X X.K [c] t:=⟨Ft h.h⟩
theorem yF{X:Cx}{sts:List dE}{b:FS}(a c:List Bool)(h:wK X sts b):wK X sts (qC a c b):=⟨B7 a c h.h⟩
section
variable{pos:Pos}
theorem qK{i:Int}{j}:XE X (.Constant (.int i) j pos) (mC (.int i)):=⟨Jr⟩
theorem fJ{b:Bool}{j}:XE X (.Constant (.bool b) j pos) (mC (.bl b)):=⟨LF⟩
theorem iA{j}:XE X (.Constant .none j pos) (mC .non):=⟨Jp⟩
theorem fe{x:Str}{j}:XE X (.Constant (.str x) j pos) (mC (.str x)):=⟨Jk⟩
end
section
variable{pos:Pos}{e:Expr}{es:List Expr}{m:FE}{n:FA}
theorem qN:XA X [] dH:=⟨Jv⟩
theorem qA(h:XE X e m)(ht:XA X es n)(hs:autoParam (dw (e::es) X.env=(J,eval e X.env)::dw es X.env) cu0):XA X (e::es) (dG m n):=⟨FB (h:=h.h) (ht:=ht.h) (hs:=hs)⟩
end
section
variable{K:Fg1}{f:FN}{a b:FE}{σ:L2.St}{H:Hp}{Q:VK}
theorem qI{op:PH}{x y:Expr}{pos:Pos}(ho:gE X (P6 op) (r2 X.K f))(hx:XE X x a)(hy:XE X y b):XE X (.BinOp x op y pos) (m2 f a b):=⟨LB (ho:=ho) (hx:=hx.h) (hy:=hy.h)⟩
theorem Ed{op:P8}{x y:Expr}{pos:Pos}(ho:gE X (P7 op) (r2 X.K f))(hx:XE X x a)(hy:XE X y b)(hm:P9 op y=J):XE X (.Compare x [op] [y] pos) (m2 f a b):=⟨Js (ho:=ho) (hx:=hx.h) (hy:=hy.h) (hm:=hm)⟩
theorem qJ{x y:Expr}{pos:Pos}(ho:Ho X (r2 X.K f))(hx:XE X x a)(hy:XE X y b)(hs:n4 y):XE X (.Subscript x y pos) (m2 f a b):=⟨LC (ho:=ho) (hx:=hx.h) (hy:=hy.h) (hs:=hs)⟩
theorem qD {x:Str}{p pos:Pos}{e:Expr}{es:List Expr}{id:String}{a:FA}(hc:eR X (.builtin id) (rN X.K f))(hg:Gl X x)(hm:X.mg x=Y)(hv:Po x=Z (.builtin id))(ha:XA X (e::es) a)(hn:autoParam (x≠"__name__") bu0)(hdb:autoParam ((x == ("__debug__":Str))=J) bu0)(he:autoParam (dw (e::es) X.env=(J,eval e X.env)::dw es X.env) cu0)(hpl:autoParam ((Pu pos (dw es X.env)).any (·.1)=J) cu0):XE X (.Call (.Name x p) (e::es) [] pos) (mN f a):=⟨Ch (hc:=hc) (hg:=hg) (hm:=hm) (hv:=hv) (ha:=ha.h) (hn:=hn) (hdb:=hdb) (he:=he) (hpl:=hpl)⟩
theorem qE {x:Str}{p pos:Pos}{e:Expr}{es:List Expr}{T:String}{a:FA}(hc:eR X (.type T) (rN X.K f))(hg:Gl X x)(hm:X.mg x=Y)(hv:Po x=Z (.type T))(ha:XA X (e::es) a)(hn:autoParam (x≠"__name__") bu0)(hdb:autoParam ((x == ("__debug__":Str))=J) bu0)(he:autoParam (dw (e::es) X.env=(J,eval e X.env)::dw es X.env) cu0)(hpl:autoParam ((Pu pos (dw es X.env)).any (·.1)=J) cu0):XE X (.Call (.Name x p) (e::es) [] pos) (mN f a):=⟨zp (hc:=hc) (hg:=hg) (hm:=hm) (hv:=hv) (ha:=ha.h) (hn:=hn) (hdb:=hdb) (he:=he) (hpl:=hpl)⟩
end
section
variable{x y c:Expr}{rest:List Expr}{pos:Pos}{a b:FT}{f g:FE}
theorem qX{op:P8}{f:FN}{a b:FE}(ho:gE X (P7 op) (r2 X.K f))(hx:XE X x a)(hy:XE X y b)(hm:P9 op y=J):XT X (.Compare x [op] [y] pos) (mB (m2 f a b)):=⟨IV (ho:=ho) (hx:=hx.h) (hy:=hy.h) (hm:=hm)⟩
theorem jv(ha:XT X x a):XW X (.BoolOp .And [x] pos) a:=⟨Fk (ha:=ha.h)⟩
theorem ls(ha:XT X x a):XW X (.BoolOp .Or [x] pos) a:=⟨IR (ha:=ha.h)⟩
theorem j5(ha:XT X x a)(hb:XW X (.BoolOp .And (y::rest) pos) b):XW X (.BoolOp .And (x::y::rest) pos) (p0 a b):=⟨IS (ha:=ha.h) (hb:=hb.h)⟩
theorem k9(ha:XT X x a)(hb:XW X (.BoolOp .Or (y::rest) pos) b):XW X (.BoolOp .Or (x::y::rest) pos) (Ck a b):=⟨Ly (ha:=ha.h) (hb:=hb.h)⟩
theorem kG(h:XW X x a):XT X x a:=⟨Nr (h:=h.h)⟩
theorem j6(ha:XT X x a):XT X (.UnaryOp .Not x pos) (nE a):=⟨IU (ha:=ha.h)⟩
theorem j9{op}(h:XE X x f):XE X (.BoolOp op [x] pos) f:=⟨Jm (h:=h.h)⟩
theorem jb(ha:XE X x f)(hb:XE X (.BoolOp .And (y::rest) pos) g):XE X (.BoolOp .And (x::y::rest) pos) (kU f g):=⟨Jt (ha:=ha.h) (hb:=hb.h)⟩
theorem wU(ha:XE X x f):XE X (.UnaryOp .Not x pos) (uD f):=⟨Jo (ha:=ha.h)⟩
theorem lc(hc:XT X c a)(hx:XE X x f)(hy:XE X y g):XE X (.IfExp c x y pos) (uE a f g):=⟨LD (hc:=hc.h) (hx:=hx.h) (hy:=hy.h)⟩
end
section
variable{x y z:Expr}{pos:Pos}{f g:FN}{a b c:FE}{op op':P8}
theorem yG(ho:gE X (P7 op) (r2 X.K f))(ho':gE X (P7 op') (r2 X.K g))(hx:XE X x a)(hy:XE X y b)(hz:XE X z c)(hm:autoParam (lastMarks [op,op'] [y,z]=J) BI._auto_1):XE X (.Compare x [op,op'] [y,z] pos) (LG f g a b c):=⟨Cf (ho:=ho) (ho':=ho') (hx:=hx.h) (hy:=hy.h) (hz:=hz.h) (hm:=hm)⟩
end
section
variable{pos:Pos}{e c:Expr}{st:dE}{rest as bs:List dE}{a b:FS}{m:FE}{t:FT}
theorem qQ:wK X [] kT:=⟨Fn⟩
theorem qF(h1:XS X st a)(h2:wK X rest b):wK X (st::rest) (dP a b):=⟨B8 (h1:=h1.h) (h2:=h2.h)⟩
theorem qG(h1:XS X st a):wK X [st] a:=⟨Fm (h1:=h1.h)⟩
theorem Au(h:XE X e m)(hs:autoParam (PC e Y pos.line X.env=pure J) cu0):XS X (.Expr e pos) (fG m):=⟨Fo (h:=h.h) (hs:=hs)⟩
theorem qU(h:XE X e m):XS X (.Return (Z e) pos) (eg m):=⟨IX (h:=h.h)⟩
theorem qV(hc:XT X c t)(ha:wK X as a)(hb:wK X bs b):XS X (.If c as bs pos) (fr t a b):=⟨Lz (hc:=hc.h) (ha:=ha.h) (hb:=hb.h)⟩
end
section
variable{pos:Pos}
theorem qO(i:Nat){x:Str}(hN:X.N.Nodup)(hi:X.N[i]?=Z x)(hx:vy X.env.scope x)(hf:autoParam (X.fn x=M\/X.env.scope.names.lookup x=Z .local) au0):XG X (.Name x pos) (gN i):=⟨Fx (i:=i) (hN:=hN) (hi:=hi) (hx:=hx) (hf:=hf)⟩
theorem iO:MP X [] gNl:=⟨Fw⟩
theorem ez{e:Expr}{es:List Expr}{g:FG}{a:DW}(h1:XG X e g)(h2:MP X es a)(hs:autoParam ((PF (e::es) X.env).map (·.2)=PD e X.env::(PF es X.env).map (·.2)) cu0):MP X (e::es) (gCs g a):=⟨Cb (h1:=h1.h) (h2:=h2.h) (hs:=hs)⟩
theorem j7{es:List Expr}{k:Nat}{a:DW}{n:Nat}(hc:X.calm=M)(h:MP X es a)(hn:autoParam ((PF es X.env).length=n) cu0)(hst:autoParam ((PF es X.env).findIdx? (·.1)=Y) cu0):XG X (.Tuple es k pos) (gT n a):=⟨Jc (hc:=hc) (h:=h.h) (hn:=hn) (hst:=hst)⟩
theorem lw{o i:Expr}{a b:FE}{f:FN}(ho:XE X o a)(hi:XE X i b)(hs:wO X (rU X.K f))(ha:autoParam (∀ v,PD (.Subscript o i pos) X.env v=(do
   let ov<-PJ [v] (eval o X.env)
   let iv<-PJ [v,ov] (eval i X.env)
   PK pos
   PJ [v,ov,iv] (setItem ov iv v)
   release [v,ov,iv] [])) du0):XG X (.Subscript o i pos) (gS f a b):=⟨Jd (ho:=ho.h) (hi:=hi.h) (hs:=hs) (ha:=ha)⟩
theorem qR{tg e:Expr}{m:FE}{g:FG}(he:XE X e m)(hg:XG X tg g)(hs:autoParam (PP [tg] e pos.line X.env=pure J) cu0)(hw:autoParam (PQ [tg] e X.env=pure Y) cu0)(h1:autoParam ((PF [tg] X.env).map (·.2)=[PD tg X.env]) cu0):XS X (.Assign [tg] e pos) (dS m g):=⟨I0 (he:=he.h) (hg:=hg.h) (hs:=hs) (hw:=hw) (h1:=h1)⟩
theorem qY(i:Nat){x:Str}{e:Expr}{m:FE}{pos':Pos}(hN:X.N.Nodup)(hi:X.N[i]?=Z x)(hx:vy X.env.scope x)(he:XE X e m)(hs:autoParam (PC e (Z (.Name x pos')) pos.line X.env=pure J) cu0)(hf:autoParam (X.fn x=M\/X.env.scope.names.lookup x=Z .local) au0):XS X (.Assign [.Name x pos'] e pos) (dS m (gN i)):=⟨IW (i:=i) (hN:=hN) (hi:=hi) (hx:=hx) (he:=he.h) (hs:=hs) (hf:=hf)⟩
theorem Ea(i:Nat){x:Str}{e:Expr}{m:FE}{op:PH}{f:FN}{pos':Pos}(hN:X.N.Nodup)(hi:X.N[i]?=Z x)(hx:vy X.env.scope x)(he:XE X e m)(ho:MQ X op (r2 X.K f))(hf:autoParam (X.fn x=M\/X.env.scope.names.lookup x=Z .local) au0):XS X (.AugAssign (.Name x pos') op e pos) (FF i f m):=⟨IZ (i:=i) (hN:=hN) (hi:=hi) (hx:=hx) (he:=he.h) (ho:=ho) (hf:=hf)⟩
end
section
theorem iN{X:Cx}{pos:Pos}(n:Nat){c:Expr}{a:List dE}{t:FT}{b:FS}(hp:PV (Pt X.prog X.w) X.A X.env X.xe)(hc:XT X c t)(hb:wK X a b):XS X (.While c a [] pos) (ql t b n):=⟨B9 (n:=n) (hp:=hp) (hc:=hc.h) (hb:=hb.h)⟩
theorem qW{X:Cx}{pos:Pos}{tg iter:Expr}{a:List dE}{m:FI}{g:FG}{b:FS}(hp:PV (Pt X.prog X.w) X.A X.env X.xe)(hc:X.calm=M)(hi:XI X tg iter m)(hg:XG X tg g)(hb:wK X a b)(hs:autoParam (∀x,P5 iter X.env x=pure x) du0):XS X (.For tg iter a [] pos) (fE m g b):=⟨IY (hp:=hp) (hc:=hc) (hi:=hi.h) (hg:=hg.h) (hb:=hb.h) (hs:=hs)⟩
end
section
variable{es:List Expr}{pos:Pos}{a:FA}
theorem dY{x1}(h:XA X es a):XE X (.Tuple es x1 pos) (eH a):=⟨Jj (h:=h.h)⟩
theorem ff(h:XA X es a):XE X (.List es pos) (g6 a):=⟨Jq (h:=h.h)⟩
end
section
variable{tg:Expr}
theorem qd{e:Expr}{m:FE}(h:XE X e m):XI X tg e (g9 m):=⟨Jb (h:=h.h)⟩
theorem vH {a:Expr}{m:FA}{p pos:Pos}(hg:Gl X "range")(hm:X.mg "range"=Y)(ha:XA X [a] m)(hs:autoParam (dw [a] X.env=[(J,eval a X.env)]) cu0):XI X tg (.Call (.Name "range" p) [a] [] pos) (nJ m):=⟨zm (hg:=hg) (hm:=hm) (ha:=ha.h) (hs:=hs)⟩
theorem n6 {a b:Expr}{m:FA}{p pos:Pos}(hg:Gl X "range")(hm:X.mg "range"=Y)(ha:XA X [a,b] m)(hs:autoParam (dw [a,b] X.env=[(J,eval a X.env),(J,eval b X.env)]) cu0)(hs2:autoParam (dw [b] X.env=[(J,eval b X.env)]) cu0):XI X tg (.Call (.Name "range" p) [a,b] [] pos) (KD m):=⟨zl (hg:=hg) (hm:=hm) (ha:=ha.h) (hs:=hs) (hs2:=hs2)⟩
end
section
variable{tg:Expr}
variable{elts:List Expr}{k:Nat}{tpos:Pos}
theorem Av {a:Expr}{m:FA}{p pos:Pos}(hg:Gl X "enumerate")(hm:X.mg "enumerate"=Y)(ha:XA X [a] m)(hs:autoParam (dw [a] X.env=[(J,eval a X.env)]) cu0):XI X (.Tuple elts k tpos) (.Call (.Name "enumerate" p) [a] [] pos) (p7 m):=⟨Fv (hg:=hg) (hm:=hm) (ha:=ha.h) (hs:=hs)⟩
theorem rT {a b:Expr}{m:FA}{p pos:Pos}(hg:Gl X "zip")(hm:X.mg "zip"=Y)(ha:XA X [a,b] m)(hs:autoParam (dw [a,b] X.env=[(J,eval a X.env),(J,eval b X.env)]) cu0)(hs2:autoParam (dw [b] X.env=[(J,eval b X.env)]) cu0):XI X (.Tuple elts k tpos) (.Call (.Name "zip" p) [a,b] [] pos) (He m):=⟨Ja (hg:=hg) (hm:=hm) (ha:=ha.h) (hs:=hs) (hs2:=hs2)⟩
end
section
variable{ag:List (dk×Obj)}{σ:L2.St}{H:Hp}{s:dj}{mu:List dk}{S:Sto}{K:Fg1}
theorem vI (T:Ty){e:Expr}{m:FE}{nm:Str}{p p2 pos:Pos}(hg:Gl X "isinstance")(hm:X.mg "isinstance"=Y)(hg2:Gl X nm)(hm2:X.mg nm=Y)(hv2:Po nm=Z (.type T.nm))(h:XE X e m)(hn:autoParam (nm≠"__name__") bu0)(hd:autoParam ((nm == ("__debug__":Str))=J) bu0)(hs1:autoParam (dw [e,.Name nm p2] X.env=(J,eval e X.env)::dw [.Name nm p2] X.env) cu0)(hs2:autoParam (dw [.Name nm p2] X.env=(J,eval (.Name nm p2) X.env)::dw [] X.env) cu0)(hpl:autoParam ((Pu pos (dw [.Name nm p2] X.env)).any (·.1)=J) cu0):XE X (.Call (.Name "isinstance" p) [e,.Name nm p2] [] pos) (sO T m):=⟨zo (T:=T) (hg:=hg) (hm:=hm) (hg2:=hg2) (hm2:=hm2) (hv2:=hv2) (h:=h.h) (hn:=hn) (hd:=hd) (hs1:=hs1) (hs2:=hs2) (hpl:=hpl)⟩
end
theorem ic:XO X Y iY:=⟨Fs⟩
theorem ib{e:Expr}{m:FE}(h:XE X e m):XO X (Z e) (jm m):=⟨Fq (h:=h.h)⟩
theorem n9 {a:Expr}{m:FA}{d p2 b c:Pos}(hc:X.calm=M)(hg:Gl X "range")(hm:X.mg "range"=Y)(hg2:Gl X "list")(hm2:X.mg "list"=Y)(ha:XA X [a] m)(hs:autoParam (dw [a] X.env=[(J,eval a X.env)]) cu0)(hs2:autoParam (dw [.Call (.Name "range" d) [a] [] b] X.env=[(J,eval (.Call (.Name "range" d) [a] [] b) X.env)]) cu0):XE X (.Call (.Name "list" p2) [.Call (.Name "range" d) [a] [] b] [] c) (zr m):=⟨zn (hc:=hc) (hg:=hg) (hm:=hm) (hg2:=hg2) (hm2:=hm2) (ha:=ha.h) (hs:=hs) (hs2:=hs2)⟩
theorem qe {o e:Expr}{es:List Expr}{m:FE}{a:FA}{f:FN}{name:Str}{apos cpos:Pos}{id:String}(slot:Slot "list" name id)(hty:typeOf (.builtin id)=pure (.type "method_descriptor"))(hm:DV X id (λx xs H Q=>rN X.K f (x::xs) H Q))(ho:XE X o m)(ha:XA X (e::es) a)(hbase:autoParam (QI o name X.env (eval o X.env)=eval o X.env) cu0)(hfew:autoParam (((Pu cpos (dw (e::es) X.env)).all (λx=> !x.1)&&(QJ cpos (QK [] X.env)).all (λx=>x.1.isSome)&&decide ((e::es).length+([]:List Qi).length+(if([]:List Qi).isEmpty then 0 else 1)<30))=M) cu0)(hline:autoParam ((apos.endLine == cpos.line)=M) cu0)(hs:autoParam (dw (e::es) X.env=(J,eval e X.env)::dw es X.env) cu0)(hplain:autoParam ((Pu cpos (dw es X.env)).any (·.1)=J) cu0):XE X (.Call (.Attribute o name apos) (e::es) [] cpos) (oS f m a):=⟨Ce (slot:=slot) (hty:=hty) (hm:=hm) (ho:=ho.h) (ha:=ha.h) (hbase:=hbase) (hfew:=hfew) (hline:=hline) (hs:=hs) (hplain:=hplain)⟩
theorem Oq (i:Nat){x:Str}{pos:Pos}(hN:autoParam (X.N[i]?=Z x) cu0)(hv:autoParam (Vis X.env.scope x) au0)(hd:autoParam ((x == ("__debug__":Str))=J) bu0)(hcd:autoParam ((x == ("__classdict__":Str))=J) bu0):XE X (.Name x pos) (mV i):=⟨mv (i:=i) (hN:=hN) (hv:=hv) (hd:=hd) (hcd:=hcd)⟩
section
theorem qH {X:Cx}{k k' n:Nat}{x:Str}{m:FN}{p pos:Pos}{e:Expr}{es:List Expr}{a:FA}(h:eT X.prog X.w X.K X.mg X.base k x n m)(hr:fR k' X.A)(hk:k<=k')(hg:Gl X x)(ha:XA X (e::es) a)(hdb:autoParam ((x == ("__debug__":Str))=J) bu0)(he:autoParam (dw (e::es) X.env=(J,eval e X.env)::dw es X.env) cu0)(hpl:autoParam ((Pu pos (dw es X.env)).any (·.1)=J) cu0):XE X (.Call (.Name x p) (e::es) [] pos) (mN (dI n m) a):=⟨Jl (h:=h) (hr:=hr) (hk:=hk) (hg:=hg) (ha:=ha.h) (hdb:=hdb) (he:=he) (hpl:=hpl)⟩
theorem oa {X:Cx}{x:Str}{d:D}{pos:Pos}(h:CGl X.K X.mg x d)(hg:Gl X x)(hd:autoParam ((x == ("__debug__":Str))=J) bu0):XE X (.Name x pos) (mC d):=⟨Fy (h:=h) (hg:=hg) (hd:=hd)⟩
end
structure NS (X:Cx)(K:Fg1)(tg:Expr)(ifs:List Expr)(elt:Expr)(g:FG)(t:FT)(e:FE):Prop where
 g:XG X tg g
 t:XF X K ifs t
 e:XE X elt e
structure O4 (X:Cx)(K:Fg1)(tg:Expr)(ifs:List Expr)(tg2 iter2:Expr)(ifs2:List Expr)(elt:Expr)(g:FG)(t:FT)(m2:FI)(g2:FG)(t2:FT)(e:FE):Prop where
 g:XG X tg g
 t:XF X K ifs t
 i2:XI X tg2 iter2 m2
 g2:XG X tg2 g2
 t2:XF X K ifs2 t2
 e:XE X elt e
theorem D9{P:dn}{w:dr}{K:Fg1}{mg:Str->Option di}{base:dB}{x c:Str}{st:dE}{f:dk}{fd:dD}{N ps:List Str}{k n:Nat}{b:FS}(F:An K x c st f fd)(hb:k8 K fd ps [])(hm:mg x=some (.ref f))(S:gR N ps (d5 st))(hn:ps.length=n)(e:∀(d:di) (A:dq) (a:List Env) (s:dj) (H:Hp) (E:XK),fR k (A.deeper (Qk c (d5 st) s.heap.objs.size f d)) ->
   wK (nL vz P w K mg base N c (d5 st) f d A a s H E).nox (fz st) b):eT P w K mg base (k+1) x n (gM N.length b):=
 IC F hb hm S hn λd A a s H E g=>(e d A a s H E g).h
theorem Hs{P:dn}{w:dr}{K:Fg1}{mg:Str->Option di}{base:dB}{x c:Str}{st:dE}{f:dk}{fd:dD}{N ps:List Str}{k n:Nat}{b:FS}(F:An K x c st f fd)(S:gR N ps (d5 st))(hn:ps.length=n)(e:∀(d:di) (A:dq) (a:List Env) (s:dj) (H:Hp) (E:XK),fR k (A.deeper (Qk c (d5 st) s.heap.objs.size f d)) ->
   wK (nL vz P w K mg base N c (d5 st) f d A a s H E).nox (fz st) b):j3 P w K mg base vz (k+1) f fd ps (A3 K n (gM N.length b)):=by
 subst hn;exact LW F S λd A a s H E g=>(e d A a s H E g).h
abbrev FV:=Ev->Sto->Option (List D×Ev×Sto)
noncomputable def fH (c:List (Nat×List D))(g:FG)(t:FT)(b:FV):List D->FV
 |[]=>λr S=>if pP S c=true then some ([],r,S)else none
 |d::ds=>λr S=>if pP S c=true then(g d r S).bind λp=>(t p.1 p.2).bind λk=>if k.1=true then(b p.1 k.2).bind λq=>(fH c g t b ds q.2.1 q.2.2).map λz=>(q.1++z.1,z.2)else fH c g t b ds p.1 k.2 else none
noncomputable def ee (m:FE):FV:=λr S=>(m r S).map λq=>([q.1],r,q.2)
def CU(m:FI)(g:FG)(t:FT)(b:FV):FV:=λr S=>(m r S).bind λp=>fH p.1.chk g t b p.1.items r p.2
noncomputable def eA (k:Nat)(keep:List Nat)(m:FI)(g:FG)(t:FT)(b:FV):FE:=λr S=>(m r S).bind λp=>
 (fH p.1.chk g t b p.1.items (uQ k keep r) p.2).bind λq=>if q.1.length<=dy then some (.ref q.2.2.length,q.2.2++[.lst q.1])else none
section
variable{K:Fg1}{H H' H1:Hp}{mu mu' mu1:List dk}{S:Sto}{a:dk}
theorem Ext.aside(x:Ext mu mu' H H'):Ext (a::mu) (a::mu') H H' where
 pre:=bT.mpr ⟨O,x.pre⟩
 old:=λb o h n=>x.old b o h λz=>n (mC1 _ z)
 tup:=x.tup
 frz:=x.frz
 new:=λb h=>by
  rcases aF.mp h with h|h
  ·exact .inl (by rw[h];exact mS1)
  ·rcases x.new b h with q|q
   ·exact .inl (mC1 _ q)
   ·exact .inr q
theorem Ext.inner(x:Ext (a::mu) (a::mu') H H'):tT mu mu' H H':=⟨(bT.mp x.pre).2,x.tup,x.frz⟩
theorem Ext.held{o:HO}(x:Ext mu mu' H H')(ha:H a=Z o)(hn:a∉mu):H' a=Z o/\a∉mu':=by
 refine⟨x.old a o ha hn,λz=>?_⟩;rcases x.new a z with q|q
 ·exact hn q
 ·rw[ha]at q;cases q
theorem fI.exw{r:Ev}{σ:L2.St}(e:tT mu mu' H H')(h:fI K H mu r σ):fI K H' mu' r σ:=⟨h.len,λi d q=>by
 obtain⟨v,b,a⟩:=h.val i d q;exact⟨v,b,a.exw e⟩⟩
theorem pR.exw{b:dk}(e:tT mu mu' H H')(h:∀o,H b=Z o->H' b=Z o):∀{o:Ob},pR K H mu b o->pR K H' mu' b o
 | .lst _,⟨vs,q,r⟩=>⟨vs,h _ q,r.exw e⟩
 | .dct _,⟨ws,q,r⟩=>⟨ws,h _ q,Paired.mapP r λ_ _ z=>⟨z.1,z.2.exw e⟩⟩
 | .dcT _,⟨ws,q,r,l⟩=>⟨ws,h _ q,Paired.mapP r λ_ _ ⟨z,d,k,v,a,r⟩=>⟨z,d,k.exw e,v,a,r.exw e⟩,l⟩
 | .iset _,q=>⟨h _ q.1,q.2⟩
 | .dcF _,⟨ws,⟨o,u,f,c⟩,r,l⟩=>⟨ws,⟨o,u,h _ f,c⟩,Paired.mapP r λ_ _ ⟨z,d,k,v,a,r⟩=>⟨z,d,k.exw e,v,a,r.exw e⟩,l⟩
 | .tst _,⟨ws,q,r⟩=>⟨ws,h _ q,Paired.mapP r λ_ _ ⟨z,d,k,v,a,r⟩=>⟨z,d,k.exw e,v,a,r.exw e⟩⟩
theorem Sim.aside{u:HO}(s:Sim K H mu S)(e:tT mu mu H (upd H a u))(hn:a∉mu):Sim K (upd H a u) mu S:=
 ⟨s.len,s.nd,λk o b h1 h2=>(s.ob k o b h1 h2).exw e λo' q=>by rw[d6 (λz=>hn (by rw[<- z];exact gM1 h2))];exact q⟩
end
inductive KB (K:Fg1)(a:dk)(m:FV)(E:ju)(σ:L2.St)(H:Hp):Prop
 |mk (r:Ev) (mu:List dk) (S:Sto) (acc:List D) (vs:List V) (xs:List D) (r':Ev) (S':Sto):H a=some (.lst vs)->a∉mu->dX K H mu acc vs->fI K H mu r σ->Sim K H mu S->m r S=some (xs,r',S')->vs.length+xs.length<=dy ->
 (∀ σ' H' mu' vs',Ext (a::mu) (a::mu') H H'->H' a=some (.lst vs')->a∉mu'->dX K H' mu' (acc++xs) vs'->fI K H' mu' r' σ'->Sim K H' mu' S'->E.nx σ' H')->KB K a m E σ H
theorem pr{K:Fg1}{a:dk}{m:FE}{E:ju}{σ:L2.St}{H:Hp}(h:KB K a (ee m) E σ H):tY a (tM K m) E σ H:=by
 obtain⟨r,mu,S,l,vs,xs,w,u,j,g,k,i,s,f,o,hc⟩:=h;obtain⟨⟨d,p⟩,q,f⟩:=R4 f;cases f;refine⟨r,mu,S,d,p,i,s,q,λv H1 mu1 e n t=>?_⟩;obtain⟨c,b⟩:=e.held j g;have put:Ext (a::mu1) (a::mu1) H1 (upd H1 a (.lst (vs++[v]))):=Ext.put c trivial mS1;refine⟨vs,c,o,?_⟩;exact hc σ _ mu1 (vs++[v]) (e.aside.trans put) d9 b (((k.ext e).append (.cons n .nil)).exw put.inner) ((i.ext e).exw put.inner) (t.aside put.inner b)
inductive N0 (K:Fg1)(a:dk)(mu2:List dk)(H:Hp)(c:List (Nat×List D))(g:FG)(t:FT)(b:FV)(r':Ev)(S':Sto)(tot:List D)(L:List D)(σ':L2.St)(H':Hp):Prop
 |mk (r3:Ev) (mu3:List dk) (S3:Sto) (acc3:List D) (vs3:List V) (xs3:List D):Ext (a::mu2) (a::mu3) H H'->H' a=some (.lst vs3)->a∉mu3->dX K H' mu3 acc3 vs3->fI K H' mu3 r3 σ'->Sim K H' mu3 S3->fH c g t b L r3 S3=some (xs3,r',S')->acc3++xs3=tot->vs3.length+xs3.length<=dy->N0 K a mu2 H c g t b r' S' tot L σ' H'
theorem uH{K:Fg1}{a:dk}{j:It}{ao:Ah}{g:FG}{t:FT}{b:FV}{tb:TS}{D:ju}(hb:∀ E σ H,KB K a b E σ H->tb E σ H){mu1 e:List dk}{H1 H:Hp}{r L:Ev}{S S':Sto}{σ:L2.St}{acc xs:List Mi.D}{vs:List V}(hJ:N1 K j ao mu1 H1)(x:tT mu1 e H1 H)(ha:H a=Z (.lst vs))(R:a∉e)(hr:dX K H e acc vs)(he:fI K H e r σ)(hs:Sim K H e S)(hm:fH ao.chk g t b ao.items r S=Z (xs,L,S'))(hl:vs.length+xs.length<=dy)(hc:∀h H' mu' B,Ext (a::e) (a::mu') H H'->H' a=Z (.lst B)->a∉mu'->dX K H' mu' (acc++xs) B->fI K H' mu' L h->Sim K H' mu' S'->D.nx h H'):AV j (HJ K g) (AU K t) tb D σ H:=by
 refine⟨λi k h H'=>k=(ao.items.drop i).length/\N0 K a e H ao.chk g t b L S' (acc++xs) (ao.items.drop i) h H',
  ⟨_,O,r,e,S,acc,vs,xs,.refl _ _,ha,R,hr,he,hs,hm,O,hl⟩,?_⟩
 rintro i k X wq ⟨rfl,r3,m,S3,f,vs3,xs3,aq,s,C,w,z,P,c,n,l⟩;cases hd0:ao.items.drop i with
 |nil=>
  left;rw[hd0,fH]at c;dsimp only at c;split at c
  ·rename_i ok;cases c;refine⟨(hJ i wq m _ (x.trans aq.inner) P ok).2 (List.drop_eq_nil_iff.mp hd0),hc X wq m vs3 aq s C ?_ z P⟩;rw[<- n,aN];exact w
  ·cases c
 |cons d ds=>
  right;rw[hd0]at c;obtain⟨hi,hd⟩:=nk hd0;rw[fH]at c;dsimp only at c;split at c
  ·rename_i ok;obtain⟨⟨G,S4⟩,e4,c⟩:=R3 c;obtain⟨⟨k5,W⟩,e5,c⟩:=R3 c;obtain⟨go,yl⟩:=(hJ i wq m _ (x.trans aq.inner) P ok).1 d hi;refine⟨go,N0 K a e H ao.chk g t b L S' (acc++xs) ds,?_,λy H4 yy=>?_⟩
   ·intro h H' h6;exact⟨ds.length,bB _,(congrArg List.length hd).symm,hd.symm ▸ h6⟩
   ·obtain⟨I,s4,q4⟩:=yl y H4 yy;obtain⟨ha4,hn4⟩:=I.held s C;refine⟨r3,m,S3,d,G,S4,z.ext I,s4,q4,e4,fun σ5 H5 Q x5 q s5=>?_⟩;obtain⟨T,U⟩:=x5.held ha4 hn4;refine⟨G,Q,S4,k5,W,q,s5,e5,λH6 o u s6=>?_⟩;obtain⟨F,A⟩:=u.held T U;have xx:=((aq.trans I.aside).trans x5.aside).trans u.aside;have p:dX K H6 o f vs3:=((w.ext I).ext x5).ext u;cases k5 with
    |true=>
     obtain⟨⟨q1,r7,S7⟩,e7,c⟩:=R3 c;obtain⟨⟨z1,r8,S8⟩,e8,c⟩:=R4 c;cases c;refine hb _ _ _ ⟨G,o,W,f,vs3,q1,r7,S7,F,A,p,q.ext u,s6,e7,?_,fun σ8 H8 mu8 av x8 N au v he8 s8=>⟨r7,mu8,S7,f++q1,av,z1,xx.trans x8,N,au,v,he8,s8,e8,?_,?_⟩⟩
     ·rw[lA1]at l;dsimp only at l;lia
     ·rw[<- n,bE]
     ·have:=v.length;have h3:=p.length;rw[lA1]at this l;dsimp only at l;lia
    |false=>exact⟨G,o,W,f,vs3,xs3,xx,F,A,p,q.ext u,s6,c,n,l⟩
  ·cases c
theorem B2{K:Fg1}{a:dk}{m:FI}{g:FG}{t:FT}{b:FV}{tb:TS}(hb:∀E σ H,KB K a b E σ H->tb E σ H){E:ju}{σ:L2.St}{H:Hp}(h:KB K a (CU m g t b) E σ H):AT (KX K m) (HJ K g) (AU K t) tb E σ H:=by
 obtain⟨r,mu,S,s,vs,xs,B,A,o,f,p,n,z,e,x,hc⟩:=h;obtain⟨⟨ao,v⟩,w,e⟩:=R3 e;refine⟨r,mu,S,ao,v,n,z,w,λj H1 mu1 c u q=>?_⟩;obtain⟨d,k⟩:=c.held o f;exact uH hb u (Ext.refl _ _).w d k (p.ext c) (n.ext c) q e x λi H' mu' l y=>hc i H' mu' l (c.aside.trans y)
theorem py{K:Fg1}{k:Nat}{keep:List Nat}{m:FI}{g:FG}{t:FT}{b:FV}{tb:dk->TS}(hb:∀ a E σ H,KB K a b E σ H->tb a E σ H){σ:L2.St}{H:Hp}{Q:VK}(h:tM K (eA k keep m g t b) σ H Q):
  AW k keep (KX K m) (HJ K g) (AU K t) tb σ H Q:=by
 obtain⟨r,mu,S,d,au,L,X,f,hc⟩:=h;obtain⟨⟨ao,R⟩,T,f⟩:=R3 f;obtain⟨⟨xs,r2,F⟩,U,f⟩:=R3 f;dsimp only at f;split at f
 ·rename_i W;cases f;refine ⟨r,mu,S,ao,R,L,X,T,fun j H1 mu1 aq av I p i=>?_⟩;have w:Ext mu1 mu1 H1 (upd H1 p (.lst [])):=Ext.fresh i;refine uH (hb p) av w.w d9 (I.notin i) .nil ((LN k keep (L.ext aq)).ext w) (I.fresh i) U (by simpa using W) fun V H' mu' s v D A C P s'=>?_;have y:Ext mu1 (mu'++[p]) H1 H':=by
   refine⟨((bT.mp v.pre).2).trans (bv _ _),λb o e n=>?_,λb ys e=>v.tup b ys (w.tup b ys e),λb o u e=>v.frz b o u (w.frz b o u e),λb B=>?_⟩
   ·have G:b≠p:=eu e i;exact v.old b o (by rw [d6 G];exact e) fun z=>by
     rcases aF.mp z with z|z
     ·exact G z
     ·exact n z
   ·rcases aG.mp B with z|z
    ·rcases v.new b (mC1 _ z)with q|q
     ·rcases aF.mp q with q|q
      ·exact .inr (by rw[q];exact i)
      ·exact .inl q
     ·by_cases l:b=p
      ·exact .inr (by rw[l];exact i)
      ·rw[d6 l]at q;exact .inr q
    ·have:b=p:=by simpa using z
     exact .inr (by rw[this];exact i)
  refine hc _ H' (mu'++[p]) (aq.trans y) (.ref (hK s'.len p)) ⟨by rw[lA1,lA1,s'.len];rfl,?_,λn o b h1 h2=>?_⟩
  ·rw[bx];refine⟨s'.nd,by simp,λb hb c hc e=>?_⟩;have:c=p:=by simpa using hc
   subst this;subst e;exact A hb
  ·by_cases N:n<F.length
   ·rw[gL1 N]at h1;rw[gL1 (by rw[s'.len];exact N)]at h2;exact(s'.ob n o b h1 h2).mor [p]
   ·have x:n=F.length:=by
     have:=(R1 h1).1;rw[lA1]at this;simp at this;lia
    subst x;rw[gR1 (nR1 _)]at h1;rw[<- s'.len,gR1 (nR1 _)]at h2;simp at h1 h2;subst h1;subst h2;exact⟨s,D,(by simpa using C:dX K H' mu' xs s).mor [p]⟩
 ·cases f
theorem qZ{elt tg iter:Expr}{ifs:List Expr}{scope:dF}{pos:Pos}{T:List Str}{keep:List Nat}{f:List (Str×dk)}{m:FI}{g:FG}{t:FT}{e:FE}(hc:X.calm=M)(C:KH X scope T keep)(d:jS X.env.cells scope.names []=Z f)(hi:XI X tg iter m)(hb:∀s H fp,NS (cxC X scope f T keep s H fp) X.K tg ifs elt g t e)(hs:autoParam (∀x,P5 iter X.env x=pure x) du0):XE X (.ListComp elt [⟨tg,iter,ifs,0⟩] scope pos) (eA T.length keep m g t (ee e)):=
 ⟨eM (E2 (emit:=pu elt) (tb:=λp=>tY p (tM X.K e)) hc (λit c b=>AL elt tg iter ifs scope pos it c b) C d hi.h (λs H fp p=>⟨(hb s H fp).g.h,(hb s H fp).t.h,sA (hb s H fp).e.h p⟩) hs)
  fun σ H Q h=>py (λa E σ H q=>pr q) h⟩
theorem hZ{elt tg iter:Expr}{ifs:List Expr}{scope:dF}{pos b l:Pos}{y:Str}(i:Nat){T:List Str}{keep:List Nat}{k:List (Str×dk)}{m:FI}{g:FG}{t:FT}{e:FE}(hc:X.calm=M)(C:KH X scope T keep)(d:jS X.env.cells scope.names []=Z k)(hi:XI X tg iter m)(hb:∀s H fp,NS (cxC X scope k T keep s H fp) X.K tg ifs elt g t e)(hN:X.N.Nodup)(hy:X.N[i]?=Z y)(hx:vy X.env.scope y)(c:autoParam (PC (.ListComp elt [⟨tg,iter,ifs,0⟩] scope pos) (Z (.Name y l)) b.line X.env=pure M) cu0)(hf:autoParam (X.fn y=M\/X.env.scope.names.lookup y=Z .local) au0)(hs:autoParam (∀x,P5 iter X.env x=pure x) du0):XS X (.Assign [.Name y l] (.ListComp elt [⟨tg,iter,ifs,0⟩] scope pos) b) (dS (eA T.length keep m g t (ee e)) (gN i)):=
 ⟨il (xu (emit:=pu elt) (tb:=λp=>tY p (tM X.K e)) hc c (λit j f=>AL elt tg iter ifs scope pos it j f) C d hi.h (λs H fp p=>⟨(hb s H fp).g.h,(hb s H fp).t.h,sA (hb s H fp).e.h p⟩) hN hy hx hf hs)
  λE σ H h=>Dw (fun σ H Q q=>py (λa E σ H q=>pr q) q) h⟩
theorem yH{elt tg iter tg2 iter2:Expr}{ifs ifs2:List Expr}{scope:dF}{pos b o:Pos}{y:Str}(i:Nat){T:List Str}{keep:List Nat}{l:List (Str×dk)}{m m2:FI}{g k:FG}{t n:FT}{e:FE}(hc:X.calm=true)(C:KH X scope T keep)(f:jS X.env.cells scope.names []=some l)(hi:XI X tg iter m)(hb:∀s H fp,O4 (cxC X scope l T keep s H fp) X.K tg ifs tg2 iter2 ifs2 elt g t m2 k n e)(hN:X.N.Nodup)(hy:X.N[i]?=some y)(hx:vy X.env.scope y)(d:autoParam (PC (.ListComp elt [⟨tg,iter,ifs,0⟩,⟨tg2,iter2,ifs2,0⟩] scope pos) (some (.Name y o)) b.line X.env=pure true) cu0)(hf:autoParam (X.fn y=true\/X.env.scope.names.lookup y=some .local) au0)(hs:autoParam (∀x,P5 iter X.env x=pure x) du0)(hs2:∀c x,P5 iter2 c x=pure x:=by intro _ _;rfl):
  XS X (.Assign [.Name y o] (.ListComp elt [⟨tg,iter,ifs,0⟩,⟨tg2,iter2,ifs2,0⟩] scope pos) b) (dS (eA T.length keep m g t (CU m2 k n (ee e))) (gN i)):=
 ⟨il (xu (emit:=ro (.ListComp elt [⟨tg,iter,ifs,0⟩,⟨tg2,iter2,ifs2,0⟩] scope pos) iter2) (tb:=fun p=>AT (KX X.K m2) (HJ X.K k) (AU X.K n) (tY p (tM X.K e))) hc d (fun it j c=>Hz elt tg iter tg2 iter2 ifs ifs2 scope pos it j c) C f hi.h
   (λs H fp p=>⟨(hb s H fp).g.h,(hb s H fp).t.h,EK (X:=cxC X scope l T keep s H fp) O hc (hb s H fp).i2.h (hb s H fp).g2.h (hb s H fp).t2.h (sA (hb s H fp).e.h p) (hs2 _)⟩) hN hy hx hf hs)
  λE σ H h=>Dw (fun σ H Q q=>py (λa E σ H q=>B2 (λ_ _ _ z=>pr z) q) q) h⟩
noncomputable def nH:D->Option Key
 | .int i=>Z (.inl i)
 | .str x=>Z (.inr x)
 |_=>Y
noncomputable def dU{κ:Type}[DecidableEq κ](kvs:List (κ×D))(k:κ):Option D:=(kvs.find? λp=>decide (p.1=k)).map (·.2)
noncomputable def gU{κ:Type}[DecidableEq κ](kvs:List (κ×D))(k:κ)(d:D):List (κ×D):=
 if(kvs.any λp=>decide (p.1=k))=M then kvs.map (λp=>if p.1=k then(p.1,d)else p)else kvs++[(k,d)]
section
variable{K:Fg1}{H:Hp}{mu:List dk}
theorem kn{d:D}{v:V}{k:Key}(r:eW K H mu d v)(h:nH d=Z k):v=kV k:=by
 cases r with
 |int i=>cases h;rfl
 |str x=>cases h;rfl
 |_=>cases h
end
section
variable{κ:Type} [DecidableEq κ] {K:Fg1}{H:Hp}{mu:List dk}
theorem KR.length:∀{ks:List (κ×D)} {ws:List (κ×V)},KR K H mu ks ws->ks.length=ws.length:=λh=>Paired.length h
theorem KR.look{k:κ}:∀ {ks:List (κ×D)} {ws:List (κ×V)},KR K H mu ks ws ->
  (∀d,dU ks k=Z d -> ∃v,hA ws k=Z v/\eW K H mu d v)/\(dU ks k=Y->hA ws k=Y):=by
 intro ks ws h
 induction h with
 |nil=>exact⟨λd h=>by simp[dU]at h,λ_=>rfl⟩
 | @cons p q ks ws r t ih=>
  obtain⟨b,c⟩:=p;obtain⟨j,f⟩:=q;obtain⟨e,r⟩:=r;dsimp only at e r;subst e;obtain⟨h1,h2⟩:=ih;by_cases a:b=k
  ·subst a;refine⟨λd h=>?_,λh=>?_⟩
   ·have:c=d:=by simpa[dU]using h
    subst this;exact⟨f,by simp[hA],r⟩
   ·simp[dU]at h
  ·have g:dU ((b,c)::ks) k=dU ks k:=by simp[dU,bc,a]
   have i:hA ((b,f)::ws) k=hA ws k:=by simp[hA,bc,a]
   rw[g,i];exact⟨h1,h2⟩
theorem KR.any{k:κ}:∀{ks:List (κ×D)} {ws:List (κ×V)},KR K H mu ks ws->(ks.any λp=>decide (p.1=k))=ws.any λp=>decide (p.1=k):=by
 intro ks ws h
 induction h with
 |nil=>rfl
 |cons r t ih=>rw[bd,bd,ih,r.1]
theorem KR.repl{k:κ}{d:D}{v:V}(q:eW K H mu d v):∀ {ks:List (κ×D)} {ws:List (κ×V)},KR K H mu ks ws ->
  KR K H mu (ks.map λp=>if p.1=k then(p.1,d)else p) (ws.map λp=>if p.1=k then(p.1,v)else p):=by
 intro ks ws h
 induction h with
 |nil=>exact .nil
 | @cons a b ks ws r t ih=>
  refine .cons ?_ ih;obtain⟨e,r⟩:=r;dsimp only;by_cases h:a.1=k
  ·rw[ak h,ak (e ▸ h)];exact⟨e,q⟩
  ·rw[aj h,aj (e ▸ h)];exact⟨e,r⟩
theorem KR.snoc{k:κ}{d:D}{v:V}(q:eW K H mu d v):∀{ks:List (κ×D)} {ws:List (κ×V)},KR K H mu ks ws->KR K H mu (ks++[(k,d)]) (ws++[(k,v)]):=by
 intro ks ws h
 induction h with
 |nil=>exact .cons ⟨O,q⟩ .nil
 |cons r t ih=>exact .cons r ih
theorem KR.put{k:κ}{d:D}{v:V}(q:eW K H mu d v){ks:List (κ×D)}{ws:List (κ×V)}(h:KR K H mu ks ws):KR K H mu (gU ks k d) (hR ws k v):=by
 unfold gU hR;rw[h.any];split
 ·exact h.repl q
 ·exact h.snoc q
end
def wp:G2:=λd e S=>match e with
 | .ref n=>match S[n]? with
  |some (.dct kvs)=>(nH d).map λk=>(.bl (dU kvs k).isSome,S)
  |_=>KE d e S
 |_=>KE d e S
def ji:G2:=λd e S=>match e with
 | .ref n=>match S[n]? with
  |some (.dct kvs)=>(nH d).map λk=>(.bl (!(dU kvs k).isSome),S)
  |_=>mO d e S
 |_=>mO d e S
def mQ:G2:=λd e S=>match d with
 | .ref n=>match S[n]? with
  |some (.dct kvs)=>(nH e).bind λk=>(dU kvs k).map λx=>(x,S)
  |_=>D2 d e S
 |_=>D2 d e S
def nj:G3:=λo i v S=>match o with
 | .ref n=>match S[n]? with
  |some (.dct kvs)=>(nH i).bind λk=>if kvs.length<dy then Z (.non,S.set n (.dct (gU kvs k v)))else Y
  |_=>lh o i v S
 |_=>lh o i v S
theorem oV{K:Fg1}{H:Hp}{mu:List dk}{S:Sto}(hs:Sim K H mu S){n:Nat}{a:dk}{kvs:List (Key×D)}{k:Key}{y:V}(hn:mu[n]? = some a)(he:S[n]? = some (.dct kvs))(hy:y=kV k):
  ∃o:Option V,qh H a y o/\(∀d,dU kvs k=Z d -> ∃v,o=Z v/\eW K H mu d v)/\(dU kvs k=Y->o=Y)/\o.isSome=(dU kvs k).isSome:=by
 obtain⟨ws,c,b⟩:=hs.dct he hn;subst hy;obtain⟨h1,h2⟩:=b.look (k:=k);refine⟨hA ws k,qh.k c,h1,h2,?_⟩;cases e:dU kvs k with
 |none=>rw[h2 e];rfl
 |some d=>obtain⟨v,f,_⟩:=h1 d e;rw[f];rfl
theorem Lv(t:X.A.units+64<Qe):gE X (P7 .In) (r2 X.K (b2 wp)):=by
 intro ag s σ H x y u w Q I j i h;obtain⟨mu,S,d,e,r,f,l,b,c,a,hc⟩:=pT h;have back:KE d e S=Z (r,f)->dz (Pt X.prog X.w) X.A (P7 .In u w) (EP X ag σ Q) X.xe s:=λa=>Np t ag s σ H x y u w Q I j i ⟨mu,S,[d,e],r,f,.cons l (.cons b .nil),c,a,hc⟩;unfold wp at a;split at a
 ·rename_i n;split at a
  ·rename_i kvs q;obtain⟨k,p,a⟩:=R4 a;cases a;cases b with
   |ref m=>
    cases i;obtain⟨o,g,_,_,hi⟩:=oV c m q (kn l p);exact NI (by lia) I g j λs' v=>⟨.bl o.isSome,H,v,O,by rw[hi];exact hc.now (.bl _) c⟩
  ·exact back a
 ·exact back a
theorem BX(t:X.A.units+64<Qe):gE X (P7 .NotIn) (r2 X.K (b2 ji)):=by
 intro ag s σ H x y u w Q I j i h;obtain⟨mu,S,d,e,r,f,l,b,c,a,hc⟩:=pT h;have back:mO d e S=Z (r,f)->dz (Pt X.prog X.w) X.A (P7 .NotIn u w) (EP X ag σ Q) X.xe s:=λa=>Fe t ag s σ H x y u w Q I j i ⟨mu,S,[d,e],r,f,.cons l (.cons b .nil),c,a,hc⟩;unfold ji at a;split at a
 ·rename_i n;split at a
  ·rename_i kvs q;obtain⟨k,p,a⟩:=R4 a;cases a;cases b with
   |ref m=>
    cases i;obtain⟨o,g,_,_,hi⟩:=oV c m q (kn l p);exact Gs (by lia) I g j λs' v=>⟨.bl (!o.isSome),H,v,O,by rw[hi];exact hc.now (.bl _) c⟩
  ·exact back a
 ·exact back a
theorem KI(P:X.A.units+64<Qe):Ho X (r2 X.K (b2 mQ)):=by
 intro value b ag s σ H x y v u Q I A w h l;obtain⟨mu,S,d,e,r,t,C,j,p,c,hc⟩:=pT h;have back:D2 d e S=Z (r,t)->dz (Pt X.prog X.w) X.A (QE value b v u) (EP X ag σ Q) X.xe s:=λc=>MV value b ag s σ H x y v u Q I A w ⟨mu,S,[d,e],r,t,.cons C (.cons j .nil),p,c,hc⟩ l;unfold mQ at c;split at c
 ·rename_i n;split at c
  ·rename_i kvs L;obtain⟨k,D,c⟩:=R3 c;obtain⟨z,N,c⟩:=R4 c;cases c;cases C with
   | @ref _ a K=>
    cases A;obtain⟨o,g,h1,_,_⟩:=oV p K L (kn j D);obtain⟨aq,G,ao⟩:=h1 _ N;subst G;have B:=u9 I g;unfold QE;refine wB1 ?_;rw[getitemInPython_of_ne B.not_modules];refine wB1 (Rs B PySem.F.slot_dict_getitem.lookup ?_);have i:dz (Pt X.prog X.w) X.A (subscripted b J (.ref a) u) (λr f=>dz (Pt X.prog X.w) X.A (letTemporaryGo value (.ref a) r >>= λ_=>pure r) (EP X ag σ Q) X.xe f) X.xe s:=by
     rw[l];exact wpAny_operating (Pv (zQ (by lia) I g w λF E av q=>(⟨aq,H,av,q,hc.now ao p⟩:EP X ag σ Q F E)) (λr f m=>wB1 (wpAny_letTemporaryGo (wP1 m))) λ_ _ x=>x)
    first
     |exact wP1 (wB1 i)
     |exact wB1 i
     |exact i
  ·exact back c
 ·exact back c
theorem HS(L:X.A.units+64<Qe):wO X (rU X.K (b3 nj)):=by
 intro ag s σ H o i v z p u Q I y l m h;obtain⟨mu,S,ds,d,f,B,e,a,hc⟩:=id h;cases B with
 |cons r D=>cases D with
  |cons g C=>cases C with
   |cons j G=>
    cases G;rename_i q w t;dsimp only[b3]at a;have back:lh q w t S=Z (d,f)->dz (Pt X.prog X.w) X.A (setItem z p u) (λ_ s'=>∃H',Inv X ag σ H' s'/\Q H') X.xe s:=λa=>K5 ag s σ H o i v z p u Q I y l m ⟨mu,S,[q,w,t],d,f,.cons r (.cons g (.cons j .nil)),e,a,hc⟩;unfold nj at a;split at a
    ·rename_i n;split at a
     ·rename_i kvs E;obtain⟨k,A,a⟩:=R3 a;split at a
      ·rename_i K;cases a;cases r with
       |ref b=>
        cases y;obtain⟨ws,c,x⟩:=e.dct E b;have ao:=kn g A;subst ao;refine zP (by lia) I (Ai.k c (by rw[<- x.length];exact K)) l m λs' F=>⟨_,F,?_⟩;have put:Ext mu mu H (upd H _ (.dK (hR ws k v))):=Ext.put c trivial (gM1 b);exact hc _ mu put (e.put b c trivial ⟨_,d9,(x.put j).ext put⟩)
      ·cases a
     ·exact back a
    ·exact back a
def wo:G2:=λd e S=>match e with
 | .non=>Z (.bl (q3 d),S)
 | .bl b=>match d with
  | .bl c=>Z (.bl (c == b),S)
  |_=>Y
 |_=>Y
def hW:G2:=λd e S=>match e with
 | .non=>Z (.bl (!q3 d),S)
 | .bl b=>match d with
  | .bl c=>Z (.bl (!(c == b)),S)
  |_=>Y
 |_=>Y
theorem G5:gE X (P7 .Is) (r2 X.K (b2 wo)):=by
 intro ag s σ H x y u w Q I i g h;obtain⟨mu,S,d,e,r,l,j,a,k,f,hc⟩:=pT h;cases e with
 |non=>exact Lu ag s σ H x y u w Q I i g ⟨mu,S,[d,.non],r,l,.cons j (.cons a .nil),k,f,hc⟩
 |bl b=>
  cases d with
  |bl c=>
   cases f;cases j;cases a;cases i;cases g;exact is_bool ⟨.bl (c == b),H,I,O,hc.now (.bl _) k⟩
  |_=>cases f
 |_=>cases f
theorem oP:gE X (P7 .IsNot) (r2 X.K (b2 hW)):=by
 intro ag s σ H x y u w Q I i g h;obtain⟨mu,S,d,e,r,l,j,a,k,f,hc⟩:=pT h;cases e with
 |non=>exact IL ag s σ H x y u w Q I i g ⟨mu,S,[d,.non],r,l,.cons j (.cons a .nil),k,f,hc⟩
 |bl b=>
  cases d with
  |bl c=>
   cases f;cases j;cases a;cases i;cases g;exact isnot_bool ⟨.bl (!(c == b)),H,I,O,hc.now (.bl _) k⟩
  |_=>cases f
 |_=>cases f
noncomputable def oT:FE:=λ_ S=>Z (.ref S.length,S++[.dct []])
theorem oe{pos:Pos}:XE X (.Dict [] [] pos) oT:=⟨eM BH <| by
 rintro σ H Q ⟨r,mu,S,d,e,f,a,c,hc⟩ p b;cases c;exact hc _ _ (mu++[p]) (Ext.new_ b) (.ref (hK a.len p)) (a.new b ⟨[],d9,.nil⟩)⟩
noncomputable def FC:List (FE×FE)->Ev->Sto->Option (List (D×D)×Sto)
 |[],_,S=>Z ([],S)
 |(a,b)::l,r,S=>(a r S).bind λp=>(b r p.2).bind λq=>(FC l r q.2).map λt=>((p.1,q.1)::t.1,t.2)
def xU:List (D×D)->Option (List (Key×D))
 |[]=>Z []
 |(k,d)::l=>(nH k).bind λk=>(xU l).map λt=>(k,d)::t
def xL(l:List (FE×FE)):FE:=λr S=>(FC l r S).bind λp=>(xU p.1).bind λkvs=>if kvs.length<=15 then Z (.ref p.2.length,p.2++[.dct (kvs.foldl (λacc kv=>gU acc kv.1 kv.2) [])])else Y
structure XP (X:Cx)(pos:Pos)(ks:List (Option Expr))(vs:List Expr)(l:List (FE×FE)):Prop where
 h:Mq X pos ks vs (l.map λp=>(tM X.K p.1,tM X.K p.2))
theorem Eb{pos:Pos}:XP X pos [] [] []:=⟨EQ⟩
theorem lu{pos:Pos}{k v:Expr}{ks:List (Option Expr)}{vs:List Expr}{a b:FE}{l:List (FE×FE)}(hk:XE X k a)(hv:XE X v b)(t:XP X pos ks vs l):XP X pos (Z k::ks) (v::vs) ((a,b)::l):=⟨Bw hk.h hv.h t.h⟩
theorem Bv{K:Fg1}{σ:L2.St}:∀ {l:List (FE×FE)} {r:Ev} {mu:List dk} {H:Hp} {S S':Sto} {ps:List (D×D)} {Q:List (V×V)->Hp->Prop},fI K H mu r σ->Sim K H mu S->FC l r S=some (ps,S') ->
  (∀vs H' mu',Ext mu mu' H H'->Paired (λ(p:D×D) (q:V×V)=>eW K H' mu' p.1 q.1/\eW K H' mu' p.2 q.2) ps vs->Sim K H' mu' S'->Q vs H')->rZ (l.map λp=>(tM K p.1,tM K p.2)) σ H Q
 |[],r,mu,H,S,S',ps,Q,he,hs,c,hc=>by cases c;exact hc [] H mu (.refl _ _) .nil hs
 |(a,b)::l,r,mu,H,S,S',ps,Q,he,hs,c,hc=>by
  obtain⟨⟨d,i⟩,u,c⟩:=R3 c;obtain⟨⟨x,j⟩,w,c⟩:=R3 c;obtain⟨⟨t,C⟩,z,c⟩:=R4 c;cases c;refine⟨r,mu,S,d,i,he,hs,u,λv H1 mu1 g A o=>⟨r,mu1,i,x,j,he.ext g,o,w,λB H2 m h r2 s=>?_⟩⟩;refine Bv ((he.ext g).ext h) s z λvs y e f k n=>hc _ y e ((g.trans h).trans f) (.cons ⟨(A.ext h).ext f,r2.ext f⟩ k) n
theorem Ct{K:Fg1}{H:Hp}{mu:List dk}:∀ {ps:List (D×D)} {vs:List (V×V)} {kvs:List (Key×D)},Paired (fun (p:D×D) (q:V×V)=>eW K H mu p.1 q.1/\eW K H mu p.2 q.2) ps vs->xU ps=some kvs ->
  ∃ws:List (Key×V),vs=ws.map (λc=>(kV c.1,c.2))/\KR K H mu kvs ws:=by
 intro ps vs kvs i h
 induction i generalizing kvs with
 |nil=>cases h;exact⟨[],O,.nil⟩
 | @cons a b ps vs q t ih=>
  obtain⟨k,d⟩:=a;obtain⟨m,j⟩:=b;obtain⟨g,f,h⟩:=R3 h;obtain⟨rest,l,h⟩:=R4 h;cases h;obtain⟨ws,e,r⟩:=ih l;have:=kn q.1 f;dsimp only at this;subst this;exact⟨(g,j)::ws,by rw[mP1,<- e],.cons ⟨O,q.2⟩ r⟩
theorem Cc{K:Fg1}{H:Hp}{mu:List dk}:∀{kvs:List (Key×D)} {ws:List (Key×V)} {acc:List (Key×D)} {acw:List (Key×V)},KR K H mu kvs ws->KR K H mu acc acw->KR K H mu (kvs.foldl (λacc c=>gU acc c.1 c.2) acc) (jf acw ws):=by
 intro kvs ws acc acw f h
 induction f generalizing acc acw with
 |nil=>exact h
 | @cons a b kvs ws r t ih=>
  obtain⟨k,d⟩:=a;obtain⟨g,v⟩:=b;obtain⟨e,r⟩:=r;dsimp only at e r;subst e;show KR K H mu (kvs.foldl _ (gU acc k d)) (jf (hR acw k v) ws);exact ih (h.put r)
theorem Ax{pos:Pos}{ks:List (Option Expr)}{vs:List Expr}{l:List (FE×FE)}(h:XP X pos ks vs l)(v:autoParam (ks.all (·.isSome)=M) cu0)(R:autoParam (ks.length=vs.length) cu0)(P:ks≠[]:=by(intro z;cases z))(A:autoParam (ks.length<=15) bu0):XE X (.Dict ks vs pos) (xL l):=
 ⟨eM (E1 h.h v R P A) <| by
  rintro σ H Q ⟨r,mu,S,d,T,K,G,f,hc⟩ p i;obtain⟨⟨ps,E⟩,L,f⟩:=R3 f;obtain⟨kvs,aq,f⟩:=R3 f;dsimp only at f;split at f
  ·rename_i t;cases f;have C:Ext mu mu H (upd H p (.dK [])):=Ext.fresh i;refine Bv (K.ext C) (G.fresh i) L fun vs H1 mu1 j ao g=>?_;obtain ⟨k,s⟩:=j.held (a:=p) (o:=.dK []) d9 (G.notin i);obtain ⟨ws,av,rk⟩:=Ct ao aq;refine ⟨k,ws,av,by rw [<- rk.length];exact t,?_⟩;have put:Ext (p::mu1) (p::mu1) H1 (upd H1 p (.dK (jf [] ws))):=Ext.put k trivial mS1;have I:=g.aside put.inner s;have y:Ext mu (mu1++[p]) H (upd H1 p (.dK (jf [] ws))):=by
    refine⟨j.pre.trans (bv _ _),λb o e n=>?_,λb ys e=>put.tup b ys (j.tup b ys (C.tup b ys e)),λb o u e=>put.frz b o u (j.frz b o u (C.frz b o u e)),λb B=>?_⟩
    ·have D:b≠p:=eu e i;rw[d6 D];exact j.old b o (by rw[d6 D];exact e) n
    ·rcases aG.mp B with z|z
     ·rcases j.new b z with q|q
      ·exact .inl q
      ·by_cases m:b=p
       ·exact .inr (by rw[m];exact i)
       ·rw[d6 m]at q;exact .inr q
     ·have:b=p:=by simpa using z
      exact .inr (by rw[this];exact i)
   have x:=Cc rk (acc:=[]) (acw:=[]) .nil;refine hc _ _ (mu1++[p]) y (.ref (hK g.len p)) ⟨by rw[lA1,lA1,g.len];rfl,?_,λn o b h1 h2=>?_⟩
   ·rw[bx];refine⟨g.nd,by simp,λb N c hc e=>?_⟩;have:c=p:=by simpa using hc
    subst this;subst e;exact s N
   ·by_cases F:n<E.length
    ·rw[gL1 F]at h1;rw[gL1 (by rw[g.len];exact F)]at h2;exact(I.ob n o b h1 h2).mor [p]
    ·have w:n=E.length:=by
      have:=(R1 h1).1;rw[lA1]at this;simp at this;lia
     subst w;rw[gR1 (nR1 _)]at h1;rw[<- g.len,gR1 (nR1 _)]at h2;simp at h1 h2;subst h1;subst h2;exact⟨_,d9,KR.mor [p] (Paired.mapP x λ_ _ z=>⟨z.1,z.2.exw put.inner⟩)⟩
  ·cases f⟩
theorem JP{K:Fg1}{H:Hp}{mu:List dk}{S:Sto}(hs:Sim K H mu S){n:Nat}{a:dk}{kvs:List (Key×D)}(hn:mu[n]?=Z a)(he:S[n]?=Z (.dct kvs)):N2 H a:=by
 obtain⟨ws,b,_⟩:=hs.dct he hn;exact .inl ⟨ws,.inl b⟩
section
variable{K:Fg1}{H H':Hp}{mu mu':List dk}{S:Sto}
end
theorem ja{X:Cx}(i j:Nat){x y:Str}{a b:Expr}{m:FA}{n l pt pos:Pos}{kt k2 pt2}(hc:X.calm=true)(hN:X.N.Nodup)(hi:X.N[i]? = some x)(u:X.N[j]? = some y)(k:i≠j)(hx:X.env.scope.names.lookup x=some .local)(hy:X.env.scope.names.lookup y=some .local)(ha:XA X [a,b] m)(hw:autoParam (PQ [.Tuple [.Name x n,.Name y l] kt pt] (.Tuple [a,b] k2 pt2) X.env=pure (some [x,y])) cu0)(hs:autoParam (PP [.Tuple [.Name x n,.Name y l] kt pt] (.Tuple [a,b] k2 pt2) pos.line X.env=pure false) cu0):
  XS X (.Assign [.Tuple [.Name x n,.Name y l] kt pt] (.Tuple [a,b] k2 pt2) pos) (dS (eH m) (gT 2 (gCs (gN i) (gCs (gN j) gNl)))):=
 ⟨il (Ib hc hN hi u k hx hy ha.h hw hs) <| by
  rintro E σ H ⟨r,mu,S,f,B,w,o,hs,g,hc⟩;obtain⟨⟨d,A⟩,e,g⟩:=R3 g;obtain⟨⟨r2,z⟩,c,g⟩:=R3 g;cases g;obtain⟨⟨ds,C⟩,v,e⟩:=R3 e;dsimp only at e;split at e
  ·cases e;refine⟨r,mu,S,ds,_,o,hs,v,λvs H1 mu1 p h s=>?_⟩;dsimp only at c;rw[gT]at c;split at c
   ·cases h with
    |nil=>cases c
    |cons t h=>cases h with
     |nil=>cases c
     |cons q h=>cases h with
      |nil=>
       cases c;exact⟨_,_,O,hc _ H1 mu1 p (((o.ext p).set t).set q) s⟩
      |cons _ _=>cases c
   ·cases c
  ·cases e⟩
noncomputable def CP:G2:=λd e S=>match d,e with
 | .int i,.int j=>Z (.int (i+j),S)
 |_,_=>Y
theorem F7{X:Cx}:MQ X .Add (r2 X.K (b2 CP)):=by
 intro ag s σ H x y v u Q I f c h;obtain⟨mu,S,d,e,r,l,g,b,k,a,hc⟩:=pT h;unfold CP at a;split at a
 ·rename_i i j;cases a;cases g;cases b;exact F8 ag s σ H _ _ v u Q I f c ⟨i,j,O,O,hc.now (.int _) k⟩
 ·cases a
end Mi
namespace HT
open PySem PySem.Spec PyProof.Rows
variable{prog:dn}{w:dr}{A:dq}{E:di->dj->Prop}{s:dj}
theorem kC{t sl:dk}{items:Array di}{e f:di}{lo hi:Option Int}{Q:di->dj->Prop}(ht:IsTup s.heap t items)(hs:s.heap.IsSliceOf sl e f .none)(pl:Qw e lo)(i:Qw f hi)(hw:sIx items.size 0 lo=0/\sIx items.size items.size hi=items.size)(h:Q (.ref t) s):dz (Pt prog w) A (getItem (.ref t) (.ref sl)) Q E s:=by
 obtain⟨g,d,c,j⟩:=id hs;have b:s.TypeIs (.ref sl) "slice":=⟨g,d,c⟩;unfold getItem
 try with_reducible refine PM ?_
 first|refine wB1 (wP1 ?_)|skip
 refine wB1 (wpAny_sequenceKey ht.typeIs (by decide) ?_);refine wB1 (Qy (name:=Qz "__getitem__") ht.typeIs QA
  (wE1 QA ht.typeIs entry_tuple_getitem ?_ (args_tuple_getitem _ _)))
 show dz _ _ (QB (.ref t) >>= _) _ _ s;refine wB1 (tupleItemsOf_ ht ?_);refine wB1 (QC b ?_);rw[ak (by decide)];refine wB1 (iR hs pl i ?_);have a:((((sIx items.size 0 lo:Nat):Int) == 0&&(1:Int) == 1&&(sIx items.size items.size hi-sIx items.size 0 lo) == items.size)=M):=by
  rw[hw.1,hw.2];simp
 show dz _ _ (if(((sIx items.size 0 lo:Nat):Int) == 0&&(1:Int) == 1&&(sIx items.size items.size hi-sIx items.size 0 lo) == items.size)=M then _ else _) _ _ s;rw[ak a];refine wB1 ?_;unfold Builtin.Tuple.tupleIsExact;refine wB1 (QC ht.typeIs (wP1 ?_));rw[ak (by decide)]
 first
  |exact wB1 (PR (wP1 ⟨_,rfl,wP1 h⟩))
  |exact wB1 (PR (wB1 (wP1 ⟨_,rfl,wP1 h⟩)))
end HT
namespace Mi
open PySem PySem.Spec PyProof.Rows L2
def Ni(K:Fg1):V->Option Int->Option Int->Hp->VK->Prop:=λx lo hi H Q=>∃a xs,x = .ref a/\kA K H a xs/\(HT.sIx xs.length 0 lo=0/\HT.sIx xs.length xs.length hi=xs.length)/\Q (.ref a) H
variable{X:Cx}
theorem Eu:D5 X (Ni X.K):=by
 intro ag s σ H x v l n lo hi k Q I e i pl j h;obtain⟨a,xs,rfl,g,f,q⟩:=h;cases e;obtain⟨c,r,d,m⟩:=I.tuple g;have b:c.toArray.size=xs.length:=by rw[sT1];exact r.length.symm
 refine⟨"tuple",_,PyProof.Rows.slot_tuple_getitem.lookup,d.typeIs,?_⟩;exact HT.kC d i pl j (by rw[b];exact f) ⟨.ref a,H,I,O,q⟩
def sf(S:Sto)(d:D)(lo hi:Option Int):Option (D×Sto):=(dZ S d).map λp=>if p.1=M then(.ref S.length,S++[.lst (Mi.l8 p.2 lo hi)])else(.tup (Mi.l8 p.2 lo hi),S)
def kB(m:FE)(lo hi:FO):FE:=λr S=>(m r S).bind λp=>(lo r p.2).bind λa=>(hi r a.2).bind λb=>sf b.2 p.1 a.1 b.1
theorem zR{xs:List D}{lo hi:Option Int}(h:HT.sIx xs.length 0 lo=0/\HT.sIx xs.length xs.length hi=xs.length):Mi.l8 xs lo hi=xs:=by
 unfold Mi.l8;rw[h.1,h.2,List.drop_zero,Nat.sub_zero,bU]
theorem gh{e:Expr}{lo hi:Option Expr}{m:FE}{a b:FO}{pos p2:Pos}(h:XE X e m)(N:XO X lo a)(aq:XO X hi b):XE X (.Subscript e (.Slice lo hi Y p2) pos) (kB m a b):=
 ⟨eM (BF (D5.or Eu (D5.or HP Ew)) h.h N.h aq.h) <| by
  rintro σ H Q ⟨r,mu,S,d,P,u,av,f,hc⟩;obtain⟨⟨E,A⟩,F,f⟩:=R3 f;obtain⟨⟨l,z⟩,G,f⟩:=R3 f;obtain⟨⟨n,I⟩,ao,f⟩:=R3 f;refine⟨r,mu,S,E,A,u,av,F,λv H1 mu1 w L C=>?_⟩;refine⟨r,mu1,A,l,z,u.ext w,C,G,λH2 o x D=>?_⟩;refine⟨r,o,z,n,I,(u.ext w).ext x,D,ao,λR g B j=>?_⟩;obtain⟨⟨k,xs⟩,K,f⟩:=R4 f;have y:=(w.trans x).trans B;obtain⟨c,vs,rfl,q,t⟩:=dW ((L.ext x).ext B) j K;cases k with
  |true=>
   cases f;right;right;exact⟨c,vs,O,q,λp i=>hc _ _ (g++[p]) (y.trans (Ext.new_ i)) (.ref (hK j.len p)) (j.newL (yo t l n) i)⟩
  |false=>
   simp only[bF1,Qt]at f;cases f;by_cases s:HT.sIx xs.length 0 l=0/\HT.sIx xs.length xs.length n=xs.length
   ·left;rw[zR s]at hc;exact⟨c,vs,O,q,by rw[<- t.length];exact s,hc _ _ g y (.tup q t) j⟩
   ·right;left;exact⟨c,vs,O,q,by rw[<- t.length];exact s,λp i=>hc _ _ g (y.trans (Ext.fresh i)) (.tup (kA.of d9) ((yo t l n).ext (Ext.fresh i))) (j.fresh i)⟩⟩
mutual
inductive e6 (h:dB):TK->di->Prop
 |non:e6 h .non .none
 |int (i t):e6 h (.int i) (.int i t)
 |tup {a o items n xs}:h.get? a=some o->o.cls = .type "tuple"->o.data = .seq items n->fm h xs items.toList->e6 h (.tup xs) (.ref a)
inductive fm (h:dB):List TK->List di->Prop
 |nil:fm h [] []
 |cons {k v ks vs}:e6 h k v->fm h ks vs->fm h (k::ks) (v::vs)
end
section
variable{prog:dn}{w:dr}{A:dq}{E:di->dj->Prop}{s:dj}
theorem uk{Q:Int->dj->Prop}(h:Q 0xFCA86420 {s with toks:=s.toks+1}):dz (Pt prog w) A (pyHash .none) Q E s:=by
 have a:s.TypeIs .none "NoneType":=rfl;unfold pyHash
 first|unfold pyHashByItsType|skip
 have b:[Ph].any Value.onHeap=J:=rfl;refine wB1 ?_;rw[cRoomFor,aj (by rw[b];exact aL)];refine wP1 ?_;refine wB1 (Rs a F.slot_NoneType_hash.lookup ?_);show dz _ _ (if(Z (Value.builtin "NoneType.__hash__") == Z Ph)=M then _ else _) Q E s;rw[aj (by rw[beq_builtin_none];exact aL)];refine wB1 (Rs a F.slot_NoneType_hash.lookup ?_);show dz _ _ (callSpecialIfBoundUnlessNone? .none "__hash__" _ >>= _) Q E s;refine wB1 (Rt a F.slot_NoneType_hash (wE1 F.slot_NoneType_hash a F.entry_NoneType_hash (show dz _ _ (retInt 0xFCA86420) _ _ s from wpAny_ret_mkInt ?_) (F.args_NoneType_hash_1 _)));exact wP1 h
def tQ(prog:dn)(w:dr)(k:TK):Prop:=∀{A:dq} {E:di->dj->Prop} {s:dj} {v:di} {Q:Int->dj->Prop},A.units+k.dep<Qe->e6 s.heap k v->Q k.hash {s with toks:=s.toks+k.draws}->dz (Pt prog w) A (pyHash v) Q E s
theorem fm.split{h:dB}:∀{ks:List TK} {vs:List di},fm h ks vs->ks.length=vs.length:=λa=>a.rec (motive_1:=λ_ _ _=>True) (motive_2:=λks vs _=>ks.length=vs.length) trivial (λ_ _=>trivial) (λ_ _ _ _ _=>trivial) O (λ_ _ _ ih=>congrArg (· + 1) ih)
theorem CH{xs:List TK}(all:∀k∈xs,tQ prog w k):tQ prog w (.tup xs):=by
 intro A E s v Q y u h;cases u with
 | @tup a o m n _ r hc t hi=>
  have i:s.TypeIs (.ref a) "tuple":=⟨o,r,hc⟩;rw[TK.dep]at y;unfold pyHash
  first|unfold pyHashByItsType|skip
  first|refine wB1 (wpAny_cRoomFor_or (.inr (by lia)) ?_)|skip
  refine wB1 (Rs i F.slot_tuple_hash.lookup ?_);show dz _ _ (if(Z (Value.builtin "tuple.__hash__") == Z Ph)=M then _ else _) Q E s;rw[aj (by rw[beq_builtin_none];exact aL)];refine wB1 (Rs i F.slot_tuple_hash.lookup ?_);show dz _ _ (callSpecialIfBoundUnlessNone? (.ref a) "__hash__" _ >>= _) Q E s;refine wB1 (Rt i F.slot_tuple_hash (wE1 F.slot_tuple_hash i F.entry_tuple_hash ?_ (F.args_tuple_hash_1 _)));show dz _ _ (QB (.ref a) >>= _) _ _ s;refine wB1 (wpAny_tupleItemsOf r t ?_);refine wB1 ?_;rw[<- bV];refine Rp _
   (λrest (b:Array Int) s'=>∃c d,xs=c++d/\fm s.heap d rest/\b.toList=TK.hashes c/\s'={s with toks:=s.toks+TK.drawsAll c})
   _ ?_ ?_ _ _ ⟨[],xs,O,hi,O,O⟩
  ·rintro x rest b s' ⟨c,d,e,p,l,rfl⟩;cases p with
   | @cons k _ g _ h1 f=>
    have q:k∈xs:=by rw[e];simp
    refine wB1 (all k q (show A.in1.units+k.dep<Qe by have:=TK.dep_mem q;rw[show A.in1.units=A.units+1 from rfl];lia) h1 ?_)
    first
     |exact wP1 ⟨c++[k],g,by simp[e],f,by rw[TK.hashes_app];simp[l,TK.hashes],by rw[TK.draws_app];simp[TK.drawsAll,bm]⟩
     |exact wB1 (wP1 (wP1 ⟨c++[k],g,by simp[e],f,by rw[TK.hashes_app];simp[l,TK.hashes],by rw[TK.draws_app];simp[TK.drawsAll,bm]⟩))
  ·rintro b s' ⟨c,d,e,p,l,rfl⟩;cases p;rw[aN]at e;subst e;show dz _ _ (retInt (QR b.toList)) _ _ _;rw[l];refine wpAny_ret_mkInt ?_;show dz _ _ (if(decide (-(2:Int)^63<=QR (TK.hashes xs))&&decide (QR (TK.hashes xs)<2^63))=M then _ else _) Q E _;rw[TK.hash,TK.draws]at h;unfold reduceHash at h;by_cases j:(decide (-(2:Int)^63<=QR (TK.hashes xs))&&decide (QR (TK.hashes xs)<2^63))=M
   ·rw[ak j];rw[ak j]at h;exact wP1 (by simpa[bm]using h)
   ·rw[aj j];rw[aj j]at h;exact wB1 (PR (wP1 (by simpa[bm]using h)))
mutual
theorem s0:∀k:TK,tQ prog w k
 | .non=>λb a h=>by cases a;exact uk h
 | .int i=>λb a h=>by cases a;exact wpAny_pyHash_int h
 | .tup xs=>CH (uS xs)
theorem uS:∀ks:List TK,∀k∈ks,tQ prog w k
 |[],k,h=>by simp at h
 |x::xs,k,h=>by
  by_cases e:k=x
  ·rw[e];exact s0 x
  ·exact uS xs k ((aF.mp h).resolve_left e)
end
end
theorem e6.inj{h:dB}:∀ {k k':TK} {v:di},e6 h k v->e6 h k' v->k=k':=fun e=>e.rec (motive_1:=fun k v _=>∀ k',e6 h k' v->k=k') (motive_2:=fun k v _=>∀ k',fm h k' v->k=k')
  (λk' g=>by cases g;rfl) (λ_ _ k' g=>by cases g;rfl)
  (λi m f n ih k' g=>by
   cases g with
   |tup c l d j=>
    rw[i]at c;cases c;rw[f]at d;cases d;rw[ih _ j])
  (λk' g=>by cases g;rfl) (λ_ _ a b k' g=>by cases g with|cons r' t'=>rw[a _ r',b _ t']) _
theorem e6.keeps{h h':dB}{d:dk}{o:Obj}{es ep}(ho:h.get? d=some o)(hd:o.data = .dict es ep)(hs:Ps d h h'):∀ {k:TK} {v:di},e6 h k v->e6 h' k v:=fun g=>g.rec (motive_1:=fun k v _=>e6 h' k v) (motive_2:=fun k v _=>fm h' k v) .non .int
  (λ{a} _ _ _ _ e f c _ ih=>.tup ((hs.2 a (λz=>by subst z;rw[e]at ho;cases ho;rw[c]at hd;cases hd)).trans e) f c ih) .nil (λ_ _ a b=>.cons a b)
theorem fm.at{h:dB}:∀{ks:List TK} {vs:List di} (j:Nat) (h1:j<ks.length) (h2:j<vs.length),fm h ks vs->e6 h ks[j] vs[j]
 |_::_,_::_,0,_,_,.cons r _=>r
 |_::ks,_::vs,j+1,h1,h2,.cons _ t=>fm.at j (by simpa using h1) (by simpa using h2) t
theorem Dy{xs ys:List TK}(b:xs.length=ys.length):((af (min xs.length ys.length)).all λj=>decide (xs[j]?=ys[j]?))=decide (xs=ys):=by
 by_cases h:xs=ys
 ·subst h;simp
 ·rw[ai h,List.all_eq_false];have:∃j,xs[j]? ≠ ys[j]?:=Ru λz=>h (bW λj=>Ru λq=>z ⟨j,q⟩);obtain⟨j,a⟩:=this;refine⟨j,?_,by simpa using a⟩;rw[aC,b,Nat.min_self];apply Ru;intro c;exact a (by rw[bX (by lia),bX (by lia)])
theorem Hg:∀(n:Nat) {k k':TK} {A:dq} {s:dj} {u v:di},k.dep<=n->A.units+n<Qe->e6 s.heap k u->e6 s.heap k' v->QH A s u v (decide (k=k')):=by
 intro n
 induction n with
 |zero=>
  intro k k' A s u v C R r g;cases r with
  |tup _ _ _ _=>simp[TK.dep]at C
  |non=>
   cases g with
   |non=>simpa using SeqAt.EqAt.same (A:=A) (s:=s) Ph
   |int i t=>simpa[vD]using ll (A:=A) (s:=s) (y:=.non) (x:=.int i) O ⟨t,O⟩ O O
   |tup e c d t=>simpa using(fv (A:=A) (s:=s) (b:=J) (v:=.non) (u:=.none) ⟨_,e,c,_,d⟩ O O (by lia)).2.1
  |int i t=>
   cases g with
   |non=>simpa[vD]using ll (A:=A) (s:=s) (y:=.int i) (x:=.non) ⟨t,O⟩ O O O
   |int j I=>
    have:=ll (A:=A) (s:=s) (y:=.int i) (x:=.int j) ⟨t,O⟩ ⟨I,O⟩ O O;have e:vD (.int i) (.int j)=decide (TK.int i=TK.int j):=by
     by_cases h:i=j
     ·subst h;simp[vD]
     ·rw[ai (λz=>h (by injection z))];simp[vD,h]
    rw[e]at this;exact this
   |tup e c d q=>simpa using(fv (A:=A) (s:=s) (b:=J) (v:=.int i) (u:=.int i t) ⟨_,e,c,_,d⟩ ⟨t,O⟩ O (by lia)).2.1
 |succ n ih=>
  intro k k' A s u v C R r g;cases r with
  |non=>
   cases g with
   |non=>simpa using SeqAt.EqAt.same (A:=A) (s:=s) Ph
   |int i t=>simpa[vD]using ll (A:=A) (s:=s) (y:=.non) (x:=.int i) O ⟨t,O⟩ O O
   |tup e c d t=>simpa using(fv (A:=A) (s:=s) (b:=J) (v:=.non) (u:=.none) ⟨_,e,c,_,d⟩ O O (by lia)).2.1
  |int i t=>
   cases g with
   |non=>simpa[vD]using ll (A:=A) (s:=s) (y:=.int i) (x:=.non) ⟨t,O⟩ O O O
   |int j I=>
    have:=ll (A:=A) (s:=s) (y:=.int i) (x:=.int j) ⟨t,O⟩ ⟨I,O⟩ O O;have e:vD (.int i) (.int j)=decide (TK.int i=TK.int j):=by
     by_cases h:i=j
     ·subst h;simp[vD]
     ·rw[ai (λz=>h (by injection z))];simp[vD,h]
    rw[e]at this;exact this
   |tup e c d q=>simpa using(fv (A:=A) (s:=s) (b:=J) (v:=.int i) (u:=.int i t) ⟨_,e,c,_,d⟩ ⟨t,O⟩ O (by lia)).2.1
  | @tup a o f m xs w l p E=>
   cases g with
   |non=>simpa using(fv (A:=A) (s:=s) (b:=J) (v:=.non) (u:=.none) ⟨_,w,l,_,p⟩ O O (by lia)).1
   |int i t=>simpa using(fv (A:=A) (s:=s) (b:=J) (v:=.int i) (u:=.int i t) ⟨_,w,l,_,p⟩ ⟨t,O⟩ O (by lia)).1
   | @tup a2 S items2 m2 ys aq P N D=>
    by_cases ao:a=a2
    ·subst ao;have:TK.tup xs=TK.tup ys:=e6.inj (.tup w l p E) (.tup aq P N D);rw[ah this];exact .same _
    ·refine .of_refs ao ?_;have K:=E.split;have av:=D.split;have H:=SeqAt.RcAt.tuples (A:=A) (s:=s) (e:=fun j=>decide (xs[j]? = ys[j]?)) ⟨o,w,l,m,p⟩ ⟨S,aq,P,m2,N⟩ (by lia) (fun j h1 h2=>by
      have G:j<xs.length:=by rw[K];simpa using h1
      have L:j<ys.length:=by rw[av];simpa using h2
      rw[TK.dep]at C;have V:=TK.dep_mem (bQ G);have q:=ih (k:=xs[j]) (k':=ys[j]) (A:=A.in1) (s:=s) (by lia) (by show A.units+1+n<Qe;lia) (E.at j G (by simpa using h1)) (D.at j L (by simpa using h2));have e:decide (xs[j]?=ys[j]?)=decide (xs[j]=ys[j]):=by
       rw[gG1 G,gG1 L];simp
      rw[e];simpa using q)
     have Q:f.size=xs.length:=by rw[K];simp
     have U:items2.size=ys.length:=by rw[av];simp
     rw[Q,U]at H;have F:((af (min xs.length ys.length)).all (λj=>decide (xs[j]?=ys[j]?))&&xs.length == ys.length)=decide (TK.tup xs=TK.tup ys):=by
      by_cases B:xs.length=ys.length
      ·rw[Dy B,B,Rn,bJ];by_cases h:xs=ys
       ·subst h;simp
       ·rw[ai h,ai (λz=>h (by injection z))]
      ·have T:(xs.length == ys.length)=J:=by simpa using B
       rw[T,Bool.and_false,ai (λz=>B (by injection z with z;rw[z]))]
     rw[F]at H;exact H
theorem oD{prog:dn}{w:dr}:∀(n:Nat) {k:TK} {A:dq} {E:di->dj->Prop} {s:dj} {v:di} {Q:Bool->dj->Prop},k.dep<=n->e6 s.heap k v->Q M s->dz (Pt prog w) A (eqIsQuiet n v) Q E s:=by
 intro n
 induction n with
 |zero=>
  intro k A E s v Q c r h;cases r with
  |non=>rw[Rv 0 O];exact wP1 h
  |int i t=>rw[Rv 0 O];exact wP1 h
  |tup _ _ _ _=>simp[TK.dep]at c
 |succ n ih=>
  intro k A E s v Q c r h;cases r with
  |non=>rw[Rv _ O];exact wP1 h
  |int i t=>rw[Rv _ O];exact wP1 h
  | @tup a o b m xs g y q z=>
   have f:s.TypeIs (.ref a) "tuple":=⟨o,g,y⟩;rw[TK.dep]at c;unfold eqIsQuiet;refine wB1 (Rs f F.slot_tuple_eq.lookup ?_);show dz _ _ (isInstance (.ref a) (.type "tuple") >>= _) _ _ s;refine wB1 (Rg f isSubtype_tuple_tuple ?_);simp only[bY,bF1,Qt];refine wB1 (Q6 g q ?_);refine wB1 ?_;show dz _ _ (forIn b _ _) _ _ s;rw[<- bV];refine Rp _ (λrest r s'=>r.1=Y/\s'=s /\ ∃ks,fm s.heap ks rest/\TK.depAll ks<=n) _ ?_ ?_ _ _ ⟨O,O,xs,z,by lia⟩
   ·rintro v rest r s' ⟨d,rfl,ks,u,j⟩;cases u with
    | @cons x _ e _ l p=>
     rw[TK.depAll]at j;refine wB1 (ih (k:=x) (by lia) l ?_);simp only[bY,bF1,Qt];exact wP1 ⟨O,O,e,p,by lia⟩
   ·rintro⟨B,r2⟩ s' ⟨d,rfl,_⟩;simp only at d;subst d;exact wP1 h
def jd(prog:dn)(w:dr):HeapKind prog w TK where
 is:=λh k a=>e6 h k (.ref a)/\k.dep<=8
 hash:=TK.hash
 draws:=TK.draws
 room:=λA=>A.units+8<Qe
 inj:=λhx hy=>hx.1.inj hy.1
 keeps:=λx ho hd hs=>⟨x.1.keeps ho hd hs,x.2⟩
 pyHash:=λhu hk h=>s0 _ (by have:=hk.2;omega) hk.1 h
 eqBool:=λhu hx hy h=>Hg 8 hx.2 hu hx.1 hy.1 _ _ _ _ h
 quiet:=λhk h=>oD 8 hk.2 hk.1 h
noncomputable def OW:G2:=λo v S=>match o,v with
 | .ref n,.ref b=>match S[n]?,S[b]? with
  |some (.lst xs),Z (.lst ys)=>if xs.length+ys.length<=dy then Z (.non,S.set n (.lst (xs++ys)))else Y
  |_,_=>Y
 |_,_=>Y
noncomputable def LM(n:Nat)(k:Int):Nat:=if k<0 then(k+(n:Int)).toNat else min k.toNat n
def OV:G3:=λo i v S=>match o,i with
 | .ref n,.int k=>match S[n]? with
  |some (.lst xs)=>if-(2^63)<=k/\k<2^63/\xs.length<dy then Z (.non,S.set n (.lst (xs.take (LM xs.length k)++v::xs.drop (LM xs.length k))))else Y
  |_=>Y
 |_,_=>Y
noncomputable def p9(f:D->D->Option Bool)(x:D):List D->Option (List Bool)
 |[]=>Z []
 |y::ys=>(f y x).bind λb=>(p9 f x ys).map (b :: ·)
def CO:G2:=λo x S=>match o with
 | .ref n=>match S[n]? with
  |some (.lst ys)=>(p9 (i7 S d8) x ys).bind λbs=>if bs.length<2^62 then(bs.findIdx? id).map λj=>(.int (j:Nat),S)else Y
  |_=>Y
 |_=>Y
theorem tq(f:D->D->Option Bool)(x:D):∀{ys:List D} {bs:List Bool},p9 f x ys=Z bs->bs.length=ys.length /\ ∀(j:Nat) (y:D) (k:Bool),ys[j]?=Z y->bs[j]?=Z k->f y x=Z k
 |[],bs,h=>by cases h;exact⟨O,λj y k h=>by simp at h⟩
 |y::ys,bs,h=>by
  rw[p9]at h;obtain⟨b,eb,h⟩:=R3 h;obtain⟨bt,c,h⟩:=R4 h;obtain⟨d,a1⟩:=tq f x c;subst h;refine⟨by simp[d],λj=>?_⟩;cases j with
  |zero=>intro a k h1 h2;simp at h1 h2;subst h1;subst h2;exact eb
  |succ j=>intro a k h1 h2;exact a1 j a k (by simpa using h1) (by simpa using h2)
section
open PySem.MeetsSeq PySem.MeetsSeq2 PySem.MeetsSeq3 PySem.SeqRoads2
theorem uR{l:dk}{its:Array di}{n:Nat}{x:di}{e:Nat->Bool}{top:Int}{j:Nat}(f:j<its.size)(ht:(j:Int)<top)(c:e j=true):∀ (k i:Nat),i+k=j->(∀ m,i<=m->m<j->e m=false) ->
  Meets (Builtin.«list.index.loop» ⟨[.ref l,x,P1 i,P1 top],[]⟩)
   (λA R s=>s.heap.get? l=Z {cls:=.type "list",data:=.seq its n}/\(∀m (h:m<its.size),QH A.in1 s its[m] x (e m))/\R (.ok (.ret (.int j s.toks))) {s with toks:=s.toks+1})
 |0,i,hk,hno,prog,w,A,R,⟨hp,g,d,tk,os⟩,⟨hl,he,h⟩=>by
  have o:i=j:=by lia
  subst o
  wp_walk using Rx hl
  rw[show(if(i:Int)<top then its[((i:Nat):Int).toNat]? else Y)=Z its[i] by simp[ht,f]];refine wB1 (he i f prog w _ _ ?_);rw[c]
  wp_walk
  exact h
 |k+1,i,hk,hno,prog,w,A,R,⟨hp,g,d,tk,os⟩,⟨hl,he,h⟩=>by
  have h1:i<its.size:=by lia
  have h2:(i:Int)<top:=by lia
  wp_walk using Rx hl
  rw[show(if(i:Int)<top then its[((i:Nat):Int).toNat]? else Y)=Z its[i] by simp[h1,h2]];refine wB1 (he i h1 prog w _ _ ?_);rw[hno i (nR1 i) (by lia)]
  wp_walk
  rw[show((i:Int)+1)=((i+1:Nat):Int) by push_cast;rfl];have z:=uR (l:=l) (n:=n) (x:=x) f ht c k (i+1) (by lia) (λm a b=>hno m (by lia) b) prog w A R _ ⟨hl,he,h⟩;exact⟨Rq Ry _,wD1 entry_index_loop (by rw[Rr Ry _];exact z)⟩
theorem CF{l:dk}{its:Array di}{n:Nat}{x:di}{e:Nat->Bool}{j:Nat}(k:j<its.size)(ht:(j:Int)<2^63-1)(c:e j=true)(a:∀ m,m<j->e m=false):
  Meets (Builtin.«list.index» ⟨[.ref l,x],[]⟩)
   (λA R s=>s.heap.get? l=Z {cls:=.type "list",data:=.seq its n}/\(∀m (h:m<its.size),QH A.in1 s its[m] x (e m))/\R (.ok (.ret (.int j s.toks))) {s with toks:=s.toks+1}):=by
 intro prog w A R ⟨q,g,d,tk,p⟩ ⟨f,o,h⟩
 wp_walk using Rx f
 rw[show((λi:Int=>if i<0 then max 0 (i+(its.size:Int))else i) ((Y:Option Int).getD 0))=((0:Nat):Int) by simp,show((λi:Int=>if i<0 then max 0 (i+(its.size:Int))else i) ((Y:Option Int).getD (2^63-1)))=2^63-1 by simp];have z:=uR (l:=l) (n:=n) (x:=x) k ht c j 0 (by lia) (λm _ b=>a m b) prog w A R _ ⟨f,o,h⟩;exact⟨Rq Ry _,wD1 entry_index_loop (by rw[Rr Ry _];exact z)⟩
end
theorem KM(au:X.A.units+64<Qe):DV X "list.index" (λx xs H Q=>rN X.K (b2 CO) (x::xs) H Q):=by
 intro ag s σ H x xs v V Q I w E h;obtain⟨x',y,mu,S,d,e,wq,U,C,R,r2,o,a,hc⟩:=y3 h;cases C;unfold CO at a;split at a
 ·rename_i n;split at a
  ·rename_i ys L;obtain⟨bs,eb,a⟩:=R3 a;split at a
   ·rename_i r;obtain⟨j,p,a⟩:=R4 a;cases a;cases R with
    |ref T=>
     obtain⟨vs,D,t⟩:=o.lst L T;cases w;obtain⟨u,rfl,aq⟩:=E.one;obtain⟨z,b,G,c,hl,e⟩:=I.lstM D;obtain⟨W,f⟩:=tq _ _ eb;have l2:=t.length;have l3:=c.length;rw[bZ]at p;obtain⟨K,k,g⟩:=p;have l:∀m (a:m<b.toArray.size),QH X.A.in1 s b.toArray[m] u (bs[m]?.getD J):=λm a=>by
      have m1:m<b.length:=by simpa using a
      obtain⟨P,av,ao⟩:=t.getV (i:=m) (v:=vs[m]'(by lia)) (gG1 (by lia));obtain⟨w',q,B⟩:=c.get (i:=m) (x:=vs[m]'(by lia)) (gG1 (by lia));have m2:m<bs.length:=by lia
      have N:b.toArray[m]=w':=by
       have:=gG1 m1;rw[this]at q;simpa using q
      rw[N,gG1 m2];exact(lj I o d8 (A:=X.A.in1) (by show X.A.units+1+60<Qe;lia) ao r2 B aq (f m P bs[m] av (gG1 m2))).1
     refine call_meets F.slot_list_index ⟨_,e,O⟩ F.entry_list_index (F.args_list_index_2 _ _)
      (CF (n:=G) (e:=λm=>bs[m]?.getD J) (j:=j) (by simp;lia) (by lia) ?_ ?_) ⟨e,l,?_⟩
     ·simp only[gG1 K,b0];simpa using k
     ·intro m a;have m2:m<bs.length:=by lia
      have:=g m a;simp only[gG1 m2,b0];simpa using this
     ·exact⟨.int j,H,I.tok _,⟨_,O⟩,hc.now (.int _) o⟩
   ·cases a
  ·cases a
 ·cases a
mutual
noncomputable def kD:D->Option TK
 | .non=>Z .non
 | .int i=>Z (.int i)
 | .tup xs=>(zx xs).map .tup
 |_=>Y
noncomputable def zx:List D->Option (List TK)
 |[]=>Z []
 |x::xs=>(kD x).bind λk=>(zx xs).map (k :: ·)
end
def keyT:D->Option TK
 | .tup xs=>(zx xs).bind λks=>if(TK.tup ks).dep<=8 then Z (.tup ks)else Y
 |_=>Y
mutual
theorem LL:∀{d:D} {k:TK},kD d=Z k->tkD k=d
 | .non,k,h=>by cases h;rfl
 | .int i,k,h=>by cases h;rfl
 | .tup xs,k,h=>by
  rw[kD]at h;obtain⟨ks,e,h⟩:=R4 h;subst h;rw[tkD,wg e]
 | .bl _,k,h=>by simp[kD]at h
 | .str _,k,h=>by simp[kD]at h
 | .rol _,k,h=>by simp[kD]at h
 | .fn _,k,h=>by simp[kD]at h
 | .ref _,k,h=>by simp[kD]at h
theorem wg:∀{ds:List D} {ks:List TK},zx ds=Z ks->jw ks=ds
 |[],ks,h=>by cases h;rfl
 |x::xs,ks,h=>by
  rw[zx]at h;obtain⟨k,b,h⟩:=R3 h;obtain⟨t,a,h⟩:=R4 h;subst h;rw[jw,LL b,wg a]
end
theorem lW{d:D}{k:TK}(h:keyT d=Z k):tkD k=d/\k.dep<=8 /\ ∃xs,k = .tup xs:=by
 cases d with
 |tup xs=>
  rw[keyT]at h;obtain⟨ks,e,h⟩:=R3 h;split at h
  ·rename_i a;cases h;exact⟨by rw[tkD,wg e],a,ks,O⟩
  ·cases h
 |_=>cases h
section
variable{ag:List (dk×Obj)}{σ:L2.St}{H:Hp}{s:dj}{mu:List dk}
mutual
theorem xa(I:Inv X ag σ H s):∀(k:TK) {v:V} {u:di},eW X.K H mu (tkD k) v->d3 v u->e6 s.heap k u
 | .non,v,u,r,q=>by
  rw[tkD]at r;cases r;cases q;exact .non
 | .int i,v,u,r,q=>by
  rw[tkD]at r;cases r;obtain⟨t,rfl⟩:=q;exact .int i t
 | .tup xs,v,u,r,q=>by
  rw[tkD]at r;cases r with
  |tup h t=>
   cases q;obtain⟨b,a,⟨o,d,c,n,e⟩,_⟩:=I.tuple h;exact .tup d c e (by simpa using vP I xs t a)
theorem vP(I:Inv X ag σ H s):∀(ks:List TK) {vs:List V} {a:List di},dX X.K H mu (jw ks) vs->ed vs a->fm s.heap ks a
 |[],vs,a,r,q=>by rw[jw]at r;cases r;cases q;exact .nil
 |k::ks,vs,a,r,q=>by
  rw[jw]at r;cases r with
  |cons r t=>cases q with
   |cons q p=>exact .cons (xa I k r q) (vP I ks t p)
end
theorem vZ{α β γ δ:Type}{F:α->β->Prop}{G:γ->δ->Prop}{f:α->γ}{g:β->δ}:∀{l₁:List α} {l₂:List β},Paired F l₁ l₂->(∀a b,F a b->G (f a) (g b))->Paired G (l₁.map f) (l₂.map g):=by
 intro a b h g
 induction h with
 |nil=>exact .nil
 |cons r t ih=>exact .cons (g _ _ r) ih
theorem v3{α β:Type}{F:α->β->Prop}:∀{l₁ e:List α} {l₂ f:List β},Paired F l₁ l₂->Paired F e f->Paired F (l₁++e) (l₂++f):=by
 intro a b c d h g
 induction h with
 |nil=>exact g
 |cons r t ih=>exact .cons r ih
theorem KT.length{K:Fg1}:∀{ks:List (TK×D)} {ws:List (TK×dk×di)},KT K H mu ks ws->ks.length=ws.length:=λh=>Paired.length h
theorem KT.mem{K:Fg1}:∀{ks:List (TK×D)} {ws:List (TK×dk×di)},KT K H mu ks ws -> ∀x∈ws,x.1.dep<=8/\eW K H mu (tkD x.1) (.ref x.2.1):=by
 intro ks ws a x h
 induction a with
 |nil=>cases h
 |cons r t ih=>
  rcases aF.mp h with e|e
  ·subst e;rw[<- r.1];exact⟨r.2.1,r.2.2.1⟩
  ·exact ih e
theorem KT.look{K:Fg1}{k:TK}:∀ {ks:List (TK×D)} {ws:List (TK×dk×di)},KT K H mu ks ws ->
  (∀d,dU ks k=Z d -> ∃p v,QP ws k=Z p/\d3 v p.2/\eW K H mu d v)/\(QP ws k).isSome=(dU ks k).isSome:=by
 intro ks ws h
 induction h with
 |nil=>exact⟨λd h=>by simp[dU]at h,O⟩
 | @cons p j ks ws r t ih=>
  obtain⟨b,e⟩:=p;obtain⟨l,a2,f⟩:=j;obtain⟨z,d,q,v,c,r⟩:=r;dsimp only at z q c r;subst z;obtain⟨h1,h2⟩:=ih;by_cases a:b=k
  ·subst a;refine⟨λd h=>?_,by simp[QP,dU]⟩;have:e=d:=by simpa[dU]using h
   subst this;exact⟨(a2,f),v,by simp[QP],c,r⟩
  ·have g:dU ((b,e)::ks) k=dU ks k:=by simp[dU,bc,a]
   have i:QP ((b,a2,f)::ws) k=QP ws k:=by simp[QP,bc,a]
   rw[g,i];exact⟨h1,h2⟩
theorem KT.put{K:Fg1}{k:TK}{d:D}{v:V}{a:dk}{u:di}(hk:k.dep<=8)(j:eW K H mu (tkD k) (.ref a))(f:d3 v u)(q:eW K H mu d v){ks:List (TK×D)}{ws:List (TK×dk×di)}(h:KT K H mu ks ws):KT K H mu (gU ks k d) (storedH ws k a u):=by
 unfold gU storedH;have e:(ks.any λp=>decide (p.1=k))=(QP ws k).isSome:=by
  rw[h.look.2];unfold dU;rw[bg,bO,List.find?_isSome,bP]
 rw[e];split
 ·clear e;refine vZ h λp w ⟨z,g,i,l,c,m⟩=>?_;unfold putAt;by_cases b:p.1=k
  ·rw[ak b,ak (by rw[<- z];exact b)];exact⟨z,g,i,v,f,q⟩
  ·rw[aj b,aj (by rw[<- z];exact b)];exact⟨z,g,i,l,c,m⟩
 ·exact v3 h (.cons ⟨O,hk,j,v,f,q⟩ .nil)
theorem va(I:Inv X ag σ H s){a:dk}{xs:List (TK×dk×di)}{kvs:List (TK×D)}(e:H a=Z (.ext (j4 a xs)))(h:KT X.K H mu kvs xs):(a == Pm)=J/\s.heap.DictOfH (jd X.prog X.w) a xs:=by
 obtain⟨⟨h1,h2,o,es,ep,c,d,f,g⟩,_⟩:=(show eQ X.prog X.w H s.heap a (.ext (j4 a xs))from I.hok a _ e);exact⟨h1,o,es,ep,c,d,f,g,λx b=>⟨xa I _ (h.mem x b).2 O,(h.mem x b).1⟩,h2⟩
theorem yi{h:dB}{a:dk}{xs:List (TK×dk×di)}(hd:(a == Pm)=J)(hm:h.DictOfH (jd X.prog X.w) a xs):eQ X.prog X.w H h a (.ext (j4 a xs)):=by
 obtain⟨o,es,ep,d,e,g,k,m,i⟩:=hm;refine⟨⟨hd,i,o,es,ep,d,e,g,k⟩,⟨o,d⟩,λp n ⟨a1,a2,o',c,b,b3,j,f,l⟩ st=>⟨a1,a2,o',c,b,st _ b3,j,f,l⟩⟩
end
def jR:G2:=λd e S=>match e with
 | .ref n=>match S[n]? with
  |some (.dcT kvs)=>(keyT d).map λk=>(.bl (dU kvs k).isSome,S)
  |_=>wp d e S
 |_=>wp d e S
def fW:G2:=λd e S=>match e with
 | .ref n=>match S[n]? with
  |some (.dcT kvs)=>(keyT d).map λk=>(.bl (!(dU kvs k).isSome),S)
  |_=>ji d e S
 |_=>ji d e S
def dL:G2:=λd e S=>match d with
 | .ref n=>match S[n]? with
  |some (.dcT kvs)=>(keyT e).bind λk=>(dU kvs k).map λx=>(x,S)
  |some (.dcF kvs)=>(keyT e).bind λk=>(dU kvs k).map λx=>(x,S)
  |_=>mQ d e S
 |_=>mQ d e S
def jp:G3:=λo i v S=>match o with
 | .ref n=>match S[n]? with
  |some (.dcT kvs)=>(keyT i).bind λk=>if kvs.length<dy then Z (.non,S.set n (.dcT (gU kvs k v)))else Y
  |some (.dct [])=>match keyT i with
   |some k=>Z (.non,S.set n (.dcT [(k,v)]))
   |none=>nj o i v S
  |_=>nj o i v S
 |_=>nj o i v S
theorem uK{κ:Type}[DecidableEq κ](kvs:List (κ×D))(k:κ)(d:D):(gU kvs k d).length<=kvs.length+1:=by
 unfold gU;split
 ·rw[lM1];lia
 ·simp
theorem u6{h:dB}{a:dk}(dd:h.DictOf (fc X.prog X.w) a []):h.DictOfH (jd X.prog X.w) a []:=by
 obtain⟨o,es,ep,h1,h2,c,_,b,_⟩:=dd;have e:es.toList=[]:=by
  generalize es.toList=l at b;cases b;rfl
 exact⟨o,es,ep,h1,h2,c,e,(λx d=>by simp at d),bp⟩
theorem kb{A:dq}(a:A.units+64<Qe):(jd X.prog X.w).room A.in1:=by
 show A.units+1+8<Qe;lia
theorem mJ{ag:List (dk×Obj)}{σ:L2.St}{H:Hp}{s:dj}{mu:List dk}(I:Inv X ag σ H s){d:D}{v:V}{u:di}{k:TK}(r:eW X.K H mu d v)(q:d3 v u)(h:keyT d=some k):
  ∃a,u = .ref a/\v = .ref a/\eW X.K H mu (tkD k) (.ref a)/\k.dep<=8/\(jd X.prog X.w).is s.heap k a:=by
 obtain⟨e,b,xs,ex⟩:=lW h;subst e;have is:=xa I k r q;subst ex;cases id is with
 | @tup a _ _ _ _ _ _ _ _=>
  rw[tkD]at r;cases r with
  |tup h1 h2=>
   cases q;exact⟨a,O,O,by rw[tkD];exact .tup h1 h2,b,is,b⟩
theorem qz(o:X.A.units+64<Qe):gE X (P7 .In) (r2 X.K (b2 jR)):=by
 intro ag s σ H x y u w Q I j i h;obtain⟨mu,S,d,e,r,g,l,c,f,b,hc⟩:=pT h;have back:wp d e S=Z (r,g)->dz (Pt X.prog X.w) X.A (P7 .In u w) (EP X ag σ Q) X.xe s:=λb=>Lv o ag s σ H x y u w Q I j i ⟨mu,S,[d,e],r,g,.cons l (.cons c .nil),f,b,hc⟩;unfold jR at b;split at b
 ·rename_i n;split at b
  ·rename_i kvs v;obtain⟨k,t,b⟩:=R4 b;cases b;cases c with
   |ref q=>
    cases i;obtain⟨xs,A,m,_⟩:=f.dcT v q;obtain⟨p,z⟩:=va I A m;obtain⟨a,rfl,rfl,_,_,hi⟩:=mJ I l j t;refine wpAny_in_heap (kb o) hi p z ?_;exact⟨.bl (QP xs k).isSome,H,I.tok _,O,by rw[m.look.2];exact hc.now (.bl _) f⟩
  ·exact back b
 ·exact back b
theorem oO(o:X.A.units+64<Qe):gE X (P7 .NotIn) (r2 X.K (b2 fW)):=by
 intro ag s σ H x y u w Q I j i h;obtain⟨mu,S,d,e,r,g,l,c,f,b,hc⟩:=pT h;have back:ji d e S=Z (r,g)->dz (Pt X.prog X.w) X.A (P7 .NotIn u w) (EP X ag σ Q) X.xe s:=λb=>BX o ag s σ H x y u w Q I j i ⟨mu,S,[d,e],r,g,.cons l (.cons c .nil),f,b,hc⟩;unfold fW at b;split at b
 ·rename_i n;split at b
  ·rename_i kvs v;obtain⟨k,t,b⟩:=R4 b;cases b;cases c with
   |ref q=>
    cases i;obtain⟨xs,A,m,_⟩:=f.dcT v q;obtain⟨p,z⟩:=va I A m;obtain⟨a,rfl,rfl,_,_,hi⟩:=mJ I l j t;refine wpAny_notIn_heap (kb o) hi p z ?_;exact⟨.bl (!(QP xs k).isSome),H,I.tok _,O,by rw[m.look.2];exact hc.now (.bl _) f⟩
  ·exact back b
 ·exact back b
theorem J3{ag:List (dk×Obj)}{σ:L2.St}{H:Hp}{s:dj}{mu:List dk}(I:Inv X ag σ H s){a:dk}{xs:List (TK×dk×di)}{kvs:List (TK×D)}(e:∃o u,H a=Z (.frz o u)/\Hr a xs o)(h:KT X.K H mu kvs xs):(a == Pm)=J/\s.heap.DictOfH (jd X.prog X.w) a xs:=by
 obtain⟨o,u,e,h1,h2,d,es,ep,f,g⟩:=e;obtain⟨c,_⟩:=(show eQ X.prog X.w H s.heap a (.frz o u)from I.hok a _ e);exact⟨h1,o,es,ep,c,d,f,g,λx b=>⟨xa I _ (h.mem x b).2 O,(h.mem x b).1⟩,h2⟩
theorem qP(K:X.A.units+64<Qe):Ho X (r2 X.K (b2 dL)):=by
 intro value c ag s σ H x y v u Q I A F h o;obtain⟨mu,S,d,e,r,w,D,m,t,f,hc⟩:=pT h;have back:mQ d e S=Z (r,w)->dz (Pt X.prog X.w) X.A (QE value c v u) (EP X ag σ Q) X.xe s:=λf=>KI K value c ag s σ H x y v u Q I A F ⟨mu,S,[d,e],r,w,.cons D (.cons m .nil),t,f,hc⟩ o;have i:∀kvs a xs,v = .ref a->KT X.K H mu kvs xs->s.heap.DictOfH (jd X.prog X.w) a xs->((keyT e).bind λk=>(dU kvs k).map λx=>(x,S))=Z (r,w)->dz (Pt X.prog X.w) X.A (QE value c v u) (EP X ag σ Q) X.xe s:=λkvs a xs aq l ao f=>by
  obtain⟨k,L,f⟩:=R3 f;obtain⟨z,R,f⟩:=R4 f;cases f;subst aq;obtain⟨b,rfl,rfl,_,_,hi⟩:=mJ I m F L;obtain⟨p,P,ep,N,av⟩:=l.look.1 _ R;have G:=ao.typeIs;unfold QE;refine wB1 ?_;rw[getitemInPython_of_ne G.not_modules];refine wB1 (Rs G PySem.F.slot_dict_getitem.lookup ?_);have j:dz (Pt X.prog X.w) X.A (subscripted c J (.ref a) (.ref b)) (λr g=>dz (Pt X.prog X.w) X.A (letTemporaryGo value (.ref a) r >>= λ_=>pure r) (EP X ag σ Q) X.xe g) X.xe s:=by
   rw[o];exact wpAny_operating (Pv (wpAny_getItem_heap (kb K) hi ao ep (show EP X ag σ Q p.2 _ from⟨P,H,I.tok _,N,hc.now av t⟩)) (λr g q=>wB1 (wpAny_letTemporaryGo (wP1 q))) λ_ _ x=>x)
  first
   |exact wP1 (wB1 j)
   |exact wB1 j
   |exact j
 unfold dL at f;split at f
 ·rename_i n;split at f
  ·rename_i kvs C;cases D with
   | @ref _ a B=>
    cases A;obtain⟨xs,E,l,_⟩:=t.dcT C B;exact i kvs a xs O l (va I E l).2 f
  ·rename_i kvs C;cases D with
   | @ref _ a B=>
    cases A;obtain⟨xs,E,l,_⟩:=(show pR X.K H mu a (.dcF kvs)from t.ob n _ a C B);exact i kvs a xs O l (J3 I E l).2 f
  ·exact back f
 ·exact back f
theorem ot(G:X.A.units+64<Qe):wO X (rU X.K (b3 jp)):=by
 intro ag s σ H o i v T av u Q I aq D r h;obtain⟨mu,S,ds,d,N,U,m,a,hc⟩:=id h;cases U with
 |cons ao W=>cases W with
  |cons B V=>cases V with
   |cons p wq=>
    cases wq;rename_i P R K;dsimp only[b3]at a;have back:nj P R K S=Z (d,N)->dz (Pt X.prog X.w) X.A (setItem T av u) (λ_ s'=>∃H',Inv X ag σ H' s'/\Q H') X.xe s:=λa=>HS G ag s σ H o i v T av u Q I aq D r ⟨mu,S,[P,R,K],d,N,.cons ao (.cons B (.cons p .nil)),m,a,hc⟩;unfold jp at a;split at a
    ·rename_i n;split at a
     ·rename_i kvs L;obtain⟨k,A,a⟩:=R3 a;split at a
      ·rename_i hl;cases a;cases ao with
       | @ref _ j g=>
        cases aq;obtain⟨xs,x,l,au⟩:=m.dcT L g;obtain⟨y,F⟩:=va I x l;obtain⟨b,rfl,rfl,rk,t,hi⟩:=mJ I B D A;refine wpAny_setItem_heap (hsz:=au) (kb G) hi F λh' e c=>?_;have f:∃q,h'.get? _=Z q:=let ⟨q,_,_,f,_⟩:=e;⟨q,f⟩
        have put:Ext mu mu H (upd H j (.ext (j4 j (storedH xs k b u)))):=Ext.put x trivial (gM1 g);refine⟨_,ku I (by rw[x];exact Qd) c f (yi y e),hc _ mu put (m.put g x trivial ⟨_,d9,((l.put t rk r p).ext put),?_⟩)⟩;rw[<- (l.put t rk r p).length];have:=uK kvs k K;lia
      ·cases a
     ·rename_i L;split at a
      ·rename_i k A;cases a;cases ao with
       | @ref _ j g=>
        cases aq;obtain⟨ws,w,l⟩:=m.dct L g;cases l;obtain⟨z,y,vs,C,F⟩:=u7 I.hok w;cases C;obtain⟨b,rfl,rfl,rk,t,hi⟩:=mJ I B D A;have E:s.heap.DictOfH (jd X.prog X.w) _ []:=u6 F;refine wpAny_setItem_heap (hsz:=bi _) (kb G) hi E λh' e c=>?_;have f:∃q,h'.get? _=Z q:=let ⟨q,_,_,f,_⟩:=e;⟨q,f⟩
        have put:Ext mu mu H (upd H j (.ext (j4 j (storedH [] k b u)))):=Ext.put w trivial (gM1 g);exact⟨_,ku I (by rw[w];exact Qd) c f (yi y e),hc _ mu put (m.put g w trivial ⟨_,d9,KT.ext put (.cons ⟨O,t,rk,v,r,p⟩ .nil),(show 1<=dy by decide)⟩)⟩
      ·exact back a
     ·exact back a
    ·exact back a
def vO(S:Sto)(d:D):Option Bool:=match d with
 | .non=>Z J
 | .bl b=>Z b
 | .int i=>Z (i != 0)
 | .str y=>if y.length<=dy then Z ((y.length:Int) != 0)else Y
 | .ref n=>match S[n]? with
  |some (.dct kvs)=>Z (!kvs.isEmpty)
  |_=>(dZ S d).map λp=> !p.2.isEmpty
 |_=>(dZ S d).map λp=> !p.2.isEmpty
noncomputable def vB (m:FE):FT:=λr S=>(m r S).bind λp=>(vO p.2 p.1).map λb=>(b,p.2)
section
variable{K:Fg1}{H:Hp}{mu:List dk}{S:Sto}
theorem sj{d:D}{v:V}{b:Bool}(r:eW K H mu d v)(s:Sim K H mu S)(h:((dZ S d).map λp=> !p.2.isEmpty)=Z b):GN K v H b:=by
 obtain⟨⟨k,xs⟩,e,h⟩:=R4 h;obtain⟨a,vs,rfl,q,t⟩:=dW r s e;have z:(!xs.isEmpty) = !vs.isEmpty:=by cases t<;>rfl
 dsimp only at h;rw[z]at h;cases k
 ·exact .inr (.inl ⟨vs,q,h.symm⟩)
 ·exact .inl ⟨vs,q,h.symm⟩
theorem HE{d:D}{v:V}{b:Bool}(r:eW K H mu d v)(s:Sim K H mu S)(h:vO S d=Z b):GN K v H b:=by
 cases d with
 |non=>cases r;cases h;rfl
 |bl k=>cases r;cases h;rfl
 |int i=>cases r;cases h;rfl
 |str y=>
  rw[vO]at h;split at h
  ·rename_i g;cases r;cases h;exact⟨g,O⟩
  ·cases h
 |tup xs=>exact sj r s h
 |rol xs=>exact sj r s h
 |fn x=>cases h
 |ref n=>
  rw[vO]at h;split at h
  ·rename_i kvs c;cases h;cases r with
   |ref a=>
    obtain⟨ws,f,e⟩:=s.dct c a;refine .inr (.inr ⟨ws,f,?_⟩);cases e<;>rfl
  ·exact sj r s h
end
theorem gx{X:Cx}{x:Expr}{f:FE}(h:XE X x f)(he:autoParam (∀a,isTrue x X.env a=(do let v<-a;PK x.pos;PJ [v] (truthy v))) du0):XT X x (vB f):=
 ⟨vV (Br h.h he) <| by
  rintro σ H Q ⟨r,mu,S,b,l,he,j,c,hc⟩;obtain⟨⟨m,n⟩,g,c⟩:=R3 c;obtain⟨b1,i,c⟩:=R4 c;cases c;exact⟨r,mu,S,_,_,he,j,g,λv H1 mu1 k e d=>⟨_,HE e d i,hc H1 mu1 k d⟩⟩⟩
section
variable{ag:List (dk×Obj)}{σ:L2.St}{H:Hp}{s:dj}{mu:List dk}
end
noncomputable def jh:List D->Option (List Int)
 |[]=>Z []
 | .int i::ds=>(jh ds).map λis=>i::is
 |_=>Y
noncomputable def ddI(ns:List Int):List Int:=ns.foldl Rz []
theorem l6:∀(ns acc:List Int),acc.Nodup->(ns.foldl Rz acc).Nodup
 |[],acc,h=>h
 |n::ns,acc,h=>by
  rw[b4];refine l6 ns _ ?_;unfold Rz;split
  ·exact h
  ·rename_i d;rw[bx];refine⟨h,by simp,λa f b c e=>?_⟩;simp at c;apply d;rw[bP];exact⟨a,f,by simp[e,c]⟩
theorem vb(ns:List Int):firstMet (λi=>ns.getD i 0) ns.length=ddI ns:=by
 unfold firstMet ddI
 congr 1
 apply List.ext_getElem
 ·simp
 ·intro i h1 h2;simp at h1 ⊢;rw[gG1 (by omega)];rfl
theorem mK{K:Fg1}{H:Hp}{mu:List dk}:∀{ds:List D} {vs:List V} {b:List di} {ns:List Int},dX K H mu ds vs->ed vs b->jh ds=Z ns->QN b ns/\ns.length=ds.length:=by
 intro ds vs b ns f a h
 induction f using dX.ind generalizing b ns with
 |hn=>cases h;cases a;exact⟨.nil,O⟩
 | @hc d v ds vs r t ih=>
  cases d with
  |int i=>
   obtain⟨c,e,h⟩:=R4 h;cases h;cases r;cases a with
   |cons r a=>
    obtain⟨j,g⟩:=ih a e;obtain⟨tk,rfl⟩:=r;exact⟨.cons _ _ j,by rw[lC1,lC1,g]⟩
  |_=>cases h
theorem mj(l:List Int):(λk'=>l.any (· == k'))=λk'=>l.contains k':=by
 funext k
 induction l with
 |nil=>rfl
 |cons x xs ih=>rw[bd,b5,ih,show(x == k)=(k == x)from Bool.beq_comm]
def s7:G1:=λd S=>match dZ S d with
 |some (M,xs)=>(jh xs).bind λns=>if ns.length+1<RB then Z (.ref S.length,S++[.iset (ddI ns)])else Y
 |_=>Y
theorem Mc{k:Nat}(hr:fR k X.A):eR X (.type "set") (rN X.K (b1 s7)):=by
 intro ag s σ H xs ao Q I r h;obtain⟨x,mu,S,d,K,G,rfl,D,l,c,hc⟩:=Bo h;unfold s7 at c;split at c
 ·rename_i ys C;obtain⟨ns,e,c⟩:=R3 c;split at c
  ·rename_i F;cases c;obtain⟨a,vs,rfl,q,t⟩:=dW D l C;cases r with
   |cons w rt=>
    cases rt;cases w;obtain⟨g,A,⟨o,n,y,i,B,p⟩,_⟩:=I.list q;obtain⟨hi,m⟩:=mK t A e;have f:g.toArray.size=ns.length:=by rw[sT1,hi.length]
    refine PySem.call_set_list (items:=g.toArray) (ns:=ns) hr.hd ⟨o,y,i,⟨n,p⟩⟩ (by simpa using hi) (by rw[f];exact F) λh' tk j E=>?_;rw[f,vb]at j;have nd:(ddI ns).Nodup:=l6 ns [] bp;have v:=mj (ddI ns);rw[v]at j;refine⟨.ref s.heap.objs.size,upd H s.heap.objs.size (.set (λk=>(ddI ns).contains k) (ddI ns).length),I.laid (λb u z=>E b u (hL1 z) z) (nR1 _) j,O,?_⟩;exact hc _ _ (mu++[s.heap.objs.size]) (Ext.new_ I.fresh) (.ref (hK l.len _)) (l.new I.fresh ⟨d9,nd⟩)
  ·cases c
 ·cases c
def rh:G1:=λd S=>match d with
 | .ref n=>match S[n]? with
  |some (.iset xs)=>Z (.int xs.length,S)
  |_=>eD d S
 |_=>eD d S
theorem Dl:eR X (.builtin "len") (rN X.K (b1 rh)):=by
 intro ag s σ H xs l Q I r h;obtain⟨x,mu,S,d,m,k,i,f,b,a,hc⟩:=Bo h;have z:=a;unfold rh at a;split at a
 ·rename_i n;split at a
  ·rename_i ys e;cases a;subst i;cases f with
   |ref c=>
    obtain⟨p,nd⟩:=b.iset e c;cases r with
    |cons u rt=>
     cases rt;cases u;have v:=I.hok _ _ p;obtain⟨o,es,ep,t,y,g,q,_,_,j,w,c⟩:=v;refine PySem.call_len_set y g q w (by unfold RB at j;lia) ?_;refine⟨.int es.size,H,I.tok _,⟨_,O⟩,?_⟩;rw[c];exact hc.now (.int _) b
  ·exact eI ag s σ H xs l Q I r (by subst i;exact⟨mu,S,[_],m,k,.cons f .nil,b,(show b1 eD [_] S=_ from a),hc⟩)
 ·exact eI ag s σ H xs l Q I r (by subst i;exact⟨mu,S,[_],m,k,.cons f .nil,b,(show b1 eD [_] S=_ from a),hc⟩)
@[elab_as_elim] theorem OS {P:List di->Prop}{us:List di}(l:us.length=0)(f:P []):P us:=by
 cases us with
 |nil=>exact f
 |cons _ _=>cases l
@[elab_as_elim] theorem Od {P:List di->Prop}{us:List di}(l:us.length=1)(f:∀a,P [a]):P us:=by
 cases us with
 |nil=>cases l
 |cons a us=>exact OS (P:=λus=>P (a::us)) (Nat.succ.inj l) (f a)
@[elab_as_elim] theorem Oc {P:List di->Prop}{us:List di}(l:us.length=2)(f:∀a b,P [a,b]):P us:=by
 cases us with
 |nil=>cases l
 |cons a us=>exact Od (P:=λus=>P (a::us)) (Nat.succ.inj l) (f a)
@[elab_as_elim] theorem Oa {P:List di->Prop}{us:List di}(l:us.length=3)(f:∀a b c,P [a,b,c]):P us:=by
 cases us with
 |nil=>cases l
 |cons a us=>exact Oc (P:=λus=>P (a::us)) (Nat.succ.inj l) (f a)
@[elab_as_elim] theorem OR {P:List di->Prop}{us:List di}(l:us.length=4)(f:∀a b c d,P [a,b,c,d]):P us:=by
 cases us with
 |nil=>cases l
 |cons a us=>exact Oa (P:=λus=>P (a::us)) (Nat.succ.inj l) (f a)
end Mi
namespace HT
open PySem PySem.Spec PyProof.Rows
variable{prog:dn}{w:dr}{A:dq}{E:di->dj->Prop}{s:dj}
end HT
namespace Mi
open PySem PySem.Spec PyProof.Rows L2
section
variable{X:Cx}
end
end Mi
namespace HT
open PySem PySem.Spec PyProof.Rows
section
variable{prog:dn}{w:dr}{A:dq}{R:Qf->dj->Prop}{I ax L:dk}{xs:Array di}
abbrev Kp(I L:dk)(h h':dB):Prop:=∀p u,p≠I->p≠L->h.get? p=Z u->h'.get? p=Z u
end
section
variable{prog:dn}{w:dr}{A:dq}{E:di->dj->Prop}{s:dj}
end
end HT
namespace Mi
open PySem PySem.Spec PyProof.Rows L2
variable{X:Cx}
section
variable{elt tg iter tg2 iter2 tg3 iter3:Expr}{ifs ifs2 ifs3:List Expr}{scope:dF}{pos:Pos}
end
noncomputable def zE(a:Int):List Int->List Int
 |[]=>[a]
 |b::l=>if a<=b then a::b::l else b::zE a l
def iB:List Int->List Int
 |[]=>[]
 |a::l=>zE a (iB l)
theorem mL(a:Int):∀l:List Int,(zE a l).Perm (a::l)
 |[]=>.refl _
 |b::l=>by
  rw[zE];split
  ·exact .refl _
  ·exact((mL a l).cons b).trans (.swap _ _ _)
theorem fK:∀l:List Int,(iB l).Perm l
 |[]=>.refl _
 |a::l=>(mL a _).trans ((fK l).cons a)
theorem xZ{a:Int}:∀{l:List Int},l.Pairwise (· <= ·)->(zE a l).Pairwise (· <= ·)
 |[],_=>List.pairwise_singleton _ _
 |b::l,h=>by
  rw[b6]at h;rw[zE];split
  ·rename_i c;rw [b6,b6];exact ⟨fun x d=>by
    rcases aF.mp d with z|z
    ·lia
    ·have:=h.1 x z;lia,h.1,h.2⟩
  ·rename_i c;rw[b6];refine⟨λx d=>?_,xZ h.2⟩;rcases aF.mp ((mL a l).mem_iff.mp d)with z|z
   ·lia
   ·exact h.1 x z
theorem jz:∀l:List Int,(iB l).Pairwise (· <= ·)
 |[]=>.nil
 |a::l=>xZ (jz l)
theorem nP:∀{a b:List Int},a.Perm b->a.Pairwise (· <= ·)->b.Pairwise (· <= ·)->a=b
 |[],b,p,_,_=>(List.nil_perm.mp p).symm
 |x::a,[],p,_,_=>absurd p.length_eq (by simp)
 |x::a,y::b,p,h1,h2=>by
  rw[b6]at h1 h2;have e:x=y:=by
   have f:=p.mem_iff.mp (mS1 (a:=x) (l:=a));have d:=p.mem_iff.mpr (mS1 (a:=y) (l:=b));rcases aF.mp f with z|z
   ·exact z
   ·rcases aF.mp d with c|c
    ·exact c.symm
    ·have:=h2.1 x z;have:=h1.1 y c;lia
  subst e;rw[nP (List.perm_cons x |>.mp p) h1.2 h2.2]
noncomputable def re:List D->Option (List Int)
 |[]=>Z []
 | .int i::l=>(re l).map λt=>i::t
 |_=>Y
def lY:G1:=λd S=>match d with
 | .ref n=>match S[n]? with
  |some (.lst xs)=>(re xs).bind λns=>if ns.length<64 then Z (.ref S.length,S++[.lst ((iB ns).map D.int)])else Y
  |_=>Y
 |_=>Y
theorem zB{K:Fg1}{H:Hp}{mu:List dk}:∀{ds:List D} {vs:List V} {a:List di} {ns:List Int},dX K H mu ds vs->ed vs a->re ds=Z ns->QN a ns:=by
 intro ds
 induction ds with
 |nil=>intro vs a ns r v h;cases r;cases v;cases h;exact .nil
 |cons d ds ih=>
  intro vs a ns r v h;cases r with
  |cons b t=>
   cases v with
   |cons f c=>
    cases b
    case int i=>
     obtain⟨m,e,h⟩:=R4 h;subst h;obtain⟨tk,rfl⟩:=f;exact .cons i tk (ih t c e)
    all_goals cases h
theorem rd:∀{us:List di} {ns:List Int},QN us ns->ed (ns.map V.int) us:=by
 intro us ns h
 induction h with
 |nil=>exact .nil
 |cons i t _ ih=>exact .cons ⟨t,O⟩ ih
theorem zC:∀{ds:List D} {ns:List Int},re ds=Z ns->ns.length=ds.length:=by
 intro ds
 induction ds with
 |nil=>intro ns h;cases h;rfl
 |cons d ds ih=>
  intro ns h;cases d with
  |int i=>
   obtain⟨m,e,h⟩:=R4 h;subst h;rw[lC1,lC1,ih e]
  |_=>cases h
theorem Dj:eR X (.builtin "sorted") (rN X.K (b1 lY)):=by
 intro ag s σ H xs F Q I r h;obtain⟨x,mu,S,d,K,E,rfl,D,k,c,hc⟩:=Bo h;cases d with
 |ref n=>
  dsimp only[lY]at c;split at c
  ·rename_i ds B;obtain⟨ns,w,c⟩:=R3 c;split at c
   ·rename_i L;cases c;have f:dZ S (.ref n)=Z (M,ds):=by simp only[dZ,B]
    obtain⟨a,vs,rfl,q,t⟩:=dW D k f;obtain⟨u,rfl,r2⟩:=iP r;cases r2;obtain⟨g,v,z,ao⟩:=I.list q;have C:=zB t v w;have y:g.length=ns.length:=by
     rw[<- v.length,<- t.length,zC w]
    refine sorted_ints z.isList C (by lia) λout j i A p=>?_;have m:j=iB ns:=nP (A.trans (fK ns).symm) p (jz ns);subst m;obtain⟨ep,l⟩:=sortedAll_at s.heap g out;have e:=I.hok.fresh (aX s.heap.objs.size);refine⟨.ref (s.heap.objs.size+1),_,I.laid (t':=s.toks) (o:=.lst ((iB ns).map V.int)) (λb G q=>sortedAll_old q) (aX _) ?_,O,hc _ _ (mu++[_]) (Ext.new_ e) (.ref (hK k.len _)) (k.newL (kd _) e)⟩;refine⟨?_,out.toList,ep,rd i,by rw[Array.toArray_toList];exact l⟩;rw[lM1,(fK ns).length_eq,Qa];lia
   ·cases c
  ·cases c
 |_=>cases c
theorem mw(n:Nat):∀ns:List Int,D.unds n (ns.map D.int)=M
 |[]=>rfl
 |_::ns=>by rw[mP1,D.unds,mw n ns];rfl
theorem Gd{n:Nat}{d:D}{S:Sto}(h:S.length=n):gc n (d,S)=(d,S):=by
 unfold gc;split
 ·rw[show(d,S).2=S from rfl,<- h,bU]
 ·rfl
theorem zX{n:Nat}{f:FN}{ds:List D}{S S1:Sto}{d:D}(h:f ds []=Z (d,S1))(hn:ds.length=n)(a:D.unds 0 ds=M)(hd:d.und 0=M):dI n f ds S=Z (d,S):=by
 unfold dI rE;rw[ak hn,ak a,h,oP1,ak hd]
theorem pB{n:Nat}{f:FN}{ds:List D}{S S1:Sto}{d:D}(h:f ds []=Z (d,S1))(hn:ds.length=n)(a:D.unds 0 ds=M)(hd:d.und 0=J):dI n f ds S=Z (d.sh S.length,S++S1.map (Ob.sh S.length)):=by
 unfold dI rE;rw[ak hn,ak a,h,oP1,aj (by dsimp only;rw[hd];decide)]
theorem rA{n:Nat}{f:FN}{ds:List D}{S S1:Sto}{d:D}(h:f ds S=Z (d,S1))(hn:ds.length=n)(a:D.unds 0 ds=J):dI n f ds S=Z (gc S.length (d,S1)):=by
 unfold dI rE;rw[ak hn,aj (by rw[a];decide),h,oP1]
theorem Ab{n:Nat}{f:FN}{ds:List D}{S S1:Sto}{d:D}(h:f ds S=Z (d,S1))(hn:ds.length=n)(b:D.unds 0 ds=J)(a:S1.length=S.length):dI n f ds S=Z (d,S1):=by
 rw[rA h hn b,Gd a]
theorem uz{i j:Int}(h1: -(2^64)<i)(h2:i<2^64):e9 i j=M:=by
 unfold e9;simp only[bM,bA1,am];exact .inl (.inl ⟨h1,h2⟩)
theorem xH{i j:Int}(h1: -(2^64)<j)(h2:j<2^64):e9 i j=M:=by
 unfold e9;simp only[bM,bA1,am];exact .inl (.inr ⟨h1,h2⟩)
theorem fF{S:Sto}{n:Nat}{xs:List D}(h:S[n]?=Z (.lst xs)):pP S [(n,xs)]=M:=by
 rw[pP,h];simp[D.sames_refl,pP]
noncomputable def jG(n:Nat):Nat->List D
 |0=>[]
 |k+1=>.ref n::jG (n+1) k
theorem uC:∀{n:Nat} {lo:Int} {d:D},d∈fX lo n -> ∃k:Int,d = .int k/\lo<=k/\k<lo+n
 |0,lo,d,h=>by simp[fX]at h
 |n+1,lo,d,h=>by
  rw[fX]at h;rcases aF.mp h with h|h
  ·exact⟨lo,h,Int.le_refl _,by lia⟩
  ·obtain⟨k,e,h1,h2⟩:=uC h;exact⟨k,e,by lia,by lia⟩
open Classical in
noncomputable def OP(ws:List di)(x:di):Nat:=ws.findIdx λy=>decide (y=x)
section
variable{prog:dn}{w:dr}{A:dq}{E:di->dj->Prop}{s:dj}{κ:RC}{ws:List di}{a₀:Array RD}
end
section
variable{prog:dn}{w:dr}{A:dq}{E:di->dj->Prop}{s:dj}
end
section
variable{prog:dn}{w:dr}{A:dq}{E:di->dj->Prop}{R:Qf->dj->Prop}
end
section
variable{prog:dn}{w:dr}{A:dq}{E:di->dj->Prop}{s:dj}
end
mutual
theorem AF{n:Nat}:∀k:TK,(tkD k).und n=M
 | .non=>rfl
 | .int _=>rfl
 | .tup xs=>by rw[tkD,D.und];exact w5 xs
theorem w5{n:Nat}:∀ks:List TK,D.unds n (jw ks)=M
 |[]=>rfl
 |k::ks=>by rw[jw,D.unds,AF k,w5 ks];rfl
end
section
variable{prog:dn}{w:dr}{A:dq}{E:di->dj->Prop}{s:dj}
end
section
variable{prog:dn}{w:dr}{A:dq}{E:di->dj->Prop}{R:Qf->dj->Prop}
end
section
variable{ag:List (dk×Obj)}{σ:L2.St}{H:Hp}{s:dj}{a:dk}{u v:HO}
end
section
variable{K:Fg1}{H H':Hp}{mu mu':List dk}{S:Sto}{n:Nat}{a:dk}{o:Obj}{u:HO}
end
theorem rS.lt{xs:Array Nat}(h:rS xs){a b u v:Nat}(d:a<b)(c:xs[a]?=Z u)(eb:xs[b]?=Z v):u<v:=by
 rw[<- aT1]at c eb;obtain⟨f,c⟩:=R1 c;obtain⟨e,eb⟩:=R1 eb;have:=b7.mp h a b f e d;rw[c,eb]at this;exact this
structure Bs (xs:Array Nat)(j i:Nat):Prop where
 le:i<=xs.size
 lo:∀k v,xs[k]?=some v->k<i->v<j
 hi:∀k v,xs[k]?=some v->i<=k->j<=v
theorem Bs.uniq{xs:Array Nat}{j i i':Nat}(h:Bs xs j i)(h':Bs xs j i'):i=i':=by
 rcases b8 i i' with z|z|z
 ·have a:i<xs.size:=nL1 z h'.le;have e:=aG1 a;have:=h.hi _ _ e (nR1 _);have:=h'.lo _ _ e z;lia
 ·exact z
 ·have a:i'<xs.size:=nL1 z h.le;have e:=aG1 a;have:=h'.hi _ _ e (nR1 _);have:=h.lo _ _ e z;lia
theorem Dp{xs:Array Nat}{j:Nat}(hr:rS xs):∀n lo hi:Nat,lo<=hi->hi<=xs.size->hi-lo<=n->(∀k v,xs[k]?=Z v->k<lo->v<j)->(∀k v,xs[k]?=Z v->hi<=k->j<=v)->Bs xs j (SetTable.below.go xs j n lo hi)
 |0,lo,hi,h1,h2,g,b,c=>by
  have:lo=hi:=by lia
  subst this;exact⟨h2,b,c⟩
 |n + 1,lo,hi,h1,h2,g,b,c=>by
  rw[SetTable.below.go];by_cases f:lo<hi
  ·rw[ak f];have d:(lo+hi)/2<xs.size:=by lia
   have a:=aG1 d;have h:xs.getD ((lo+hi)/2) j=xs[(lo+hi)/2]:=by simp[Array.getD,d]
   dsimp only;rw[h];by_cases hc:xs[(lo+hi)/2]<j
   ·rw[ak hc];refine Dp hr n _ _ (by lia) h2 (by lia) (λk v e i=>?_) c;rcases bS k ((lo+hi)/2)with z|z
    ·have:=hr.lt z e a;lia
    ·have:k=(lo+hi)/2:=by lia
     subst this;rw[a]at e;cases e;exact hc
   ·rw[aj hc];refine Dp hr n _ _ (by lia) (by lia) (by lia) b λk v e i=>?_;rcases bS ((lo+hi)/2) k with z|z
    ·have:=hr.lt z a e;lia
    ·have:k=(lo+hi)/2:=by lia
     subst this;rw[a]at e;cases e;lia
  ·rw[aj f];have:lo=hi:=by lia
   subst this;exact⟨h2,b,c⟩
theorem md{xs:Array Nat}(hr:rS xs)(j:Nat):Bs xs j (RE xs j):=
 Dp hr _ 0 _ (bi _) (nR1 _) (by lia) (λ_ _ _ h=>absurd h (bw _)) λk v e h=>by
  have:=(Array.getElem?_eq_some_iff.mp e).1;lia
theorem jO{α:Type}(xs:Array α)(p:Nat)(x:α):(RF xs p x).toList=xs.toList.take p++x::xs.toList.drop p:=by
 unfold RF;rw[Array.toList_append,b9,Array.toList_extract,Array.toList_extract];simp[List.extract_eq_drop_take];rw[ca (by simp)]
theorem xr{xs:Array Nat}(hr:rS xs){j:Nat}(hn:xs[RE xs j]? ≠ Z j):rS (RF xs (RE xs j) j):=by
 have b:=md hr j;unfold rS;rw[jO,List.pairwise_append,b6];have lo:∀v∈xs.toList.take (RE xs j),v<j:=λv g=>by
  obtain⟨k,d⟩:=bq g;rw[List.getElem?_take]at d;split at d
  ·rename_i h;exact b.lo k v (by rw[<- aT1];exact d) h
  ·cases d
 have hi:∀v∈xs.toList.drop (RE xs j),j<v:=λv g=>by
  obtain⟨k,d⟩:=bq g;rw[List.getElem?_drop,aT1]at d;have h1:=b.hi _ v d (br _ _);rcases bS j v with z|z
  ·exact z
  ·exfalso;have f:v=j:=by lia
   subst f;cases k with
   |zero=>exact hn d
   |succ k=>
    have l:RE xs v<xs.size:=by have:=(Array.getElem?_eq_some_iff.mp d).1;lia
    have e:=aG1 l;have:=b.hi _ _ e (nR1 _);have:=hr.lt (by lia) e d;lia
 refine⟨hr.sublist (aU _ _),⟨hi,hr.sublist (List.drop_sublist _ _)⟩,λa i c hc=>?_⟩;rcases aF.mp hc with z|z
 ·rw[z];exact lo a i
 ·exact bh (lo a i) (hi c z)
structure TS (l:Bool)(t:QW):Prop where
 up:rS t.place
 du:t.dummies = #[]
 ld:t.led=l
theorem lP{t:QW}(hd:t.dummies = #[])(j:Nat):SetTable.has t.dummies j=J:=by rw[hd];rfl
theorem qo{t:QW}(hd:t.dummies = #[]){f:Nat->Int}{h:Int}:∀(n:Nat) (p:RG) (j:Nat) (d:Option Nat),p.dummy=Y->RH t f h n p=Z (.empty j d)->d=Y/\t.place[RE t.place j]? ≠ Z j
 |0,p,j,d,_,e=>by rw[RH]at e;cases e
 |n+1,p,j,d,hp,e=>by
  have a:(t.advance p).dummy=Y:=by
   unfold SetTable.advance;split
   ·exact hp
   ·dsimp only;exact hp
  rw[RH]at e;unfold SetTable.slot at e;dsimp only at e;rw[lP hd]at e;by_cases hc:(t.place[RE t.place p.j]? == Z p.j)=M
  ·rw[ak hc]at e;dsimp only at e;split at e
   ·cases e
   ·exact qo hd n _ j d a e
  ·rw[aj hc,aj (by decide)]at e;dsimp only at e;cases e;refine⟨hp,λz=>hc ?_⟩;rw[z];simp
theorem Gn{t:QW}(hd:t.dummies = #[]){h:Int}{j:Nat}{b:Bool}(e:t.freeSlot h=Z (j,b)):t.place[RE t.place j]? ≠ Z j:=by
 unfold SetTable.freeSlot at e;split at e
 ·rename_i c d ep;obtain⟨rfl,a⟩:=qo hd _ _ _ _ O ep;cases e;exact a
 ·cases e
theorem lz{l:Bool}{t:QW}(h:TS l t)(n:Nat):TS l (t.standIn n):=by
 refine⟨?_,O,h.ld⟩;show(Array.range n).toList.Pairwise (· < ·);rw[Array.toList_range];exact cb
theorem KL{l:Bool}{t:QW}(h:TS l t)(n:Nat):TS l (t.orStandIn n):=by
 unfold SetTable.orStandIn;split
 ·exact h
 ·exact lz h n
theorem HB{l:Bool}{t:QW}(ht:TS l t)(es:Array (Int×di))(h:Int)(x:di):TS l (layNew t es h x).2.1:=by
 unfold layNew;split
 ·rename_i j b e;show TS l ((t.put j).1.orStandIn _);refine KL (t:=(t.put j).1) ⟨?_,?_,ht.ld⟩ _
  ·exact xr ht.up (Gn ht.du e)
  ·show(if SetTable.has t.dummies j=M then _ else t.dummies) = #[];rw[lP ht.du,aj (by decide)];exact ht.du
 ·exact lz ht _
theorem nV{α:Type}(f:Nat->Option α):∀l:List Nat,((l.filterMap λj=>(f j).map (j,·)).map (·.1)).Sublist l
 |[]=>.slnil
 |a::l=>by
  rw[aE];cases f a with
  |none=>exact(nV f l).cons a
  |some x=>exact(nV f l).cons₂ a
theorem En{l p:Bool}{m fi mo:Nat}{hs:Array Int}{t:QW}{a:Array Nat}(e:SetTable.laid m fi mo l p hs=Z (t,a)):TS l t:=by
 unfold SetTable.laid at e;obtain⟨b,_,e⟩:=R3 e;cases e;refine⟨?_,O,O⟩;unfold rS;dsimp only;exact List.pairwise_lt_range.sublist (by simpa using nV (λj=>b.getD j Y) (af (m+1)))
theorem AN{l:Bool}{t:QW}(ht:TS l t)(es:Array (Int×di))(n:Nat):TS l (relayAll t es n).2.1:=by
 unfold relayAll;split
 ·rename_i b a e;dsimp only;split
  ·have:=En e;rw[ht.ld]at this;exact this
  ·exact lz ht _
 ·exact lz ht _
theorem AO(l:Bool):TS l (SetTable.fresh 0 0 l):=⟨List.Pairwise.nil,O,O⟩
theorem Gz{xs:Array Nat}(hr:rS xs){i:Nat}(hi:i<xs.size):RE xs (xs[i]+1)=i+1:=by
 refine(md hr _).uniq ⟨hi,λk v e a=>?_,λk v e a=>?_⟩
 ·rcases bS k i with z|z
  ·have:=hr.lt z e (aG1 hi);lia
  ·have:k=i:=by lia
   subst this;rw[aG1 hi]at e;cases e;lia
 ·have:=hr.lt (show i<k by lia) (aG1 hi) e;lia
theorem Do{xs:Array Nat}(hr:rS xs):RE xs 0=0:=
 (md hr _).uniq ⟨bi _,λk v e a=>absurd a (bw _),λk v e a=>bi _⟩
noncomputable def Ny(e:Int×di):Int:=match e.2 with
 | .int k _=>k
 |_=>0
structure Els (es:Array (Int×di))(ns:List Int):Prop where
 el:∀e∈es.toList,∃k t,e=(aa k,ab k t)
 pm:(es.toList.map Ny).Perm ns
theorem Els.of{P:dn}{w:dr}{es:Array (Int×di)}{ns:List Int}(h:Els es ns):ElemsOf (Pn P w) es.toList:=λe a=>by
 obtain⟨k,t,rfl⟩:=h.el e a;exact⟨⟨k,intKind_is _ _ _ _,O⟩,O⟩
theorem Els.size{es:Array (Int×di)}{ns:List Int}(h:Els es ns):es.size=ns.length:=by
 have:=h.pm.length_eq;rw[lM1,aK]at this;exact this
theorem Els.perm{es fs:Array (Int×di)}{ns:List Int}(h:Els es ns)(p:fs.toList.Perm es.toList):Els fs ns:=
 ⟨λe a=>h.el e (p.mem_iff.mp a),(p.map _).trans h.pm⟩
theorem Els.add{es fs:Array (Int×di)}{ns:List Int}(h:Els es ns){k:Int}{t:Tok}(p:fs.toList.Perm (es.push (aa k,.int k t)).toList):Els fs (ns++[k]):=by
 rw[b9]at p;refine⟨λe a=>?_,?_⟩
 ·rcases aG.mp (p.mem_iff.mp a)with z|z
  ·exact h.el e z
  ·simp at z;exact⟨k,t,z⟩
 ·refine(p.map _).trans ?_;rw[cc];exact h.pm.append (.refl _)
def j2(b:Bool)(p:dk)(ns:List Int)(h:dB):Prop:=∃es ep t l,h.get? p=Z (stO es ep t)/\Els es ns/\es.size<RB/\t.fits es.size=M/\TS l t/\(b=J->l=M)
section
variable{P:dn}{w:dr}{A:dq}{E:di->dj->Prop}{s:dj}{b:Bool}{p:dk}{ns:List Int}
theorem sx{es fs:Array (Int×di)}{ep:Nat}{t u:QW}{h:dB}(e:h.get? p=Z (stO es ep t)):(h.update p (Obj.putSet fs u)).get? p=Z (stO fs (ep+1) u):=by
 have:=hW1 (Obj.putSet fs u) e (by rw[putSet_of fs u O];rfl);rw[putSet_of fs u O]at this;exact this
theorem gw{c:Bool}{Q:Unit->dj->Prop}(q:Q () s):dz (Pt P w) A (match c with
  |true=>rule "set.scan.the-table-gave-way"
  |false=>pure ()) Q E s:=by cases c<;>first|exact wP1 q|exact PR q
theorem NO{k:Int}{tk:Tok}{Q:Bool->dj->Prop}(W:j2 b p ns s.heap)(hr:ns.length+1<RB)(q:∀c h',Ps p s.heap h'->j2 b p (Rz ns k) h'->Q c {s with heap:=h'}):dz (Pt P w) A (setAddHashed p (.int k tk) (aa k)) Q E s:=by
 obtain⟨es,ep,t,l,i,a,T,H,S,ao⟩:=W;have hz:=a.size;have el:ElemsOf (Pn P w) es.toList:=a.of;unfold setAddHashed setAddHashedIn;refine PM (wB1 (RI i O H ?_));dsimp only;rw[byScan_of (knd:=Pn P w) O T el,ak O];unfold setAddByScan;refine wB1 (wB1 (PR (wB1 (wpAny_setScan_of (knd:=Pn P w) (k:=k) (intKind_is _ _ _ _) i O H el ?_))));cases hx:List.findIdx? (λe=>(Pn P w).is k e.2) es.toList with
 |some j=>
  obtain⟨av,m,_⟩:=bZ.mp hx;have I:k∈ns:=by
   refine a.pm.mem_iff.mp (cf.mpr ⟨_,bQ av,?_⟩);obtain⟨k',V,e⟩:=a.el _ (bQ av);rw[e]at m ⊢;exact((Pn P w).inj _ _ _ m (intKind_is P w k' V)).symm
  have B:Rz ns k=ns:=by unfold Rz;rw[ak (bP.mpr ⟨k,I,by simp⟩)]
  rw[B]at q;exact wP1 (wP1 (q _ s.heap (Heap.SameBut.refl p s.heap) ⟨es,ep,t,l,i,a,T,H,S,ao⟩))
 |none=>
  have B:Rz ns k=ns++[k]:=by
   unfold Rz;rw[aj λz=>?_];obtain⟨k',I,e⟩:=bP.mp z;have e:=RO.mp e;subst e;obtain⟨x,h,f⟩:=cf.mp (a.pm.mem_iff.mpr I);obtain⟨o,g,rfl⟩:=a.el x h;have f:o=k':=f;subst f;have:=List.findIdx?_eq_none_iff.mp hx _ h;rw[show(Pn P w).is o (aa o,ab o g).2=M from intKind_is _ _ _ _]at this;cases this
  rw[B]at q;have C:=layNew_perm t es (aa k) (.int k tk);have G:=layNew_fits t es (aa k) (.int k tk);have n:=HB S es (aa k) (.int k tk);dsimp only;generalize layNew t es (aa k) (.int k tk)=L at C G n ⊢;obtain⟨fs,u,au,wq⟩:=L;dsimp only at C G n ⊢;have y:Els fs (ns++[k]):=a.add C;have D:fs.size<RB:=by rw[y.size,lA1];exact hr
  refine wB1 (gw ?_);have tail:∀ (c:Bool),dz (Pt P w) A (do
    storeSet p fs u
    if (!au&&u.tooFull)=true then do
      (match (relayAll u fs (RJ fs.size)).2.2 with
       |true=>rule "set.scan.the-table-gave-way"
       |false=>pure ())
      storeSet p (relayAll u fs (RJ fs.size)).1 (relayAll u fs (RJ fs.size)).2.1
      pure (Z M)
     else pure (Z M)) (λr s'=>dz (Pt P w) A (match r with
      |some d=>pure d
      |none=>setAddHashedIn p (.int k tk) (aa k) 99999) Q E s') E s:=λ_=>by
   refine wB1 (RK i O ?_ (RL D));have F:=sx (fs:=fs) (u:=u) i;have N:=Q7 s.heap p (Obj.putSet fs u);split
   ·have p2:=relayAll_perm u fs (RJ fs.size);have K:=relayAll_fits u fs (RJ fs.size);have g:=AN n fs (RJ fs.size);generalize relayAll u fs (RJ fs.size)=L2 at p2 K g ⊢;obtain⟨aq,v,X⟩:=L2;dsimp only at p2 K g ⊢;have R:=y.perm p2;have U:aq.size<RB:=by rw[R.size,<- y.size];exact D
    refine wB1 (gw (wB1 (RK F O ?_ (RL U))));exact wP1 (wP1 (q _ _ (N.trans (Q7 _ p _)) ⟨aq,_,v,l,sx F,R,U,K,g,ao⟩))
   ·exact wP1 (wP1 (q _ _ N ⟨fs,_,u,l,F,y,D,G,n,ao⟩))
  split
  ·refine wB1 (wP1 ?_);exact tail M
  ·refine wB1 (wP1 ?_);exact tail M
end
section
variable{P:dn}{w:dr}{A:dq}{E:di->dj->Prop}{s:dj}
noncomputable def byT(w:dr):Bool:=w.params.followText "set-order"
theorem xF(x:di){G:di->dj->Prop}(q:G (.ref s.heap.objs.size) {s with heap:=s.heap.push (stO #[] 0 (.fresh 0 0 (!byT w)))}):
  dA (Pt P w) A (.call (.builtin "set.__new__") ⟨[.type "set",x],[]⟩) (wants G E) s:=by
 refine Q1 (?_:dz _ A.in1 (do checkBuiltinCall "set.__new__" ⟨[.type "set",x],[]⟩;again (.builtin "set.__new__" ⟨[.type "set",x],[]⟩)) _ _ s);refine wB1 (Q3 (PySem.F.newCall_set_1 x) (wP1 ⟨Rq PySem.F.plain_set_new _,wD1 PySem.F.entry_set_new (?_:_)⟩));rw[Rr PySem.F.plain_set_new _];unfold Builtin.«set.__new__» Builtin.Frozenset.newClass;have a:=sub_set_self;obtain⟨c,g,d,tk,b⟩:=s;dsimp only
 wp_walk
 refine Q2 (wP1 (?_:_));dsimp only;simp only[newObj];exact wB1 (wpAny_alloc (wP1 (wP1 q)))
set_option maxHeartbeats 3200000 in
theorem pA {l:dk}{its:Array di}{Q:di->dj->Prop}(H:s.heap.IsList l its)
  (i:∀g:dq,g.handled=A.handled->g.units<=A.units+2 -> ∀R:Qf->dj->Prop,(∀s',Q (.ref s.heap.objs.size) s'->R (.ok (.ret .none)) s') ->
   dA (Pt P w) g (.builtin "set.update.loop" ⟨[.ref s.heap.objs.size,.ref (s.heap.objs.size+1)],[]⟩) R {s with heap:=(s.heap.push (stO #[] 0 (.fresh 0 0 (!byT w)))).push {cls:=.type "list_iterator",data:=.fields #[.ref l,.int 0 0]}}):
  dz (Pt P w) A (call (.type "set") [.ref l]) Q E s:=by
 obtain⟨L,S,k⟩:=PySem.F.called_set.mro;have f:=PySem.F.called_set.made;have p:=PySem.F.called_set.sub
 refine wpAny_call (Q1 (?_:dz _ _ (callAny (.type "set") _) _ _ _));refine wP1 ⟨Code.quiet_builtin _ (by decide+kernel),wD1 PySem.F.entry_type_call (?_:_)⟩;rw[Around.under_plain (weight_type_call_type "set" [.ref l] []) O];have ao:=PySem.F.called_set.notType;have U:=PySem.F.called_set.canCreate;have W:=PySem.F.typeCall_set_1 (.ref l)
 repeat(any_goals (first|wp_step|assumption))
 refine Qg (xF (.ref l) (E:=E) (G:=λx m=>x = .ref s.heap.objs.size/\m={s with heap:=s.heap.push (stO #[] 0 (.fresh 0 0 (!byT w)))}) ⟨O,O⟩) λr m d=>?_;cases r with
 |error e=>exact d
 |ok C=>
  cases C with
  |ret x=>
   obtain⟨rfl,rfl⟩:=d;have t:(s.heap.push (stO #[] 0 (.fresh 0 0 (!byT w)))).get? s.heap.objs.size=Z (stO #[] 0 (.fresh 0 0 (!byT w))):=hS1 _ O;have y:Shared.TypeIs {s with heap:=s.heap.push (stO #[] 0 (.fresh 0 0 (!byT w)))} (.ref s.heap.objs.size) "set":=⟨_,t,O⟩;have K:=PySem.F.called_set.init.lookup;have aq:=PySem.F.called_set.init.bind (.ref s.heap.objs.size)
   repeat(any_goals (first|wp_step|assumption))
   refine Qg (codeAny_call_builtin (R:=wants (λr n=>r = .none/\Q (.ref s.heap.objs.size) n) E) PySem.F.called_set.init.plain PySem.F.entry_set_init (check_set_init_1 y (?_:_))) λr2 n a=>?_
   ·obtain⟨u,j,c,o,b⟩:=H;obtain⟨av,F,T,z⟩:=u;simp only at c b;subst c;subst b;have B:(s.heap.push (stO #[] 0 (.fresh 0 0 (!byT w)))).get? l=Z {cls:=.type "list",dict:=F,data:=.seq its o,slots:=z}:=hP1 _ j;have V:=PySem.F.sub_list_set;have X:=PySem.F.sub_list_frozenset;have N:(Pk "list" == Pk "dict")=J:=by decide
    have D:(s.heap.push (stO #[] 0 (.fresh 0 0 (!byT w)))).IsList l its:=⟨_,B,O,o,O⟩;have v:(s.heap.push (stO #[] 0 (.fresh 0 0 (!byT w)))).get? s.heap.objs.size=Z {cls:=.type "set",dict:=Y,data:=.set #[] 0 (.fresh 0 0 (!byT w)),slots:= #[]}:=t;unfold Builtin.«set.__init__» noKeywords Builtin.Frozenset.updateFrom;generalize h:P0=PI
    wp_walk
    subst h;refine wpAny_pyIter_list D (wB1 (wpAny_runValue (?_:_)));dsimp only;rw[show(s.heap.push (stO #[] 0 (.fresh 0 0 (!byT w)))).objs.size=s.heap.objs.size+1 from by rw[hZ1]];refine i A.in1.in1 (by simp) (nR1 _) _ λs' q=>?_;exact wP1 (wP1 ⟨O,q⟩)
   ·cases r2 with
    |error e=>exact a
    |ok I=>
     cases I with
     |ret r=>
      obtain⟨rfl,q⟩:=a
      repeat(any_goals (first|wp_step|assumption))
     |_=>exact a.elim
  |_=>exact d.elim
theorem zZ {l:dk}{its:Array di}{Q:di->dj->Prop}(c:s.heap.IsList l its)
  (b:∀a:dq,a.handled=A.handled -> ∀R:Qf->dj->Prop,(∀s',Q (.ref s.heap.objs.size) s'->R (.ok (.ret .none)) s') ->
   dA (Pt P w) a (.builtin "set.update.loop" ⟨[.ref s.heap.objs.size,.ref (s.heap.objs.size+1)],[]⟩) R {s with heap:=(s.heap.push (stO #[] 0 (.fresh 0 0 (!byT w)))).push {cls:=.type "list_iterator",data:=.fields #[.ref l,.int 0 0]}}):
  dz (Pt P w) A (call (.type "set") [.ref l]) Q E s:=pA c λa h _=>b a h
end
section
variable{P:dn}{w:dr}{A:dq}{E:di->dj->Prop}{b:Bool}
theorem j2.old{p:dk}{ns:List Int}{h h':dB}(x:j2 b p ns h)(k:∀o,h.get? p=Z o->h'.get? p=Z o):j2 b p ns h':=by
 obtain⟨es,ep,t,l,e,r⟩:=x;exact⟨es,ep,t,l,k _ e,r⟩
theorem pi:∀(ns acc:List Int),(ns.foldl Rz acc).length<=acc.length+ns.length
 |[],acc=>by simp
 |n::ns,acc=>by
  rw[b4];have h1:=pi ns (Rz acc n);have h2:(Rz acc n).length<=acc.length+1:=by unfold Rz;split<;>simp
  rw[lC1];lia
theorem Bf{p l it:dk}{its:Array di}{ns:List Int}{R:Qf->dj->Prop}(K:A.handled=none)(y:QN its.toList ns)(hb:ns.length+1<RB)(D:p≠l)(n:p≠it)(H:it≠l):
  ∀(k i:Nat) (s:dj),its.size-i=k->i<=its.size->s.heap.IsListIter it l i->s.heap.IsList l its->j2 b p ((ns.take i).foldl Rz []) s.heap ->
  (∀h' tk,(∀c o,c≠p->c≠it->s.heap.get? c=Z o->h'.get? c=Z o)->j2 b p (ddI ns) h'->R (.ok (.ret .none)) {s with heap:=h',toks:=tk})->dA (Pt P w) A (.builtin "set.update.loop" ⟨[.ref p,.ref it],[]⟩) R s:=by
 have g:its.size=ns.length:=by rw[<- aK];exact y.length
 intro k
 induction k with
 |zero=>
  intro i s L hi st h v q;have e:i=its.size:=by lia
  subst e;refine wD1 RM (?_:_);rw[Rr RN _];show dz _ A.in1 (PY (.ref it) >>= _) _ _ s;refine wB1 (P3 (by simpa using K) st h (by simp) λh' eb=>wP1 ?_);refine q h' s.toks (λc o _ hc e=>eb c o hc e) ?_;have:=v.old (h':=h') λo e=>eb p o n e;rw[g,bU]at this;exact this
 |succ k ih=>
  intro i s L hi st h v q;have f:i<its.size:=by lia
  have C:=aG1 f;obtain⟨t,E⟩:=PyProof.Rows.IntsAre.int_at y i its[i] (by rw[aT1];exact C);refine wD1 RM (?_:_);rw[Rr RN _];show dz _ A.in1 (PY (.ref it) >>= _) _ _ s;refine wB1 (P2 st h C λh' st' x=>?_);rw[E];show dz _ A.in1 (PJ [ab (ns.getD i 0) t] (setAdd p (.int (ns.getD i 0) t)) >>= _) _ _ _;refine wB1 (PM ?_);unfold setAdd;refine PM (wB1 (wpAny_pyHash_int ?_));have j:j2 b p ((ns.take i).foldl Rz []) h':=v.old λo e=>by rw[x.2 p n];exact e
  have u:=pi (ns.take i) [];refine NO (s:={s with heap:=h',toks:=s.toks+1}) (k:=ns.getD i 0) j (by rw[aR,bf]at u;lia) λc h2 a d=>?_;have F:ns[i]?=Z (ns.getD i 0):=by rw[gG1 (by lia)];simp[List.getD,show i<ns.length by lia]
  have I:Rz ((ns.take i).foldl Rz []) (ns.getD i 0)=(ns.take (i+1)).foldl Rz []:=by
   rw[cg,F,ci];rfl
  rw[I]at d;have z:∀c o,c≠p->c≠it->s.heap.get? c=Z o->h2.get? c=Z o:=λc o h1 m e=>by rw[a.2 c h1];show h'.get? c=_;rw[x.2 c m];exact e
  have keepIt:∀o,h'.get? it=Z o->h2.get? it=Z o:=λo e=>by rw[a.2 it (Pr n)];exact e
  refine wP1 ⟨Rq RN _,ih (i+1) {s with heap:=h2,toks:=s.toks+1} (by lia) f (st'.at keepIt) ?_ d λm tk ao G=>?_⟩
  ·obtain⟨o,e,r⟩:=h;exact⟨o,z l o (Pr D) (Pr H) e,r⟩
  ·exact q m tk (λc o h1 B e=>ao c o h1 B (z c o h1 B e)) G
theorem Aa{s:dj}{l:dk}{its:Array di}{ns:List Int}{Q:di->dj->Prop}(i:A.handled=Y)(d:s.heap.IsList l its)(f:QN its.toList ns)(hb:ns.length+1<RB)(q:∀h' tk,(∀c o,s.heap.get? c=Z o->h'.get? c=Z o)->j2 (byT w) s.heap.objs.size (ddI ns) h'->Q (.ref s.heap.objs.size) {s with heap:=h',toks:=tk}):dz (Pt P w) A (call (.type "set") [.ref l]) Q E s:=by
 have a:l<s.heap.objs.size:=by obtain⟨o,e,_⟩:=d;exact hL1 e
 refine zZ d λt n R m=>?_;have p:(s.heap.push (stO #[] 0 (.fresh 0 0 (!byT w)))).objs.size=s.heap.objs.size+1:=by rw[hZ1]
 have j:(s.heap.push (stO #[] 0 (.fresh 0 0 (!byT w)))).get? s.heap.objs.size=Z (stO #[] 0 (.fresh 0 0 (!byT w))):=hS1 _ O;refine Bf (its:=its) (ns:=ns) (b:=byT w) (n.trans i) f hb (nG1 a) (nN1 (bB _)) (nG1 (cj a)) _ 0 _ O (bi _) ?_ ?_ ?_ λh' tk k x=>m _ (q h' tk (λc o e=>k c o (nN1 (hL1 e)) (nN1 (cj (hL1 e))) (hP1 _ (hP1 _ e))) x)
 ·refine⟨{cls:=.type "list_iterator",data:=.fields #[.ref l,.int 0 0]},?_,O,O⟩;have this:((s.heap.push (stO #[] 0 (.fresh 0 0 (!byT w)))).push {cls:=.type "list_iterator",data:=.fields #[.ref l,.int 0 0]}).get? (s.heap.push (stO #[] 0 (.fresh 0 0 (!byT w)))).objs.size=Z {cls:=.type "list_iterator",data:=.fields #[.ref l,.int 0 0]}:=hS1 _ O;rw[p]at this;exact this
 ·obtain⟨o,e,r⟩:=d;exact⟨o,hP1 _ (hP1 _ e),r⟩
 ·refine⟨#[],0,_,!byT w,hP1 _ j,⟨λe g=>by simp at g,.refl _⟩,by decide,O,AO _,λh=>by rw[h];rfl⟩
end
theorem jA:Slot "set_iterator" "__next__" "set_iterator.__next__":=
 .of (owner:="set_iterator") (n:="__next__") (by rw[typeLookup_type,builtinLookup_eq_fast];kernel_rfl) (by decide+kernel) (by decide+kernel) (by decide+kernel) (by first|exact .inl (by decide+kernel)|exact .inr (by decide+kernel)) (by rw[isSubtype_type];kernel_rfl)
theorem rn:entryFor table "set_iterator.__next__"=Z Builtin.«set_iterator.__next__» :=entryFor_of_tree (by kernel_rfl)
theorem vp(x:di):argsOk "set_iterator.__next__" ⟨[x],[]⟩:=by unfold argsOk;kernel_rfl
theorem u4:entryFor table "set.__iter__"=Z Builtin.«frozenset.__iter__» :=entryFor_alias (id':="frozenset.__iter__") (by kernel_rfl) O (by decide+kernel) (by kernel_rfl)
abbrev Kt(h:dB)(it a:dk)(f:di)(i n ep:Nat):Prop:=h.get? it=Z {cls:=.type "set_iterator",dict:=Y,data:=.fields #[f,.int i 0,.ref a,.int n 0,.int ep 0],slots:= #[]}
noncomputable def mz(t:QW)(i:Nat):Nat:=match i with
 |0=>0
 |i+1=>t.place.getD i 0+1
inductive vq (w:dr)(h:dB)(a:dk)(es:Array (Int×di))(ep:Nat)(t:QW):di->Nat->List di->Prop
 |txt (b:byT w=true) (i:Nat) (sl:Nat):vq w h a es ep t (.int sl 0) i ((pickOrder (w.params.setOrder a ep) es).toList.map (·.2))
 |drw (b:byT w=false) (d:(!t.plain&&decide (es.size>1))=true) (i:Nat) (tp:dk) (ps:List Nat) (e:h.get? tp=some {cls:=.type "tuple",data:=.seq (ps.map λj=>ab (j:Nat) 0).toArray}) (pm:ps.Perm (af es.size)):vq w h a es ep t (.ref tp) i (ps.map λj=>(es[j]?.map (·.2)).getD .none)
 |plc (b:byT w=false) (d:(!t.plain&&decide (es.size>1))=false) (ld:t.led=true) (up:rS t.place) (i:Nat):vq w h a es ep t (.int (mz t i) 0) i (es.toList.map (·.2))
theorem qv{α:Type}(f:Nat->Nat):∀(n k:Nat) (l:List α) (out:Array α),l.length=n->(pickOrder.go f n k l out).toList.Perm (out.toList++l)
 |0,k,l,out,h=>by
  rw[pickOrder.go,List.length_eq_zero_iff.mp h,aN]
 |n+1,k,l,out,h=>by
  have b:f k%l.length<l.length:=ck _ (by lia);rw[pickOrder.go,gG1 b];refine(qv f n (k+1) _ _ (by rw[List.length_eraseIdx_of_lt b];lia)).trans ?_;rw[b9,bE];refine List.Perm.append_left _ ?_;have c:l=l.take (f k%l.length)++l[f k%l.length]::l.drop (f k%l.length+1):=by rw[List.getElem_cons_drop,cm]
  rw[cq];refine List.Perm.trans ?_ (List.Perm.of_eq c.symm);exact(List.perm_middle (l₁:=l.take (f k%l.length)) (l₂:=l.drop (f k%l.length+1)) (a:=l[f k%l.length])).symm
theorem vq.perm{w:dr}{h:dB}{a:dk}{es:Array (Int×di)}{ep:Nat}{t:QW}{f:di}{i:Nat}{pl:List di}(y:vq w h a es ep t f i pl):pl.Perm (es.toList.map (·.2)):=by
 cases y with
 |txt=>exact(qv _ _ _ _ _ O).map _
 |drw _ _ _ d ps e c=>
  refine(c.map _).trans ?_;have:(af es.size).map (λj=>(es[j]?.map (·.2)).getD .none)=es.toList.map (·.2):=by
   apply bW;intro j;rw[gP1,gP1,aT1 (xs:=es)];by_cases b:j<es.size
   ·rw[cr b,oP1,aG1 b];rfl
   ·rw[bX (by simpa using b),cu (by lia)];rfl
  rw[this]
 |plc=>exact .refl _
theorem vq.len{w:dr}{h:dB}{a:dk}{es:Array (Int×di)}{ep:Nat}{t:QW}{f:di}{i:Nat}{pl:List di}(y:vq w h a es ep t f i pl):pl.length=es.size:=by
 rw[y.perm.length_eq,lM1,aK]
section
variable{P:dn}{w:dr}{A:dq}{E:di->dj->Prop}{s:dj}{it a:dk}{f:di}{i ep:Nat}{es:Array (Int×di)}{t:QW}{pl:List di}
theorem rV{Q:Bool->dj->Prop}(q:Q (byT w) s):dz (Pt P w) A setsByText Q E s:=by unfold setsByText;exact wB1 (Q2 (wP1 q))
theorem A5{sl:Nat}{Q:Option (di×Nat)->dj->Prop}(b:byT w=M)(ho:s.heap.get? a=Z (stO es ep t))(hf:t.fits es.size=M)(q:Q (((pickOrder (w.params.setOrder a ep) es)[i]?).map λe=>(e.2,sl)) s):dz (Pt P w) A (setNext a sl i ep) Q E s:=by
 unfold setNext;refine wB1 (RI ho O hf (wB1 (rV ?_)));rw[b,ak O,aj (by simp)];refine wB1 ?_;unfold setWalk;refine wB1 (RI ho O hf (wB1 (rV ?_)));rw[b,ak O];exact wB1 (Q2 (wP1 (wP1 q)))
theorem GA(up:rS t.place)(hi:i<=t.place.size):RE t.place (mz t i)=i:=by
 cases i with
 |zero=>exact Do up
 |succ j=>
  have a:j<t.place.size:=hi;show RE t.place (t.place.getD j 0+1)=j+1;rw[show t.place.getD j 0=t.place[j]from by simp[Array.getD,a]];exact Gz up a
theorem A6{Q:Option (di×Nat)->dj->Prop}(b:byT w=J)(d:(!t.plain&&decide (es.size>1))=J)(h:t.led=M)(up:rS t.place)(ho:s.heap.get? a=Z (stO es ep t))(hf:t.fits es.size=M)(hi:i<=es.size)(q:Q ((es[i]?).map λe=>(e.2,mz t (i+1))) s):dz (Pt P w) A (setNext a (mz t i) i ep) Q E s:=by
 have j:t.place.size=es.size:=by
  unfold SetTable.fits at hf;rw[bA1,RO]at hf;exact hf.1
 unfold setNext;refine wB1 (RI ho O hf (wB1 (rV ?_)));rw[b,aj (by decide)];rw[aj (λz=>by have f:(!t.plain&&decide (es.size>1))=M:=z;rw[d]at f;cases f)];refine wB1 ?_;show dz _ _ (if(!t.led && !es.isEmpty)=M then _ else _) _ _ _;rw[aj (by rw[h];simp)];refine wP1 ?_;dsimp only;rw[GA up (by omega)];by_cases c:i<es.size
 ·rw [aG1 c] at q ⊢;rw [aG1 (show i<t.place.size by omega)];have g:mz t (i+1)=t.place[i]+1:=by
   show t.place.getD i 0+1=_;rw[show t.place.getD i 0=t.place[i]from by simp[Array.getD,show i<t.place.size by omega]]
  rw[g]at q;exact wP1 q
 ·rw[cu (by omega)]at q ⊢;exact wP1 q
theorem Ee{Q:Option di->dj->Prop}(k:Kt s.heap it a f i es.size ep)(ho:s.heap.get? a=Z (stO es ep t))(hf:t.fits es.size=M)(y:vq w s.heap a es ep t f i pl){x:di}(hx:pl[i]? = Z x)(R:∀ g,f = .ref g->g≠it)(q:∀h' h,Kt h' it a h (i+1) es.size ep->(∀c o,c≠it->s.heap.get? c=Z o->h'.get? c=Z o)->vq w h' a es ep t h (i+1) pl->(∀g,h = .ref g->f = .ref g)->Q (Z x) {s with heap:=h'}):dz (Pt P w) A (PY (.ref it)) Q E s:=by
 have I:s.TypeIs (.ref it) "set_iterator":=⟨_,k,O⟩;unfold PY;refine wB1 (Ra (Qy (name:=Qz "__next__") I jA (wE1 jA I rn ?_ (vp _))));refine wB1 (wP1 (wB1 (wpAny_fieldsOf k O ?_)));dsimp only;refine wB1 (wpAny_setEntries_of ho O hf ?_);rw[aj (by simp)];have av:i<es.size:=by have:=(R1 hx).1;rw[y.len]at this;exact this
 have m:∀ (h:di),(∀ g,h = .ref g->f = .ref g)->(∀ h',(∀ c o,c≠it->s.heap.get? c=some o->h'.get? c=some o)->vq w h' a es ep t h (i+1) pl) ->
   dz (Pt P w) A.in1 (setField (.ref it) 0 h >>= fun _=>setField (.ref it) 1 (P1 ((i:Int)+1)) >>= fun _=>ret x) (fun u s'=>∃ v,u=Fin.done (Flow.ret v)/\dz (Pt P w) A (pure (some v)) Q E s') (fun e s'=>dz (Pt P w) A (do
     let y<-isInstance e (.type "StopIteration")
     if y=M then pure Y else throw e) Q E s') s:=λh L aq=>by
  refine wB1 (wS1 k (by simp) λh1 N C=>wB1 (wS1 (s:={s with heap:=h1}) N (by simp) λh2 B l=>wP1 ⟨_,O,wP1 ?_⟩));have n:∀c o,c≠it->s.heap.get? c=Z o->h2.get? c=Z o:=λc o hc e=>l.extBut c o hc (C.extBut c o hc e);refine q h2 h ?_ n (aq h2 n) L;have e:((i+1:Nat):Int)=(i:Int)+1:=by lia
  unfold Kt;rw[e];simpa[P1]using B
 cases y with
 |txt b _ F=>
  refine wB1 (A5 (i:=i) (sl:=F) (ep:=ep) b ho hf ?_);rw[gP1,aT1]at hx;obtain⟨e,D,rfl⟩:=R4 hx;rw[D];exact m (.int F 0) (λg z=>by cases z) λh' _=>.txt b _ F
 |plc b d H up _=>
  refine wB1 (A6 (i:=i) b d H up ho hf (by lia) ?_);rw[gP1,aT1]at hx;obtain⟨e,D,rfl⟩:=R4 hx;rw[D];exact m (.int (mz t (i+1)) 0) (λg z=>by cases z) λh' _=>.plc b d H up _
 |drw b d _ g ps e ao=>
  rw[gP1]at hx;obtain⟨j,K,rfl⟩:=R4 hx;have p:j<es.size:=by have:=ao.mem_iff.mp (gM1 K);simpa using this
  refine wB1 (Q6 e O ?_);have r:((ps.map λj=>ab (j:Nat) 0).toArray)[((i:Int)).toNat]?=Z (.int (j:Nat) 0):=by
   rw[Qr,List.getElem?_toArray,gP1,K];rfl
  dsimp only;rw[r];dsimp only;refine wB1 ?_;unfold setNextDrawn;refine wB1 (RI ho O hf ?_);dsimp only;rw[aj (by simp),Qr,aG1 p];refine wP1 (wB1 (wS1 k (by simp) λh2 B l=>wP1 ⟨_,O,wP1 ?_⟩));have n:∀c o,c≠it->s.heap.get? c=Z o->h2.get? c=Z o:=λc o hc e=>l.extBut c o hc e;have G:=q h2 (.ref g) ?_ n (.drw b d _ g ps (n g _ (R g O) e) ao) λ_ z=>z
  ·rw[aG1 p]at G;exact G
  ·have e:((i+1:Nat):Int)=(i:Int)+1:=by lia
   unfold Kt;rw[e];simpa[P1]using B
theorem vQ{Q:Option di->dj->Prop}{G:Fin->dj->Prop}(d:A.handled=none)(q:∀ h',(∀ c o,s.heap.get? c=some o->h'.get? c=some o)->Q none {s with heap:=h'}):
  dz (Pt P w) A.in1 (newExc (.type "StopIteration") [] >>= fun e=>raiseNew e) G (fun e s'=>dz (Pt P w) A (do
     let y<-isInstance e (.type "StopIteration")
     if y=M then pure Y else throw e) Q E s') s:=by
 refine wB1 ?_;simp only[newExc,newTuple];refine wB1 (wO1 ?_ (by size_fits));refine wB1 (m:=Q8 _ _) (Q3 (a:=Ph) (by first|rfl|(simp only[Q8];rfl)) ?_);refine wO1 ?_ (by size_fits);simp only[raiseNew];refine wB1 (wpAny_handled ?_);rw[show A.in1.handled=Y from d];refine wB1 (wP1 (wpAny_throw (?_:_)));refine wB1 (Rg (b:=M) (T:="StopIteration") ⟨_,hS1 _ O,O⟩ Rh (?_:_));exact wP1 (q _ λb o e=>hP1 _ (hP1 _ e))
theorem Ht{Q:Option di->dj->Prop}(p:A.handled=Y)(g:Kt s.heap it a f es.size es.size ep)(ho:s.heap.get? a=Z (stO es ep t))(hf:t.fits es.size=M)(y:vq w s.heap a es ep t f es.size pl)(q:∀h',(∀c o,c≠it->s.heap.get? c=Z o->h'.get? c=Z o)->Q Y {s with heap:=h'}):dz (Pt P w) A (PY (.ref it)) Q E s:=by
 have u:s.TypeIs (.ref it) "set_iterator":=⟨_,g,O⟩;unfold PY;refine wB1 (Ra (Qy (name:=Qz "__next__") u jA (wE1 jA u rn ?_ (vp _))));refine wB1 (wP1 (wB1 (wpAny_fieldsOf g O ?_)));dsimp only;refine wB1 (wpAny_setEntries_of ho O hf ?_);rw[aj (by simp)];have l:=y.len;cases y with
 |txt b _ v=>
  refine wB1 (A5 (i:=es.size) (sl:=v) (ep:=ep) b ho hf ?_);rw[cu (by rw[lM1,aK]at l;lia)];refine wB1 (wS1 g (by simp) λh1 n h=>?_);exact vQ (s:={s with heap:=h1}) p λh' k=>q h' λc o hc e=>k c o (h.extBut c o hc e)
 |plc b d x up _=>
  refine wB1 (A6 (i:=es.size) (ep:=ep) b d x up ho hf (nR1 _) ?_);rw[cu (nR1 _)];refine wB1 (wS1 g (by simp) λh1 n h=>?_);exact vQ (s:={s with heap:=h1}) p λh' k=>q h' λc o hc e=>k c o (h.extBut c o hc e)
 |drw b d _ C ps e z=>
  refine wB1 (Q6 e O ?_);have m:((ps.map λj=>ab (j:Nat) 0).toArray)[((es.size:Int)).toNat]?=Y:=by
   rw[Qr,List.getElem?_toArray,bX (by rw[lM1]at l ⊢;lia)]
  dsimp only;rw[m];dsimp only;refine wB1 (wS1 g (by simp) λh1 n h=>?_);refine wB1 (wS1 (s:={s with heap:=h1}) n (by simp) λh2 B r=>?_);exact vQ (s:={s with heap:=h2}) p λh' k=>q h' λc o hc e=>k c o (r.extBut c o hc (h.extBut c o hc e))
theorem Dg{a:Source}{n:Nat}{Q:Nat->dj->Prop}(hn:n≠0)(q:∀i c,i<n->Q i {s with drawn:=c}):dz (Pt P w) A (choose a n) Q E s:=fun Γ p b=>by
 unfold choose;rw[Sem.wp_choose];refine⟨hn,?_⟩;exact wP1 (A:=A) (E:=E) (q _ _ (ck _ (Nat.pos_of_ne_zero hn))) Γ p b
theorem C5{α:Type}:∀(n:Nat) (xs:List α) (s:dj) (Q:List α->dj->Prop),xs.length=n->(∀ys b,ys.Perm xs->Q ys {s with drawn:=b})->dz (Pt P w) A (drawOrder n xs) Q E s
 |0,xs,s,Q,h,q=>by
  have:=List.length_eq_zero_iff.mp h;subst this;exact wP1 (q [] s.drawn (.refl _))
 |n+1,[],s,Q,h,q=>by simp at h
 |n+1,x::xs,s,Q,h,q=>by
  rw[drawOrder];refine wB1 (Dg (by simp) λi b hi=>?_);rw[gG1 hi];dsimp only;refine wB1 (C5 n _ _ _ (by rw[List.length_eraseIdx_of_lt hi];lia) λys a c=>wP1 (q _ a ?_));refine(c.cons _).trans ?_;have d:x::xs=(x::xs).take i++(x::xs)[i]::(x::xs).drop (i+1):=by rw[List.getElem_cons_drop,cm]
  rw[cq];refine List.Perm.trans ?_ (List.Perm.of_eq d.symm);exact List.perm_middle.symm
  all_goals simp
theorem Eg{l:Bool}{Q:di->dj->Prop}(ho:s.heap.get? a=some (stO es ep t))(hf:t.fits es.size=true)(hz:es.size<RB)(D:TS l t)(G:byT w=false->l=true)(q:∀it h' h f pl,(∀c o,s.heap.get? c=some o->h'.get? c=some o)->s.heap.objs.size<=it->Kt h' it a f 0 es.size ep->vq w h' a es ep t f 0 pl->(∀b,f = .ref b->b≠it/\s.heap.objs.size<=b)->Q (.ref it) {s with heap:=h',drawn:=h}):
  dz (Pt P w) A (P0 (.ref a)) Q E s:=by
 have y:s.TypeIs (.ref a) "set":=⟨_,ho,rfl⟩;refine wpAny_pyIter_slot y PySem.F.slot_set_iter (wE1 PySem.F.slot_set_iter y u4 ?_ (PySem.F.args_set_iter_1 _));unfold Builtin.«frozenset.__iter__»;refine wB1 (m:=Builtin.Frozenset.slot0 _ _) (wP1 ?_);unfold Builtin.Frozenset.sizeOf;refine wB1 (wB1 (wpAny_setEntries_of ho rfl hf (wP1 ?_)));unfold setDrawn;refine wB1 (wB1 (RI ho rfl hf (wB1 (rV (wP1 ?_)))));show dz _ _ (if (!byT w&&(!t.plain&&decide (es.size>1)))=true then _ else _) _ _ _;have d:∀ (h1:dB) (h:Drawn) (f:di) (pl:List di),(∀ c o,s.heap.get? c=some o->h1.get? c=some o)->s.heap.objs.size<=h1.objs.size->(∀ b,f = .ref b->b<h1.objs.size/\s.heap.objs.size<=b)->(∀ h',(∀ c o,h1.get? c=some o->h'.get? c=some o)->vq w h' a es ep t f 0 pl) ->
   dz (Pt P w) A.in1 (setEpoch a >>= λe=>newFields "set_iterator" [f,P1 0,.ref a,P1 es.size,P1 e] >>= λr=>ret r) (λd s'=>∃r,d=Fin.done (Flow.ret r) /\ ∃T g,s'.TypeIs r T/\typeLookup (.type T) "__next__"=pure (Z g)/\Q r s') E {s with heap:=h1,drawn:=h}:=by
  intro h1 h f pl C v u F;refine wB1 (wpAny_setEpoch_of (C a _ ho) O hf (wB1 (wO1 (wP1 ⟨_,O,"set_iterator",_,⟨_,hS1 _ O,O⟩,jA.lookup,?_⟩) (by size_fits))));refine q h1.objs.size _ h f pl (λc o e=>hP1 _ (C c o e)) v ?_ (F _ λc o e=>hP1 _ e) λb e=>⟨nN1 (u b e).1,(u b e).2⟩;have:=hS1 h1 (o:={cls:=.type "set_iterator",data:=.fields #[f,.int 0 0,.ref a,.int es.size 0,.int ep 0]}) O;exact this
 by_cases n:byT w=M
 ·rw[aj (by rw[n];simp)];refine wB1 (wP1 ?_);exact d s.heap s.drawn _ _ (λ_ _ e=>e) (nR1 _) (λb z=>by cases z) λh' _=>.txt n 0 0
 ·have n:byT w=J:=by simpa using n
  by_cases p:(!t.plain&&decide (es.size>1))=M
  ·rw[ak (by rw[n,p];rfl)];refine wB1 (C5 es.size (af es.size) s _ (by simp) λys h B=>?_);refine wB1 (m:=newTuple _) (wO1 (s:={s with drawn:=h}) ?_ ?_)
   ·refine d (s.heap.push {cls:=.type "tuple",data:=.seq (ys.map λ(i:Nat)=>P1 i).toArray}) h (.ref s.heap.objs.size) (ys.map λj=>(es[j]?.map (·.2)).getD .none) (λc o e=>hP1 _ e) (by rw[hZ1];exact aX _) (λb z=>by cases z;exact⟨by rw[hZ1];exact bB _,nR1 _⟩) λh' k=>?_;exact .drw n p 0 _ ys (k _ _ (hS1 _ O)) B
   ·have:=B.length_eq;have x:=RL hz;simp[sizeOk,this,x]
  ·have p:(!t.plain&&decide (es.size>1))=J:=by simpa using p
   rw[aj (by rw[p];simp)];refine wB1 (wP1 ?_);exact d s.heap s.drawn _ _ (λ_ _ e=>e) (nR1 _) (λb z=>by cases z) λh' _=>.plc n p (by rw[D.ld];exact G n) D.up 0
end
theorem vq.keep{w:dr}{h h':dB}{a:dk}{es:Array (Int×di)}{ep:Nat}{t:QW}{f:di}{i:Nat}{pl:List di}(y:vq w h a es ep t f i pl)(k:∀c o,f = .ref c->h.get? c=Z o->h'.get? c=Z o):vq w h' a es ep t f i pl:=by
 cases y with
 |txt b _ l=>exact .txt b _ l
 |drw b d _ c ps e g=>exact .drw b d _ c ps (k c _ O e) g
 |plc b d j up _=>exact .plc b d j up _
section
variable{P:dn}{w:dr}{A:dq}{E:di->dj->Prop}
theorem Ef{it a S:dk}{ep:Nat}{es:Array (Int×di)}{t:QW}{pl:List di}{B:di}{R:Qf->dj->Prop}(U:A.handled=none)(hf:t.fits es.size=true)(h1:it≠a)(h2:S≠a)(F:S≠it)(hn:es.size<=dy):
  ∀(k i:Nat) (s:dj) (f:di) (acc:Array di) (c:Nat),es.size-i=k->i<=es.size->Kt s.heap it a f i es.size ep->s.heap.get? a=Z (stO es ep t)->vq w s.heap a es ep t f i pl->(∀g,f = .ref g->g≠it/\g≠S) ->
  s.heap.get? S=Z {cls:=.type "list",dict:=Y,data:=.seq acc c,slots:= #[]}->acc.toList=pl.take i ->
  (∀h' d L,(∀b u,b≠it->b≠S->s.heap.get? b=Z u->h'.get? b=Z u)->h'.get? S=Z {cls:=.type "list",dict:=Y,data:=.seq d L,slots:= #[]}->d.toList=pl->R (.ok (.ret B)) {s with heap:=h'}) ->
  dA (Pt P w) A (.builtin "list.extend.loop" ⟨[.ref S,.ref it,B],[]⟩) R s:=by
 intro k
 induction k with
 |zero=>
  intro i s f acc c V hi m C y E ao D K;have e:i=es.size:=by lia
  subst e;have j:=y.len;refine wD1 PySem.F.entry_extend_loop (?_:_);rw[Rr RP _];show dz _ A.in1 (PY (.ref it) >>= _) _ _ s;refine wB1 (Ht U m C hf y λh' keep=>wP1 ?_);exact K h' acc c (λb u n _ e=>keep b u n e) (keep S _ F ao) (by rw[D,<- j,bU])
 |succ k ih=>
  intro i s f acc c V hi m C y E ao D K;have I:i<es.size:=by lia
  have j:=y.len;obtain⟨x,av⟩:∃x,pl[i]?=some x:=⟨_,gG1 (by lia)⟩;have z:acc.size=i:=by rw[<- aK,D,aR];lia
  refine wD1 PySem.F.entry_extend_loop (?_:_);rw[Rr RP _];show dz _ A.in1 (PY (.ref it) >>= _) _ _ s;refine wB1 (Ee m C hf y av (λg e=>(E g e).1) λh' Q r keep T N=>?_);have v:=keep S _ F ao;show dz _ A.in1 (updateSeq S (·.push x) >>= _) _ _ _;refine wB1 (wpAny_updateSeq (s:={s with heap:=h'}) v O ?_ (by rw[z];lia) (by show(acc.push _).size<=dy+1;rw[Array.size_push,z];lia));have h:∀b u,b≠S->h'.get? b=Z u->(h'.update S (QF (·.push x))).get? b=Z u:=λb u n e=>by rw[hU1 _ _ _ _ n];exact e
  refine wP1 ⟨Rq RP _,ih (i+1) {s with heap:=h'.update S (QF (·.push x))} Q (acc.push x) _ (by lia) I (h it _ (Pr F) r) (h a _ (Pr h2) (keep a _ (Pr h1) C)) (T.keep λg o e q=>h g o (E g (N g e)).2 q) (λg e=>E g (N g e)) (hW1 _ v O) ?_ ?_⟩
  ·rw[b9,D,cg,av];rfl
  ·intro H d L l G aq;exact K H d L (λb u n p e=>l b u n p (h b u p (keep b u n e))) G aq
theorem Bh:typeLookup (.type "set") "__len__"=pure (Z (.builtin "set.__len__")):=by rw[typeLookup_type,builtinLookup_eq_fast];kernel_rfl
theorem Eh {s:dj}{v:dk}{Q:Bool->dj->Prop}(c:s.TypeIs (.ref v) "set")(q:Q J s):dz (Pt P w) A (Builtin.List.listLengthHint (.ref v)) Q E s:=by
 unfold Builtin.List.listLengthHint;refine wB1 (Rs c Bh (?_:_));generalize a:("set.__len__":String)=id0
 wp_delta
 rw[show splitId id0=Z ("set","__len__")from by subst a;decide+kernel];subst a;refine wB1 (Rg (b:=M) c (by rw[isSubtype_type];kernel_rfl) (?_:_));rw[aj (by decide)];dsimp only;rw[ak (by decide+kernel)];exact wB1 (QC c (wP1 q))
theorem vJ{s:dj}{a:dk}{ns:List Int}{Q:List di->dj->Prop}(wq:A.handled=Y)(hx:j2 (byT w) a ns s.heap)(q:∀h' p vs R,(∀b u,s.heap.get? b=Z u->h'.get? b=Z u)->s.heap.objs.size<=h'.objs.size->QN vs R->R.Perm ns->Q vs {s with heap:=h',drawn:=p}):dz (Pt P w) A (collect (.ref a)) Q E s:=by
 obtain⟨es,ep,t,l,D,S,N,av,X,hl⟩:=hx;have n:a<s.heap.objs.size:=hL1 D;unfold collect;refine wB1 (wpAny_runValue (wD1 PySem.F.entry_proto_collect (?_:_)));rw[Rr PySem.F.plain_proto_collect _];show dz _ A.in1 (newList [] >>= λl=>again (.builtin "list.__iadd__" ⟨[l,.ref a],[]⟩)) _ _ s;refine wB1 (wO1 (?_:_));refine wP1 ⟨Rq PySem.F.plain_list_iadd _,wD1 PySem.F.entry_list_iadd (?_:_)⟩;rw[Rr PySem.F.plain_list_iadd _];have z:(s.heap.push {cls:=.type "list",data:=.seq ([]:List di).toArray}).get? s.heap.objs.size=Z {cls:=.type "list",data:=.seq ([]:List di).toArray}:=hS1 _ O;have g:∀b u,s.heap.get? b=Z u->(s.heap.push {cls:=.type "list",data:=.seq ([]:List di).toArray}).get? b=Z u:=λb u e=>hP1 _ e;have x:(s.heap.push {cls:=.type "list",data:=.seq ([]:List di).toArray}).objs.size=s.heap.objs.size+1:=by rw[hZ1]
 have L:s.heap.objs.size≠a:=nG1 n;have h1:Builtin.List.listSameRef (.ref s.heap.objs.size) (.ref a)=J:=by simp[Builtin.List.listSameRef,L]
 show dz _ A.in1 (Builtin.List.listExtendWith (.ref s.heap.objs.size) (.ref a) (.ref s.heap.objs.size)) _ _ {s with heap:=s.heap.push {cls:=.type "list",data:=.seq ([]:List di).toArray}};generalize s.heap.push {cls:=.type "list",data:=.seq ([]:List di).toArray}=h₁ at *
 unfold Builtin.List.listExtendWith;refine wB1 (QC (T:="set") ⟨_,g a _ D,O⟩ ?_);rw[aj (by rw[h1];decide)];refine wB1 (Eg (s:={s with heap:=h₁}) (g a _ D) av N X hl λit c p f pl h d K y I=>?_);dsimp only at h d I;have j:=h _ _ z;have r:Shared.TypeIs {s with heap:=c,drawn:=p} (.ref a) "set":=⟨_,h _ _ (g a _ D),O⟩;refine wB1 (PM (Eh r ?_));rw[ak (by decide+kernel)];refine wB1 (PR (wB1 ?_));show dz _ A.in1 (updateSeq s.heap.objs.size (·.push .none) >>= λ_=>updateSeq s.heap.objs.size (·.pop)) _ _ _;refine wB1 (wpAny_updateSeq (s:={s with heap:=c,drawn:=p}) j O ?_);have i:=hW1 (QF (·.push Ph)) j O;refine wpAny_updateSeq (s:={s with heap:=c.update s.heap.objs.size (QF (·.push Ph)),drawn:=p}) i O ?_;have B:=hW1 (QF (·.pop)) i O;have m:∀b u,b≠s.heap.objs.size->c.get? b=Z u->((c.update s.heap.objs.size (QF (·.push Ph))).update s.heap.objs.size (QF (·.pop))).get? b=Z u:=λb u C e=>by
  rw[hU1 _ _ _ _ C,hU1 _ _ _ _ C];exact e
 rw[x]at d I;have aq:=y.perm;refine wP1 ⟨Rq RP _,Ef (it:=it) (pl:=pl) wq av (nG1 (bh n d)) (nG1 n) (nN1 d) (RL N) es.size 0
  {s with heap:=(c.update s.heap.objs.size (QF (·.push Ph))).update s.heap.objs.size (QF (·.pop)),drawn:=p} f _ _ O (bi _) (m _ _ (nG1 d) K) (m a _ (nN1 n) (h _ _ (g a _ D))) (y.keep λH o e q=>m H o (nG1 (I H e).2) q) (λH e=>⟨(I H e).1,nG1 (I H e).2⟩) B O λh' F c' keep G V=>?_⟩
 show dz _ A (load s.heap.objs.size >>= _) _ _ {s with heap:=h',drawn:=p};refine wB1 (wpAny_load G ?_);have au:∀v∈pl,∃k t,v=ab k t:=λv ao=>by
  obtain⟨e,W,rfl⟩:=cf.mp (aq.mem_iff.mp ao);obtain⟨k,t,rfl⟩:=S.el e W;exact⟨k,t,O⟩
 have all:∀vs:List di,(∀v∈vs,∃k t,v=ab k t)->QN vs (vs.map λv=>Ny (0,v)):=by
  intro vs
  induction vs with
  |nil=>intro _;exact .nil
  |cons v vs ih=>
   intro ao;obtain⟨k,t,rfl⟩:=ao v mS1;exact .cons k t (ih λu U=>ao u (mC1 _ U))
 refine wP1 (q h' p F.toList (pl.map λv=>Ny (0,v)) (λb u e=>?_) (Nat.le_of_lt (hL1 G)) (by rw[V];exact all pl au) ?_)
 ·have C:=hL1 e;exact keep b u (nN1 (bh C d)) (nN1 C) (m b u (nN1 C) (h _ _ (g b u e)))
 ·refine(aq.map _).trans ?_;rw[bu];exact S.pm
theorem tZ {s:dj}{a:dk}{ns:List Int}{Q:di->dj->Prop}(o:A.handled=none)(hx:j2 (byT w) a ns s.heap)(h:ns.length<64)
  (q:∀h' f L n out,(∀b u,s.heap.get? b=Z u->h'.get? b=Z u)->s.heap.objs.size<=L->h'.get? L=Z (seqObj "list" out n)->QN out.toList (iB ns)->Q (.ref L) {s with heap:=h',drawn:=f}):
  dz (Pt P w) A (call (.builtin "sorted") [.ref a]) Q E s:=by
 refine Calls.call_function_entry kind_sorted plain_sorted entry_sorted (args_sorted1 _) (?_:_);unfold Builtin.«sorted»;refine wB1 (m:=checkCount "sorted" 1 1 _) (wP1 (wB1 (vJ o hx λh' f vs t keep r k l=>?_)));have d:vs.length<64:=by rw[k.length,l.length_eq];exact h
 refine wB1 (wpAny_newList (hsz:=by rw[Qa];lia) ?_);have c:(h'.push (seqObj "list" vs.toArray 0)).get? h'.objs.size=Z (seqObj "list" vs.toArray 0):=hS1 _ O;show dz _ _ _ _ _ {s with heap:=h'.push (seqObj "list" vs.toArray 0),drawn:=f};refine wB1 (PM (wE1 slot_list_sort ⟨_,c,O⟩ entry_list_sort (list_sort_tree (s:={s with heap:=h'.push (seqObj "list" vs.toArray 0),drawn:=f}) c k d λout i a1 a2 a3=>⟨_,O,?_⟩) (args_list_sort _)));have p:i=iB ns:=nP (a2.trans (l.trans (fK ns).symm)) a3 (jz ns);subst p;obtain⟨n,j⟩:=sortedHeap_at (out:=out) c;refine wP1 ⟨_,O,q _ f h'.objs.size n out (λb u e=>?_) r j a1⟩;have g:=keep b u e;show(sortedHeap (h'.push (seqObj "list" vs.toArray 0)) h'.objs.size vs out).get? b=Z u;rw[sortedHeap_old (nN1 (hL1 g)) (by rw[hZ1];exact cj (hL1 g))];exact hP1 _ g
end
def i5:G1:=λd S=>match dZ S d with
 |some (M,xs)=>(jh xs).bind λns=>if ns.length<64 then Z (.ref S.length,S++[.lst ((iB (ddI ns)).map D.int)])else Y
 |_=>Y
def La(X:Cx)(vs:List V)(H:Hp)(Q:VK):Prop:=∃a xs ns,vs=[.ref a]/\mU X.K H a xs/\(∀us,ed xs us->QN us ns)/\ns.length+1<RB /\ ∀p,H p=Y->Q (.ref p) (upd H p (.ext (j2 (byT X.w) p (ddI ns))))
def HW(X:Cx)(vs:List V)(H:Hp)(Q:VK):Prop:=∃a ns,vs=[.ref a]/\H a=Z (.ext (j2 (byT X.w) a ns))/\ns.length<64 /\ ∀p,H p=Y->Q (.ref p) (upd H p (.lst ((iB ns).map V.int)))
theorem zA{ag:List (dk×Obj)}{σ:L2.St}{H:Hp}{s:dj}(I:Inv X ag σ H s)(d:Drawn):Inv X ag σ H {s with drawn:=d}:=⟨I.ok,I.os,I.bare,I.base,I.loc,I.cell,I.free,I.freeC,I.pin,I.hok,I.len⟩
theorem Kb(hc:X.calm=M):eR X (.type "set") (La X):=by
 intro ag s σ H xs m Q I r h;obtain⟨a,vs,ns,rfl,i,hi,j,q⟩:=h;obtain⟨u,rfl,r2⟩:=iP r;cases r2;obtain⟨b,g,p,n⟩:=I.list i;have f:=hi b g;refine Aa (I.ok.hd hc) p.isList (by simpa using f) j λh' tk keep d=>?_;have c:=I.hok.fresh (nR1 s.heap.objs.size);refine⟨.ref s.heap.objs.size,_,I.laid (t':=tk) (o:=.ext (j2 (byT X.w) s.heap.objs.size (ddI ns))) keep (nR1 _) ⟨d,?_,λh1 h2 x k=>x.old k⟩,O,q _ c⟩;obtain⟨es,ep,t,l,e,_⟩:=d;exact⟨_,e⟩
theorem Gx(hc:X.calm=M):eR X (.builtin "sorted") (HW X):=by
 intro ag s σ H xs k Q I r h;obtain⟨a,ns,rfl,f,i,q⟩:=h;obtain⟨u,rfl,r2⟩:=iP r;cases r2;obtain⟨j,_⟩:=(show eQ X.prog X.w H s.heap a (.ext (j2 (byT X.w) a ns))from I.hok a _ f);refine tZ (I.ok.hd hc) j i λh' g L n out keep d c e=>?_;have b:=I.hok.fresh d;refine⟨.ref L,_,zA (I.laid (t':=s.toks) (o:=.lst ((iB ns).map V.int)) keep d ⟨?_,out.toList,n,rd e,by rw[Array.toArray_toList];exact c⟩) g,O,q _ b⟩;rw[lM1,(fK ns).length_eq,Qa];lia
theorem L4(ns:List Int):(ddI ns).length<=ns.length:=by
 have:=pi ns [];unfold ddI;simpa using this
theorem qj (hc:X.calm=true){o:Expr}{m:FE}{p p2 pos b:Pos}(hg:Gl X "sorted")(hm:X.mg "sorted"=none)(hg2:Gl X "set")(hm2:X.mg "set"=none)(ho:XE X o m)
  (he:autoParam (dw [.Call (.Name "set" p2) [o] [] b] X.env=[(J,eval (.Call (.Name "set" p2) [o] [] b) X.env)]) cu0) (c:autoParam (dw [o] X.env=[(J,eval o X.env)]) cu0):XE X (.Call (.Name "sorted" p) [.Call (.Name "set" p2) [o] [] b] [] pos) (mN (b1 i5) (dG m dH)):=
 ⟨eM (lJ (Gx hc) hg hm (by decide+kernel) (iD (ke (Kb hc) hg2 hm2 (by decide+kernel) (iD ho.h lg c) (he:=c)) lg he) (he:=he)) <| by
  rintro σ H Q ⟨r,mu,S,d,C,he,B,hm,f⟩;obtain⟨⟨ds,F⟩,g,hm⟩:=R3 hm;obtain⟨⟨l,D⟩,x,g⟩:=R3 g;cases g;dsimp only[b1,i5]at hm;split at hm
  ·rename_i xs w;obtain⟨ns,A,hm⟩:=R3 hm;split at hm
   ·rename_i k;cases hm;refine⟨r,mu,S,l,_,he,B,x,λv H1 mu1 y z h=>?_⟩;obtain⟨a,vs,rfl,q,t⟩:=dW z h w;refine⟨a,vs,ns,O,q,λE n=>(mK t n A).1,bh (Nat.succ_lt_succ k) (by decide),λp j=>?_⟩;refine⟨p,ddI ns,O,d9,bF (L4 ns) k,λp2 e=>?_⟩;have s:Ext mu1 mu1 H1 (upd H1 p (.ext (j2 (byT X.w) p (ddI ns)))):=Ext.fresh j;have i:=h.fresh (u:=.ext (j2 (byT X.w) p (ddI ns))) j;exact f _ _ (mu1++[p2]) (y.trans (s.trans (Ext.new_ e))) (.ref (hK i.len _)) (i.newL (kd _) e)
   ·cases hm
  ·cases hm⟩
section
variable{ag:List (dk×Obj)}{σ:L2.St}{H:Hp}{s:dj}{a:dk}{kvs:List (Key×V)}{k:Key}{v:V}{u r:di}{A:dq}{E:di->dj->Prop}
theorem J7{Q:di->dj->Prop}(I:Inv X ag σ H s)(e:H a=Z (.dK kvs))(l:kvs.length<dy)(p:d3 (kV k) u)(n:d3 v r)(h1:∀z,hA kvs k=Z z -> ∀g s',Inv X ag σ H s'->d3 z g->Q g s')(h2:hA kvs k=Y -> ∀s',Inv X ag σ (upd H a (.dK (hR kvs k v))) s'->Q r s'):dz (Pt X.prog X.w) A (call (.builtin "dict.setdefault") [.ref a,u,r]) Q E s:=by
 obtain⟨z,i,vs,b,m⟩:=u7 I.hok e;refine call_meetsIn PySem.F.slot_dict_setdefault m.typeIs PySem.F.entry_dict_setdefault (PySem.F.args_dict_setdefault_3 _ _ _) (kt_meets_setdefault (fc X.prog X.w) a (oZ p) i r) ⟨vs,m,by rw[<- b.length];exact z,λy c=>?_,λj h' d x=>?_⟩
 ·cases ev:hA kvs k with
  |none=>
   have:=b.val k;rw[ev,c]at this;cases this
  |some z=>
   obtain⟨g,h,f⟩:=mW.some_of (v:=z) (o:=QO vs k) (by rw[<- ev];exact b.val k);rw[h]at c;cases c;exact h1 z ev _ _ (I.tok _) f
 ·cases ev:hA kvs k with
  |some z=>
   obtain⟨g,h,f⟩:=mW.some_of (v:=z) (o:=QO vs k) (by rw[<- ev];exact b.val k);rw[h]at j;cases j
  |none=>
   have w:(hR kvs k v).length<=dy:=by have:=iF kvs k v;lia
   have t:∃q,h'.get? a=Z q:=let ⟨q,_,_,hq,_⟩:=d;⟨q,hq⟩
   exact h2 ev _ (ku I (by rw[e];exact Qd) x t (wB w i (b.put k n) d))
end
def Na(td ty tx:TE):TE:=fun σ H Q=>td σ H λx H1=>∃a,x = .ref a/\N2 H1 a/\ty σ H1 λy H2=>tx σ H2 λz H3=>∃kvs k,H3 a=Z (.dK kvs)/\kvs.length<dy/\y=kV k /\
 (∀v,hA kvs k=Z v->Q v H3)/\(hA kvs k=Y->Q z (upd H3 a (.dK (hR kvs k z))))
theorem Iy {o e f:Expr}{apos cpos:Pos}{td ty tx:TE}(ho:PE X o td)(he:PE X e ty)(hf:PE X f tx)(m:M2 X o "setdefault" apos e f cpos):PE X (.Call (.Attribute o "setdefault" apos) [e,f] [] cpos) (Na td ty tx):=by
 intro ag s σ H Q I h;refine wpAny_Call_method m.base m.few m.line PySem.F.plainAttrs_dict PySem.F.slot_dict_setdefault PySem.F.type_dict_setdefault (fh (ho ag s σ H _ I h) λu r ⟨x,H1,c,j,a,ex,d,D⟩=>?_);subst ex;obtain rfl:u=Pj a:=j;obtain⟨w,q,_⟩:=JQ c d;refine⟨w,q,?_⟩;rw[m.trees];refine QL O (QM (Calls.spliced_cons (fh (he ag r σ H1 _ c D) λaq t ⟨y,H2,C,i,n⟩=>
  Calls.spliced_cons (fh (hf ag t σ H2 _ C n) λN K ⟨z,E,ao,g,kvs,k,F,el,G,p,A⟩=>Calls.spliced_nil ?_))))
 subst G;exact J7 ao F el i g (λv l L s' b B=>⟨v,E,b,B,p v l⟩) λl s' b=>⟨z,_,b,g,A l⟩
def oU(m a b:FE):FE:=λr S=>(m r S).bind λp=>match p.1 with
 | .ref n=>match p.2[n]? with
  |some (.dct _)=>(a r p.2).bind λq=>(b r q.2).bind λt=>match t.2[n]? with
   |some (.dct kvs)=>(nH q.1).bind λk=>if kvs.length<dy then Z (match dU kvs k with|some z=>(z,t.2)|none=>(t.1,t.2.set n (.dct (gU kvs k t.1))))else none
   |_=>Y
  |_=>Y
 |_=>Y
theorem Ec {o e f:Expr} {apos cpos:Pos} {m a b:FE} (ho:XE X o m) (he:XE X e a) (hf:XE X f b) (hm:M2 X o "setdefault" apos e f cpos:=by exact⟨O,O,O,O⟩):XE X (.Call (.Attribute o "setdefault" apos) [e,f] [] cpos) (oU m a b):=
 ⟨eM (Iy ho.h he.h hf.h hm) <| by
  rintro σ H Q ⟨r,mu,S,d,S',he,wq,hm,hc⟩;obtain⟨⟨K,D⟩,N,hm⟩:=R3 hm;refine⟨r,mu,S,K,D,he,wq,N,λv1 H1 mu1 l V A=>?_⟩;dsimp only at hm;split at hm
  ·rename_i n;split at hm
   ·rename_i W u;cases V with
    | @ref _ ao B=>
     refine⟨ao,O,JP A B u,?_⟩;obtain⟨⟨P,y⟩,av,hm⟩:=R3 hm;obtain⟨⟨L,T⟩,U,hm⟩:=R3 hm;refine⟨r,mu1,D,P,y,he.ext l,A,av,λv2 H2 q p r2 G=>?_⟩;refine⟨r,q,y,L,T,(he.ext l).ext p,G,U,λI w g j E s=>?_⟩;dsimp only at hm;split at hm
     ·rename_i kvs aq;obtain⟨k,F,hm⟩:=R3 hm;split at hm
      ·rename_i au;have hm:=Option.some.inj hm;have h:=j.at (p.at B);obtain⟨ws,t,x⟩:=s.dct aq h;have lk:=x.look (k:=k);refine⟨ws,k,t,by rw[<- x.length];exact au,kn (r2.ext j) F,λv i=>?_,λi=>?_⟩
       ·cases e:dU kvs k with
        |none=>have:=lk.2;rw[e]at this;simp[i]at this
        |some z=>
         rw[e]at hm;cases hm;obtain⟨R,c,C⟩:=lk.1 _ e;rw[i]at c;cases c;exact hc _ w g ((l.trans p).trans j) C s
       ·cases e:dU kvs k with
        |some z=>
         obtain⟨R,c,C⟩:=lk.1 _ e;rw[i]at c;cases c
        |none=>
         rw[e]at hm;cases hm;have put:Ext g g w (upd w _ (.dK (hR ws k I))):=Ext.put t trivial (gM1 h);exact hc _ _ g (((l.trans p).trans j).trans put) (E.ext put) (s.put h t trivial ⟨_,d9,(x.put E).ext put⟩)
      ·cases hm
     ·cases hm
   ·cases hm
  ·cases hm⟩
open AutoSeq1 (wpAny_loadPart')
section
variable{prog:dn}{w:dr}{A:dq}{E:di->dj->Prop}{s:dj}
end
section
variable{P:dn}{w:dr}{A:dq}{E:di->dj->Prop}{s:dj}
set_option maxHeartbeats 3200000 in
theorem zY {l:dk}{its:Array di}{Q:di->dj->Prop}(H:s.heap.IsTuple l its)
  (h:∀o:dq,o.handled=A.handled -> ∀R:Qf->dj->Prop,(∀s',Q (.ref s.heap.objs.size) s'->R (.ok (.ret .none)) s') ->
   dA (Pt P w) o (.builtin "set.update.loop" ⟨[.ref s.heap.objs.size,.ref (s.heap.objs.size+1)],[]⟩) R {s with heap:=(s.heap.push (stO #[] 0 (.fresh 0 0 (!byT w)))).push {cls:=.type "tuple_iterator",data:=.fields #[.ref l,.int 0 0]}}):
  dz (Pt P w) A (call (.type "set") [.ref l]) Q E s:=by
 obtain⟨L,S,j⟩:=PySem.F.called_set.mro;have f:=PySem.F.called_set.made;have p:=PySem.F.called_set.sub
 refine wpAny_call (Q1 (?_:dz _ _ (callAny (.type "set") _) _ _ _));refine wP1 ⟨Code.quiet_builtin _ (by decide+kernel),wD1 PySem.F.entry_type_call (?_:_)⟩;rw[Around.under_plain (weight_type_call_type "set" [.ref l] []) O];have ao:=PySem.F.called_set.notType;have U:=PySem.F.called_set.canCreate;have W:=PySem.F.typeCall_set_1 (.ref l)
 repeat(any_goals (first|wp_step|assumption))
 refine Qg (xF (.ref l) (E:=E) (G:=λx k=>x = .ref s.heap.objs.size/\k={s with heap:=s.heap.push (stO #[] 0 (.fresh 0 0 (!byT w)))}) ⟨O,O⟩) λr k d=>?_;cases r with
 |error e=>exact d
 |ok C=>
  cases C with
  |ret x=>
   obtain⟨rfl,rfl⟩:=d;have t:(s.heap.push (stO #[] 0 (.fresh 0 0 (!byT w)))).get? s.heap.objs.size=Z (stO #[] 0 (.fresh 0 0 (!byT w))):=hS1 _ O;have y:Shared.TypeIs {s with heap:=s.heap.push (stO #[] 0 (.fresh 0 0 (!byT w)))} (.ref s.heap.objs.size) "set":=⟨_,t,O⟩;have K:=PySem.F.called_set.init.lookup;have aq:=PySem.F.called_set.init.bind (.ref s.heap.objs.size)
   repeat(any_goals (first|wp_step|assumption))
   refine Qg (codeAny_call_builtin (R:=wants (λr m=>r = .none/\Q (.ref s.heap.objs.size) m) E) PySem.F.called_set.init.plain PySem.F.entry_set_init (check_set_init_1 y (?_:_))) λr2 m a=>?_
   ·obtain⟨u,i,c,n,b⟩:=H;obtain⟨av,F,T,z⟩:=u;simp only at c b;subst c;subst b;have B:(s.heap.push (stO #[] 0 (.fresh 0 0 (!byT w)))).get? l=Z {cls:=.type "tuple",dict:=F,data:=.seq its n,slots:=z}:=hP1 _ i;have V:=PySem.F.sub_tuple_set;have X:=PySem.F.sub_tuple_frozenset;have N:(Pk "tuple" == Pk "dict")=J:=by decide
    have D:(s.heap.push (stO #[] 0 (.fresh 0 0 (!byT w)))).IsTuple l its:=⟨_,B,O,n,O⟩;have v:(s.heap.push (stO #[] 0 (.fresh 0 0 (!byT w)))).get? s.heap.objs.size=Z {cls:=.type "set",dict:=Y,data:=.set #[] 0 (.fresh 0 0 (!byT w)),slots:= #[]}:=t;unfold Builtin.«set.__init__» noKeywords Builtin.Frozenset.updateFrom;generalize g:P0=PI
    wp_walk
    subst g;refine wpAny_pyIter_tuple D (wB1 (wpAny_runValue (?_:_)));dsimp only;rw[show(s.heap.push (stO #[] 0 (.fresh 0 0 (!byT w)))).objs.size=s.heap.objs.size+1 from by rw[hZ1]];refine h A.in1.in1 (by simp) _ λs' q=>?_;exact wP1 (wP1 ⟨O,q⟩)
   ·cases r2 with
    |error e=>exact a
    |ok I=>
     cases I with
     |ret r=>
      obtain⟨rfl,q⟩:=a
      repeat(any_goals (first|wp_step|assumption))
     |_=>exact a.elim
  |_=>exact d.elim
theorem wF{l:dk}{its:Array di}{ns:List Int}{Q:di->dj->Prop}(G:A.handled=Y)(k:s.heap.IsTuple l its)(D:QN its.toList ns)(hb:its.size+1<RB)(q:∀h' tk,(∀c o,s.heap.get? c=Z o->h'.get? c=Z o)->h'.SetOf (Pn P w) s.heap.objs.size (λC=>(firstMet (λi=>ns.getD i 0) its.size).any (· == C)) (firstMet (λi=>ns.getD i 0) its.size).length->Q (.ref s.heap.objs.size) {s with heap:=h',toks:=tk}):dz (Pt P w) A (call (.type "set") [.ref l]) Q E s:=by
 have b:l<s.heap.objs.size:=by obtain⟨o,e,_⟩:=k;exact hL1 e
 refine zY k λB ao R H=>?_;have p:(s.heap.push (stO #[] 0 (.fresh 0 0 (!byT w)))).objs.size=s.heap.objs.size+1:=by rw[hZ1]
 have y:(s.heap.push (stO #[] 0 (.fresh 0 0 (!byT w)))).get? s.heap.objs.size=Z (stO #[] 0 (.fresh 0 0 (!byT w))):=hS1 _ O;have a:∀(i:Nat) (v:di),its[i]?=Z v -> ∃t,v = .int ((λi=>ns.getD i 0) i) t:=λi v x=>PyProof.Rows.IntsAre.int_at D i v (by rw[aT1];exact x);have g:s.heap.objs.size∉[s.heap.objs.size+1,l]:=by
  simp only[aF,cv,bI,Rm,not_or];exact⟨nN1 (bB _),nG1 b⟩
 have j:B.in1.handled=Y:=by simpa using ao.trans G
 refine PyProof.Rows.codeAny_set_update_loopS ((Walks.tuple j _ l (nN1 (cj b)) its).toS) s.heap.objs.size g (λi=>ns.getD i 0) a hb (its.size-0) 0 _ (by lia) (bi _) ⟨?_,?_⟩ ?_ λs' d h=>?_
 ·refine⟨{cls:=.type "tuple_iterator",data:=.fields #[.ref l,.int 0 0]},?_,O,O⟩;have this:((s.heap.push (stO #[] 0 (.fresh 0 0 (!byT w)))).push {cls:=.type "tuple_iterator",data:=.fields #[.ref l,.int 0 0]}).get? (s.heap.push (stO #[] 0 (.fresh 0 0 (!byT w)))).objs.size=Z {cls:=.type "tuple_iterator",data:=.fields #[.ref l,.int 0 0]}:=hS1 _ O;rw[p]at this;exact this
 ·obtain⟨o,e,r⟩:=k;exact⟨o,hP1 _ (hP1 _ e),r⟩
 ·exact PyProof.Rows.SetOf_congr ((PyProof.Rows.setObjOf_fresh (knd:=Pn P w) (!byT w)).setOf (hP1 _ y) (by unfold RB;lia)) (λ_=>rfl) O
 ·obtain⟨h',z,F,f,m⟩:=s';have n:z=s.gens:=d.gens;have u:F=s.drawn:=d.drawn;have I:m=s.os:=d.os;subst n;subst u;subst I;refine H _ (q h' f (λc o e=>d.heap c o ?_ (hP1 _ (hP1 _ e))) h);have:=hL1 e;simp only[aF,cv,bI,Rm,not_or];exact⟨nN1 this,nN1 (cj this)⟩
end
def iG:G1:=λd S=>match dZ S d with
 |some (_,xs)=>(jh xs).bind λns=>if ns.length+1<RB then Z (.ref S.length,S++[.iset (ddI ns)])else Y
 |_=>Y
theorem Dk{k:Nat}(hr:fR k X.A):eR X (.type "set") (rN X.K (b1 iG)):=by
 intro ag s σ H xs v Q I r h;have E:=h;obtain⟨x,mu,S,d,B,o,rfl,m,i,c,hc⟩:=Bo h;unfold iG at c;split at c
 ·rename_i b ys n;cases b with
  |true=>exact Mc hr ag s σ H _ v Q I r ⟨mu,S,[d],B,o,.cons m .nil,i,(by show s7 d S=_;unfold s7;rw[n];exact c),hc⟩
  |false=>
  obtain⟨ns,e,c⟩:=R3 c;split at c
  ·rename_i A;cases c;obtain⟨a,vs,rfl,q,t⟩:=dW m i n;cases r with
   |cons p rt=>
    cases rt;cases p;obtain⟨f,C,D,_⟩:=I.tuple q;obtain⟨hi,l⟩:=mK t C e;have g:f.toArray.size=ns.length:=by rw[sT1,hi.length]
    refine wF (its:=f.toArray) (ns:=ns) hr.hd D (by simpa using hi) (by rw[g];exact A) λh' tk w j=>?_;rw[g,vb]at j;have nd:(ddI ns).Nodup:=l6 ns [] bp;have y:=mj (ddI ns);rw[y]at j;refine⟨.ref s.heap.objs.size,upd H s.heap.objs.size (.set (λk=>(ddI ns).contains k) (ddI ns).length),I.laid (λb u z=>w b u z) (nR1 _) j,O,?_⟩;exact hc _ _ (mu++[s.heap.objs.size]) (Ext.new_ I.fresh) (.ref (hK i.len _)) (i.new I.fresh ⟨d9,nd⟩)
  ·cases c
 ·cases c
section
variable{a b:Expr}{rest:List Expr}{pos:Pos}{ta tb:TE}{f g:FE}
end
theorem KR.len{K:Fg1}{H:Hp}{mu:List dk}{ks:List (Key×D)}{ws:List (Key×V)}(h:KR K H mu ks ws):ws.length=ks.length:=by
 induction h with
 |nil=>rfl
 |cons _ _ ih=>rw[lC1,lC1,ih]
def pd:G1:=λd S=>match d with
 | .ref n=>match S[n]? with
  |some (.dct kvs)=>Z (.int kvs.length,S)
  |_=>eD d S
 |_=>eD d S
theorem Kg:eR X (.builtin "len") (rN X.K (b1 pd)):=by
 intro ag s σ H xs i Q I r h;obtain⟨x,mu,S,d,j,g,f,c,b,a,hc⟩:=Bo h;have p:=a;unfold pd at a;split at a
 ·rename_i n;split at a
  ·rename_i ys e;cases a;subst f;cases c with
   |ref l=>
    obtain⟨ws,k,o⟩:=b.dct e l;cases r with
    |cons m rt=>
     cases rt;cases m;refine L5 I (Rd.of k) λt s' q=>⟨.int ws.length,H,q,⟨_,O⟩,?_⟩;rw[o.len];exact hc.now (.int _) b
  ·exact eI ag s σ H xs i Q I r (by subst f;exact⟨mu,S,[_],j,g,.cons c .nil,b,(show b1 eD [_] S=_ from a),hc⟩)
 ·exact eI ag s σ H xs i Q I r (by subst f;exact⟨mu,S,[_],j,g,.cons c .nil,b,(show b1 eD [_] S=_ from a),hc⟩)
section
variable{P:dn}{w:dr}{A:dq}{E:di->dj->Prop}{b:Bool}
end
section
variable{prog:dn}{w:dr}{A:dq}{E:di->dj->Prop}{s:dj}
end
section
variable{ag:List (dk×Obj)}{σ:L2.St}{H:Hp}{s:dj}{mu:List dk}
end
theorem L6{K:Fg1}{x:Str}{f:dk}(h:wN1 K dv x=Z (Z (.ref f))):CV K (.fn x) (.ref f):=⟨.ref f,O,λ_ _=>.fn h⟩
section
variable{f:dk}{fd:dD}{ps:List Str}{k n:Nat}{sp:Sp}{dvs:List V}{ds:List di}{CX:Aj}{E:XK}{t:TA}{e:Expr}{es:List Expr}{p pos:Pos}{i:Nat}{v x:Str}
theorem BJ (hN:X.N[i]? = some v)(hv:Vis X.env.scope v)(F:j3 X.prog X.w X.K X.mg X.base CX k f fd ps sp)(hr:fR k X.A)(hm:X.mg x=some (.ref f))(hk:wK1 X.K (.ref f)=true)(hb:k8 X.K fd ps ds)(hd:ed dvs ds)(hx:tP CX X E)
  (ha:PA X (e::es) t) (hdb:autoParam ((v == ("__debug__":Str))=J) bu0) (hcd:autoParam ((v == ("__classdict__":Str))=J) bu0) (he:autoParam (dw (e::es) X.env=(J,eval e X.env)::dw es X.env) cu0) (hpl:autoParam ((Pu pos (dw es X.env)).any (·.1)=J) cu0):
  PE X (.Call (.Name v p) (e::es) [] pos) (fun σ H Q=>(∃a,σ[i]?=Z (Z (.ref a))/\wN1 X.K dv x=Z (Z (.ref a)))/\GW sp dvs E t σ H Q):=by
 rintro ag s σ H Q I ⟨⟨a,y,j⟩,h⟩;have g:=wM1 I.ok.mod.kin I.ok.mod.glob j;rw[hm]at g;cases g;obtain⟨m,o,w⟩:=I.loc;obtain⟨u,r,l⟩:=w i v _ hN y hv;cases r;have d:dz (Pt X.prog X.w) X.A (callWith pos (.ref f) [] (Pu pos (dw (e::es) X.env)) (QJ pos (QK [] X.env))) (EP X ag σ Q) X.xe s:=by
  refine PySem.W.callWith_K (h₀:=X.base) I.ok.mod.kin hk (fh (ha pos ag s σ H _ I h) λz A ⟨vs,H1,n,r,q⟩=>⟨n.kIn,?_⟩) he hpl;exact Bn F hr hb hd hx n r q
 refine Qh ?_;rcases l with⟨hk,hm⟩|⟨hk,c,hc,b⟩
 ·exact Pw (Px I.ok.kind hk o hm d) hdb
 ·rcases hk with hk|hk
  ·exact Pw (wpAny_loadName_cell I.ok.kind hk hc b d) hdb
  ·exact Pw (wpAny_loadName_free I.ok.kind hk hc b d hcd) hdb
def uF(i:Nat)(x:Str)(g:FN)(a:FA):FE:=λr S=>match r[i]? with
 |some (Z (.fn y))=>if y=x then mN g a r S else Y
 |_=>Y
theorem Cg {m:FN}{a:FA}{k':Nat}(i:Nat)(h:eT X.prog X.w X.K X.mg X.base k x n m)(hr:fR k' X.A)(hk:k<=k')(hN:X.N[i]? = some v)(hv:Vis X.env.scope v)(ha:MA X (e::es) a)(hdb:autoParam ((v == ("__debug__":Str))=false) bu0)(hcd:autoParam ((v == ("__classdict__":Str))=false) bu0)
  (he:autoParam (dw (e::es) X.env=(J,eval e X.env)::dw es X.env) cu0) (hpl:autoParam ((Pu pos (dw es X.env)).any (·.1)=J) cu0):ME X (.Call (.Name v p) (e::es) [] pos) (uF i x (dI n m) a):=by
 obtain⟨f,fd,ps,F,b,B,s⟩:=h;refine eM (BJ (E:=E0) hN hv F (hr.mono hk) s B b .nil G0 ha hdb hcd he hpl) fun σ H Q h=>?_;obtain⟨r,mu,S,d,j,he,u,c,hc⟩:=h;unfold uF at c;split at c
 ·rename_i y D;split at c
  ·rename_i G;subst G;obtain⟨P,C,A⟩:=he.val i _ D;cases A with
   |fn t=>
    refine⟨⟨_,C,t⟩,?_⟩;obtain⟨r,mu,S,ds,j,he,u,c,hc⟩:=xK (K:=X.K) (f:=dI n m) ⟨r,mu,S,d,j,he,u,c,hc⟩;refine⟨r,mu,S,ds,j,he,u,c,λvs H' mu' L N z=>?_⟩;have q:=hc vs H' mu' L N z;show A3 X.K n m (vs++[]) H' Q E0;rw[aN];obtain⟨l,w,o,I,ao,h1,h2,g,aq⟩:=q;unfold dI at g;split at g
    ·rename_i av;exact⟨by rw[<- h1.length];exact av,vm ⟨l,w,o,I,ao,h1,h2,g,aq⟩⟩
    ·cases g
  ·cases c
 ·cases c
theorem qk {m:FN}{a:FA}{k':Nat}(i:Nat)(h:eT X.prog X.w X.K X.mg X.base k x n m)(hr:fR k' X.A)(hk:k<=k')(hN:X.N[i]? = some v)(hv:Vis X.env.scope v)(ha:XA X (e::es) a)(hdb:autoParam ((v == ("__debug__":Str))=false) bu0)(hcd:autoParam ((v == ("__classdict__":Str))=false) bu0)
  (he:autoParam (dw (e::es) X.env=(J,eval e X.env)::dw es X.env) cu0) (hpl:autoParam ((Pu pos (dw es X.env)).any (·.1)=J) cu0):XE X (.Call (.Name v p) (e::es) [] pos) (uF i x (dI n m) a):=⟨Cg i h hr hk hN hv ha.h hdb hcd he hpl⟩
end
section
variable{prog:dn}{w:dr}{K:Type} [DecidableEq K] {knd:HeapKind prog w K}{A:dq}{E:di->dj->Prop}{s:dj}
theorem we{d:dk}(hd:(d == Pm)=false):
  MeetsIn prog w (Builtin.«dict.__len__» ⟨[.ref d],[]⟩) (λ_ R s=>∃xs,s.heap.DictOfH knd d xs/\R (.ok (.ret (.int xs.length s.toks))) {s with toks:=s.toks+1}):=
 .of_wp λA R s ⟨xs,b,h⟩=>by
  obtain⟨o,es,ep,c,hc,a,e,_⟩:=b;show dz _ _ (dictSize d >>= _) _ _ s;unfold dictSize;refine wB1 (wB1 (wpAny_dictEntries c a (wP1 ?_)));show dz _ _ (Builtin.Dict.pendingCount d >>= _) _ _ s;refine wB1 (wpAny_pendingCount_other hd ?_);refine wpAny_ret_mkInt ?_;rw[Nat.add_zero,size_of_entries e];exact h
theorem Ae{d:dk}{xs:List (K×dk×di)}{Q:di->dj->Prop}(hd:(d == Pm)=J)(hm:s.heap.DictOfH knd d xs)(a:(xs.length:Int)<2^63)(h:Q (.int xs.length (s.toks+1)) {s with toks:=s.toks+1+1}):dz (Pt prog w) A (call (.builtin "len") [.ref d]) Q E s:=by
 refine Calls.call_function_entry kind_len plain_len entry_len (args_len1 _) ?_;unfold Builtin.«len»;refine wB1 (m:=oneArg "len" _) (wP1 ?_);refine wB1 (m:=callSpecial? (.ref d) (Qz "__len__")) (Qy (name:=Qz "__len__") hm.typeIs F.slot_dict_len
  (call_meetsIn F.slot_dict_len hm.typeIs F.entry_dict_len (F.args_dict_len_1 _) (we (knd:=knd) hd) ⟨xs,hm,?_⟩))
 show dz _ _ _ _ _ {s with toks:=s.toks+1};refine wB1 (PM (wP1 ?_));refine wB1 (Rf ?_);show dz _ _ (if((xs.length:Nat):Int)<0 then _ else _) _ _ _;rw[aj (by omega)];show dz _ _ (if((xs.length:Nat):Int)>=2^63 then _ else _) _ _ _;rw[aj (by omega)];exact wB1 (wpAny_mkInt (wP1 ⟨_,O,h⟩))
end
def ri:G1:=λd S=>match d with
 | .ref n=>match S[n]? with
  |some (.dcT kvs)=>Z (.int kvs.length,S)
  |_=>pd d S
 |_=>pd d S
theorem Kf:eR X (.builtin "len") (rN X.K (b1 ri)):=by
 intro ag s σ H xs g Q I r h;obtain⟨x,mu,S,d,k,c,j,f,b,a,hc⟩:=Bo h;have back:pd d S=Z (k,c)->dz (Pt X.prog X.w) X.A (call (.builtin "len") g) (EP X ag σ Q) X.xe s:=λa=>Kg ag s σ H xs g Q I r (by subst j;exact⟨mu,S,[d],k,c,.cons f .nil,b,(show b1 pd [d] S=_ from a),hc⟩);unfold ri at a;split at a
 ·rename_i n;split at a
  ·rename_i ys e;cases a;subst j;cases f with
   |ref p=>
    obtain⟨ws,l,i,t⟩:=b.dcT e p;obtain⟨m,q⟩:=va I l i;cases r with
    |cons o rt=>
     cases rt;cases o;refine Ae m q (by rw[Qa]at t;lia) ?_;refine⟨.int ws.length,H,I.tok _,⟨_,O⟩,?_⟩;rw[<- i.length];exact hc.now (.int _) b
  ·exact back a
 ·exact back a
def kr:G2:=λd e S=>match e with
 | .ref n=>match S[n]? with
  |some (.dct [])=>match keyT d with
   |some _=>Z (.bl M,S)
   |none=>fW d e S
  |_=>fW d e S
 |_=>fW d e S
theorem BW(p:X.A.units+64<Qe):gE X (P7 .NotIn) (r2 X.K (b2 kr)):=by
 intro ag s σ H x y u w Q I m l h;obtain⟨mu,S,d,e,r,j,o,c,i,a,hc⟩:=pT h;have back:fW d e S=Z (r,j)->dz (Pt X.prog X.w) X.A (P7 .NotIn u w) (EP X ag σ Q) X.xe s:=λa=>oO p ag s σ H x y u w Q I m l ⟨mu,S,[d,e],r,j,.cons o (.cons c .nil),i,a,hc⟩;unfold kr at a;split at a
 ·rename_i n;split at a
  ·rename_i A;split at a
   ·rename_i k t;cases a;cases c with
    |ref v=>
     cases l;obtain⟨ws,B,D⟩:=i.dct A v;cases D;obtain⟨z,q,vs,g,C⟩:=u7 I.hok B;cases g;obtain⟨b,rfl,rfl,rk,E,hi⟩:=mJ I o m t;have f:s.heap.DictOfH (jd X.prog X.w) _ []:=u6 C;refine wpAny_notIn_heap (kb p) hi q f ?_;exact⟨.bl M,H,I.tok _,O,hc.now (.bl _) i⟩
   ·exact back a
  ·exact back a
 ·exact back a
theorem HV(m i:Nat):QS m i-i<=9:=by unfold QS;split<;>lia
theorem Bm(m i:Nat):i<=QS m i:=by unfold QS;split<;>lia
theorem K7{m i:Nat}(h:i<=m):QS m i<=m:=by unfold QS;split<;>lia
theorem xQ(m i b:Nat):(QT m i b).1<=m:=by
 unfold QT;have:=ck (i*5+1+b/32) (bK m);dsimp only;lia
theorem um(m:Nat):∀n i b:Nat,(gp m n i b).length<=10*n
 |0,_,_=>by simp[gp]
 |n+1,i,b=>by
  rw[gp,lA1,List.length_range'];have:=um m n (QT m i b).1 (QT m i b).2;have:=HV m i;lia
theorem xz(m:Nat):∀n i b:Nat,i<=m -> ∀x∈gp m n i b,x<=m
 |0,_,_,_,x,h=>by simp[gp]at h
 |n+1,i,b,hi,x,h=>by
  rw[gp,aG]at h;rcases h with h|h
  ·rw[List.mem_range'_1]at h;have:=K7 hi;have:=Bm m i
   lia
  ·exact xz m n _ _ (xQ m i b) x h
noncomputable def ED(m:Nat):Nat->Nat->Nat->Nat×Nat
 |0,i,b=>(i,b)
 |n+1,i,b=>ED m n (QT m i b).1 (QT m i b).2
theorem Co(m:Nat):∀n i b:Nat,(ED m n i b).2=b/32^n
 |0,i,b=>by simp[ED]
 |n+1,i,b=>by
  rw[ED,Co m n];show b/32/32^n=_;rw[Nat.div_div_eq_div_mul,Nat.pow_succ,Nat.mul_comm]
theorem Cp(m:Nat):∀n i b:Nat,i<=m->(ED m n i b).1<=m
 |0,i,b,h=>h
 |n+1,i,b,h=>by rw[ED];exact Cp m n _ _ (xQ m i b)
theorem qw(m:Nat):∀n k i b x:Nat,x∈gp m k (ED m n i b).1 (ED m n i b).2->x∈gp m (n+k) i b
 |0,k,i,b,x,h=>by rw[bL];exact h
 |n+1,k,i,b,x,h=>by
  rw[ED]at h;rw[show n+1+k=(n+k)+1 by lia,gp];exact mA1 _ (qw m n k _ _ x h)
noncomputable def xm(m:Nat):Nat->Nat->Nat
 |0,i=>i
 |n+1,i=>xm m n ((i*5+1)%(m+1))
noncomputable def Bl(m:Nat):Nat->Nat->List Nat
 |0,_=>[]
 |k+1,i=>i::Bl m k ((i*5+1)%(m+1))
theorem xV{m j:Nat}:∀{k i:Nat},j∈Bl m k i -> ∃n,n<k/\xm m n i=j
 |0,i,h=>by simp[Bl]at h
 |k+1,i,h=>by
  rw[Bl,aF]at h;rcases h with h|h
  ·exact⟨0,bK k,h.symm⟩
  ·obtain⟨n,a,e⟩:=xV h;exact⟨n+1,Nat.succ_lt_succ a,e⟩
theorem sV(m:Nat):∀a b i:Nat,xm m (a+b) i=xm m b (xm m a i)
 |0,b,i=>by rw[bL];rfl
 |a+1,b,i=>by rw[show a+1+b=(a+b)+1 by lia,xm,xm,sV m a b]
theorem sU(m:Nat):∀n k i:Nat,n<k->xm m n i∈gp m k i 0
 |0,k+1,i,_=>by rw[xm,gp];exact aH _ (List.mem_range'_1.mpr ⟨nR1 _,by lia⟩)
 |n+1,k+1,i,h=>by
  rw[xm,gp];refine mA1 _ ?_;have e:QT m i 0=((i*5+1)%(m+1),0):=rfl;rw[e];exact sU m n k _ (Nat.lt_of_succ_lt_succ h)
def K6(m:Nat):Bool:=((af (m+1)).all λj=>(Bl m (m+1) 0).contains j)&&xm m (m+1) 0 == 0
theorem y2.orb{m:Nat}(h:y2 m):K6 m=M:=by
 rcases h with rfl|rfl|rfl
 ·decide+kernel
 ·decide+kernel
 ·decide+kernel
theorem y2.full{m:Nat}(h:y2 m){i j:Nat}(hi:i<=m)(g:j<=m):j∈gp m (m+2) i 0:=by
 have f:=h.orb;unfold K6 at f;rw[bA1,bA,RO]at f;have c:∀x,x<=m -> ∃n,n<m+1/\xm m n 0=x:=λx k=>xV (by simpa using f.1 x (aC.mpr (Nat.lt_succ_of_le k)));obtain⟨a,l,d⟩:=c i hi;obtain⟨b,o,eb⟩:=c j g;rcases bS b a with z|z
 ·have e:xm m (b+(m+1)-a) i=j:=by
   rw[<- d,<- sV,show a+(b+(m+1)-a)=(m+1)+b by lia,sV,f.2,eb]
  rw[<- e];exact sU m _ _ i (by lia)
 ·have e:xm m (b-a) i=j:=by rw[<- d,<- sV,show a+(b-a)=b by lia,eb]
  rw[<- e];exact sU m _ _ i (by lia)
theorem GB(h:Int):QV h<2^64:=by
 unfold QV;have h1:=RQ h (show(2^64:Int)≠0 by decide);have h2:=RR h (show(0:Int)<2^64 by decide);have:((h%(2^64:Int)).toNat:Int)<2^64:=by rw[Int.toNat_of_nonneg h1];exact h2
 exact_mod_cast this
theorem w1{m:Nat}(hm:y2 m)(h:Int){j:Nat}(a:j<=m):j∈nz m h:=by
 unfold nz QU;rw[show m+15=13+(m+2) by lia];apply qw;rw[Co,Nat.div_eq_of_lt (bh (GB h) (by decide))];have hi:=Cp m 13 (QV h%(m+1)) (QV h) (by have:=ck (QV h) (bK m);lia);exact hm.full hi a
theorem wZ(m:Nat)(h:Int):(nz m h).length<=10*QU m:=um _ _ _ _
theorem AC{m:Nat}(h:Int):∀x∈nz m h,x<=m:=xz _ _ _ _ (by have:=ck (QV h) (bK m);lia)
noncomputable def Ng(m:Nat)(p:RG):RG:=SetTable.advance {SetTable.fresh 0 0 M with mask:=m} p
def jF(m:Nat):RG->List Nat->Prop
 |_,[]=>True
 |p,x::L=>p.j=x/\p.dummy=Y/\jF m (Ng m p) L
theorem oj(m i b:Nat)(L:List Nat)(h:jF m {j:=(QT m i b).1,more:=QS m (QT m i b).1-(QT m i b).1,i:=(QT m i b).1,perturb:=(QT m i b).2,dummy:=none} L):
  ∀more j:Nat,jF m {j,more,i,perturb:=b,dummy:=Y} (bn j (more+1)++L)
 |0,j=>by
  refine⟨O,O,?_⟩;exact h
 |more+1,j=>by
  rw[cy];refine⟨O,O,?_⟩;exact oj m i b L h more (j+1)
theorem oi(m:Nat):∀n i b:Nat,jF m {j:=i,more:=QS m i-i,i,perturb:=b,dummy:=Y} (gp m n i b)
 |0,_,_=>trivial
 |n+1,i,b=>by
  rw[gp];exact oj m i b _ (oi m n _ _) _ _
theorem yQ(t:QW)(h:Int):jF t.mask (t.probeStart h) (nz t.mask h):=oi _ _ _ _
theorem pC{xs:Array Nat}(hr:rS xs){j:Nat}(d:j∈xs.toList):xs[RE xs j]?=Z j:=by
 have b:=md hr j;obtain⟨k,a⟩:=bq d;rw[aT1]at a;have f:¬ k<RE xs j:=λz=>by have:=b.lo _ _ a z;lia
 have c:RE xs j<xs.size:=by have:=(Array.getElem?_eq_some_iff.mp a).1;lia
 have e:=aG1 c;have h1:=b.hi _ _ e (nR1 _);rcases bS (RE xs j) k with z|z
 ·have:=hr.lt z e a;lia
 ·have:k=RE xs j:=by lia
  rw[<- this];exact a
theorem r9{t:QW}(hr:rS t.place){j:Nat}(a:j∈t.place.toList):t.slot j = .live (RE t.place j):=by
 unfold SetTable.slot;dsimp only;rw[pC hr a];simp
theorem A7{t:QW}(hd:t.dummies = #[]){j:Nat}(a:j∉t.place.toList):t.slot j = .empty:=by
 unfold SetTable.slot;have:(t.place[RE t.place j]? == Z j)=J:=by
  rw[RT];intro z;rw[<- aT1]at z;exact a (gM1 z)
 dsimp only;rw[this,lP hd];simp
theorem x0{t:QW}{f:Nat->Int}{h:Int}(hr:rS t.place)(hd:t.dummies = #[]):∀ (L:List Nat) (p:RG) (n:Nat),jF t.mask p L->L.length<=n->(∃ x∈L,x∉t.place.toList) ->
  ∃b x a,L=b++x::a/\(∀y∈b,y∈t.place.toList/\f (RE t.place y)≠h) /\
   ((x∉t.place.toList/\RH t f h n p=Z (.empty x Y))\/(∃q,x∈t.place.toList/\f (RE t.place x)=h/\RH t f h n p=Z (.candidate x (RE t.place x) q)/\jF t.mask q a))
 |[],p,n,_,_,g=>by obtain⟨x,g,_⟩:=g;cases g
 |x::L,p,0,_,hl,_=>by simp at hl
 |x :: L,p,n+1,j,hl,g=>by
  obtain⟨rfl,o,j⟩:=j;rw[RH];by_cases c:p.j∈t.place.toList
  ·rw[r9 hr c];dsimp only;by_cases i:f (RE t.place p.j)=h
   ·refine⟨[],p.j,L,O,(λy d=>by cases d),.inr ⟨t.advance p,c,i,?_,j⟩⟩;rw[i];simp
   ·have m:(f (RE t.place p.j) == h)=false:=RT.mpr i;rw [m];obtain ⟨y,d,l⟩:=g;have k:∃ x∈L,x∉t.place.toList:=by
     rcases aF.mp d with e|e
     ·subst e;exact absurd c l
     ·exact⟨y,e,l⟩
    obtain⟨b,x,a,e,h1,h2⟩:=x0 hr hd L (t.advance p) n j (by simpa using hl) k;refine⟨p.j::b,x,a,by rw[e];rfl,λz r=>?_,?_⟩
    ·rcases aF.mp r with e|e
     ·subst e;exact⟨c,i⟩
     ·exact h1 z e
    ·simpa using h2
  ·rw[A7 hd c];refine⟨[],p.j,L,O,(λy d=>by cases d),.inl ⟨c,?_⟩⟩;rw[o]
theorem xP{α:Type}[DecidableEq α]:∀(l l':List α),l.Nodup->(∀x∈l,x∈l')->l.length<=l'.length
 |[],_,_,_=>bi _
 |x::l,l',hn,hs=>by
  obtain⟨h1,h2⟩:=aO.mp hn;have c:x∈l':=hs x (mS1);have:=xP l (l'.erase x) h2 λy b=>by
   have a:y≠x:=λz=>by subst z;exact h1 b
   exact(List.mem_erase_of_ne a).mpr (hs y (mC1 _ b))
  rw[List.length_erase_of_mem c]at this;have:=List.length_pos_of_mem c;rw[lC1];lia
theorem EF{m:Nat}(occ:List Nat)(b:occ.length<=m):∃j,j<=m/\j∉occ:=by
 apply Ru;intro z;have:=xP (af (m+1)) occ cA λx a=>Ru λq=>z ⟨x,by have:=aC.mp a;lia,q⟩;rw[cB]at this;lia
theorem yZ.more{m:Nat}{occ a:List Nat}{h:Int}{j:Nat}(r:yZ m occ h j)(k:∀x∈occ,x∈a):yZ m a h j:=by
 obtain⟨c,b,e,f⟩:=r;exact⟨c,b,e,λy d=>k y (f y d)⟩
theorem sTT.fits{es:Array (Int×di)}{t:QW}(h:sTT es t):t.fits es.size=M:=by
 unfold SetTable.fits SetTable.fill;rw[h.du,h.sz];have:=h.fl;simp;exact this
theorem D7{α β:Type}(a:Array α)(b:Array β)(p:Nat)(x:α)(y:β)(c:a.size=b.size):(RF a p x).toList.zip (RF b p y).toList=(a.toList.zip b.toList).take p++(x,y)::(a.toList.zip b.toList).drop p:=by
 rw[jO,jO,List.zip_append (by rw[aR,aR];simp[c]),bR];rw[show List.take p (a.toList.zip b.toList)=(a.toList.take p).zip (b.toList.take p) by simp only[List.zip_eq_zipWith,List.take_zipWith]];rw[show List.drop p (a.toList.zip b.toList)=(a.toList.drop p).zip (b.toList.drop p) by simp only[List.zip_eq_zipWith,List.drop_zipWith]]
theorem nU{α:Type}(a:Array α)(p:Nat)(x y:α):y∈(RF a p x).toList↔y=x\/y∈a.toList:=by
 rw[jO,aG,aF];have:=cm p a.toList;constructor
 ·rintro(h|h|h)
  ·exact .inr (cC h)
  ·exact .inl h
  ·exact .inr (List.mem_of_mem_drop h)
 ·rintro(h|h)
  ·exact .inr (.inl h)
  ·rw[<- this,aG]at h;rcases h with h|h
   ·exact .inl h
   ·exact .inr (.inr h)
theorem ij{α:Type}(a:Array α)(p:Nat)(x:α):(RF a p x).size=a.size+1:=by
 rw[<- aK,jO,lA1,lC1,<- bm,<- lA1,cm,aK]
theorem sTT.put{es:Array (Int×di)}{t:QW}(h:sTT es t){j:Nat}{e:Int×di}(g:j<=t.mask)(hn:j∉t.place.toList)(hr:yZ t.mask t.place.toList e.1 j)(hs:es.size+1<=t.mask):sTT (RF es (t.put j).2 e) (t.put j).1:=by
 have f:(t.put j).1.mask=t.mask:=rfl;have d:(t.put j).1.place=RF t.place (RE t.place j) j:=rfl;refine⟨h.mks,?_,?_,?_,?_,?_,?_⟩
 ·rw[d];exact xr h.up λz=>hn (by rw[<- aT1]at z;exact gM1 z)
 ·show(if SetTable.has t.dummies j=M then _ else t.dummies) = #[];rw[lP h.du,aj (by decide)];exact h.du
 ·rw[d,ij,ij,h.sz]
 ·intro x b;rw[d,nU]at b;rcases b with rfl|b
  ·exact g
  ·exact h.le x b
 ·rw[ij,f];exact hs
 ·rw[d,f];show∀z∈(RF t.place (RE t.place j) j).toList.zip (RF es (RE t.place j) e).toList,_;rw[D7 _ _ _ _ _ h.sz];have a:∀x∈t.place.toList,x∈(RF t.place (RE t.place j) j).toList:=λx b=>(nU _ _ _ _).mpr (.inr b);intro z c;rw[aG,aF]at c;rcases c with c|rfl|c
  ·exact(h.rc z (cC c)).more a
  ·exact hr.more a
  ·exact(h.rc z (List.mem_of_mem_drop c)).more a
theorem sTT.fresh(l:Bool):sTT #[] (SetTable.fresh 0 0 l):=⟨.inl O,.nil,O,O,(λj h=>by simp[SetTable.fresh]at h),bi _,λz h=>by simp[SetTable.fresh]at h⟩
theorem ye(m:Nat)(a:Array (Option Nat)):∀n i b:Nat,SetTable.layClean.free m a n i b=(gp m n i b).find? λj=>(a.getD j (Z 0)).isNone
 |0,i,b=>by rw[SetTable.layClean.free,gp];rfl
 |n+1,i,b=>by
  rw[SetTable.layClean.free,gp,List.find?_append,List.range'_eq_map_range,List.find?_map];rw[show QS m i+1-i=QS m i-i+1 by have:=Bm m i;lia];show(match List.find? (λk=>(a.getD (i+k) (Z 0)).isNone) (af (QS m i-i+1))with
   |some k=>Z (i+k)
   |none=>_)=(Option.map (λk=>i+k) (List.find? (λk=>(a.getD (i+k) (Z 0)).isNone) (af (QS m i-i+1)))).or _
  cases List.find? (λk=>(a.getD (i+k) (Z 0)).isNone) (af (QS m i-i+1))with
  |some k=>rfl
  |none=>exact ye m a n _ _
structure sLO (m:Nat)(hs:List Int)(ow:Array (Option Nat)):Prop where
 sz:ow.size=m+1
 ct:ow.toList.countP (·.isSome)=hs.length
 all:∀q:Nat,q<hs.length -> ∃j:Nat,ow[j]?=some (some q)
 rc:∀j q:Nat,ow[j]?=some (some q) -> ∃h,hs[q]?=some h /\ ∃pre post,nz m h=pre++j::post /\ ∀y∈pre,∃q':Nat,ow[y]?=some (some q')
theorem rv(k:Nat):∀(l:List (Option Nat)) (j:Nat),l[j]?=Z Y->(l.set j (Z k)).countP (·.isSome)=l.countP (·.isSome)+1
 |[],j,h=>by simp at h
 |x::l,0,h=>by
  have:x=Y:=by simpa using h
  subst this;simp
 |x::l,j+1,h=>by
  rw[cD,List.countP_cons,List.countP_cons,rv k l j (by simpa using h)];lia
theorem FJ{m:Nat}{hs:List Int}{b:Array (Option Nat)}(hm:y2 m)(h:sLO m hs b)(ao:hs.length<=m)(x:Int):
  ∃j,SetTable.layClean.free m b (QU m) (QV x%(m+1)) (QV x)=Z j/\sLO m (hs++[x]) (b.setIfInBounds j (Z hs.length)):=by
 rw[ye];show∃j,(nz m x).find? _=Z j/\_;have E:∃j:Nat,b[j]?=Z Y:=by
  apply Ru;intro z;have:b.toList.countP (·.isSome)=b.toList.length:=List.countP_eq_length.mpr λa D=>by
   obtain⟨j,A⟩:=bq D;cases a with
   |some q=>rfl
   |none=>exact absurd ⟨j,by rw[<- aT1];exact A⟩ z
  rw[h.ct,show b.toList.length=b.size from rfl,h.sz]at this;lia
 obtain⟨C,B⟩:=E;have p:C<=m:=by have:=(Array.getElem?_eq_some_iff.mp B).1;rw[h.sz]at this;lia
 cases hf:(nz m x).find? λj=>(b.getD j (Z 0)).isNone with
 |none=>
  exfalso;have:=List.find?_eq_none.mp hf C (w1 hm x p);rw[cE,B]at this;simp at this
 |some j=>
  obtain⟨r,s,k,e,F⟩:=List.find?_eq_some_iff_append.mp hf;have le:=AC (m:=m) x;have A:j<=m:=le j (by rw[e];simp);have d:j<b.size:=by rw[h.sz];lia
  have t:∀y,y<=m->(b.getD y (Z 0)).isNone=J -> ∃q,b[y]?=Z (Z q):=λy g i=>by
   have l:y<b.size:=by rw[h.sz];lia
   rw[cE,aG1 l]at i;rw[aG1 l];cases hc:b[y]with
   |none=>rw[hc]at i;cases i
   |some q=>exact⟨q,O⟩
  have w:b[j]?=Z Y:=by
   rw[cE,aG1 d]at r;rw[aG1 d];cases hc:b[j]with
   |none=>rfl
   |some q=>rw[hc]at r;cases r
  have keep:∀y q,b[y]?=Z (Z q)->(b.setIfInBounds j (Z hs.length))[y]?=Z (Z q):=λy q c=>by
   have:j≠y:=λz=>by subst z;rw[w]at c;cases c
   rw[Array.getElem?_setIfInBounds_ne this];exact c
  have new:(b.setIfInBounds j (Z hs.length))[j]?=Z (Z hs.length):=by
   rw[Array.getElem?_setIfInBounds_self_of_lt d]
  refine⟨j,O,?_,?_,?_,?_⟩
  ·rw[Array.size_setIfInBounds];exact h.sz
  ·rw[Array.toList_setIfInBounds,rv _ _ _ (by rw[aT1];exact w),h.ct];simp
  ·intro q i;rw[lA1,aY]at i;rcases bS q hs.length with z|z
   ·obtain⟨y,c⟩:=h.all q z;exact⟨y,keep y q c⟩
   ·have:q=hs.length:=by lia
    subst this;exact⟨j,new⟩
  ·intro y q c;by_cases g:j=y
   ·subst g;rw[new]at c;cases c;refine⟨x,by simp,s,k,e,λy g=>?_⟩;obtain⟨q,eq⟩:=t y (le y (by rw[e];simp[g])) (by have:=F y g;simpa using this);exact⟨q,keep y q eq⟩
   ·rw[Array.getElem?_setIfInBounds_ne g]at c;obtain⟨h',v,n,f,H,I⟩:=h.rc y q c;refine⟨h',?_,n,f,H,λz G=>?_⟩
    ·rw[gL1 (R1 v).1];exact v
    ·obtain⟨u,o⟩:=I z G;exact⟨u,keep z u o⟩
noncomputable def xn(m:Nat)(acc:Option (Array (Option Nat)×Nat))(h:Int):Option (Array (Option Nat)×Nat):=do
 let (owner,k)<-acc
 let j<-SetTable.layClean.free m owner (QU m) (QV h%(m+1)) (QV h)
 pure (owner.setIfInBounds j (Z k),k+1)
theorem xN{m:Nat}(hm:y2 m):∀(rest hs:List Int) (b:Array (Option Nat)),sLO m hs b->hs.length+rest.length<=m+1 -> ∃a,rest.foldl (xn m) (Z (b,hs.length))=Z (a,hs.length+rest.length)/\sLO m (hs++rest) a
 |[],hs,b,h,_=>⟨b,O,by rw[aN];exact h⟩
 |x::rest,hs,b,h,hl=>by
  rw[lC1]at hl;obtain⟨j,e,h'⟩:=FJ hm h (by lia) x;obtain⟨a,d,c⟩:=xN hm rest (hs++[x]) _ h' (by rw[lA1,aY];lia);refine⟨a,?_,by rw[bE]at c;exact c⟩;rw[b4];have:xn m (Z (b,hs.length)) x=Z (b.setIfInBounds j (Z hs.length),(hs++[x]).length):=by
   show(SetTable.layClean.free m b (QU m) (QV x%(m+1)) (QV x) >>= λj=>_)=_;rw[e,lA1,aY];rfl
  rw[this,d,lA1,aY,lC1]
  congr 2;lia
theorem JB{m:Nat}(hm:y2 m)(hs:Array Int)(d:hs.size<=m+1):∃ow,SetTable.layClean m hs=Z ow/\sLO m hs.toList ow:=by
 have c:sLO m [] (Array.replicate (m+1) Y):=by
  refine⟨Array.size_replicate,?_,(λq h=>absurd h (bw _)),λj q h=>?_⟩
  ·rw[Array.toList_replicate,bf,List.countP_eq_zero];intro a b;rw[(bC.mp b).2];simp
  ·exfalso;rw[Array.getElem?_replicate]at h;split at h<;>simp at h
 obtain⟨ow,e,h⟩:=xN hm hs.toList [] _ c (by simpa using d);refine⟨ow,?_,by simpa using h⟩;unfold SetTable.layClean;rw[<- Array.foldl_toList];show Option.map _ (List.foldl (xn m) (Z (Array.replicate (m+1) Y,0)) hs.toList)=_;have e:List.foldl (xn m) (Z (Array.replicate (m+1) Y,0)) hs.toList=_:=e;rw[e];rfl
theorem uV{α β:Type}(f:α->Option β)(g:α->β):∀l:List α,(∀a∈l,f a=Z (g a))->l.filterMap f=l.map g
 |[],_=>rfl
 |a::l,h=>by
  rw[aE,h a mS1];dsimp only;rw[mP1,uV f g l λb c=>h b (mC1 _ c)]
theorem wT{α β γ:Type}(f:α->β)(g:α->γ):∀l:List α,(l.map f).zip (l.map g)=l.map λa=>(f a,g a)
 |[]=>rfl
 |a::l=>by rw[mP1,mP1,bR,wT f g l];rfl
theorem li{α β:Type}{f g:α->Option β}:∀l:List α,(∀a∈l,f a=g a)->l.filterMap f=l.filterMap g
 |[],_=>rfl
 |a::l,h=>by rw[aE,aE,h a mS1,li l λb c=>h b (mC1 _ c)]
theorem uJ:∀(l:List (Option Nat)) (s:Nat),((bn s l.length).filterMap λj=>(l.getD (j-s) Y).map (j,·)).length=l.countP (·.isSome)
 |[],s=>rfl
 |x::l,s=>by
  rw[lC1,cy,aE,List.countP_cons];have ih:=uJ l (s+1);have e:(List.filterMap (λj=>Option.map (λx=>(j,x)) ((x::l).getD (j-s) Y)) (bn (s+1) l.length))=List.filterMap (λj=>(l.getD (j-(s+1)) Y).map (j,·)) (bn (s+1) l.length):=by
   refine li _ λj a=>?_;rw[List.mem_range'_1]at a;rw[show j-s=(j-(s+1))+1 by lia];rfl
  rw[e,cF];cases x with
  |none=>simpa using ih
  |some q=>simpa using ih
theorem FR{m fi mo:Nat}{l p:Bool}(hm:y2 m){es:Array (Int×di)}(H:es.size<=m):∃t b,SetTable.laid m fi mo l p (es.map (·.1))=Z (t,b)/\(b.filterMap (es[·]?)).size=es.size/\sTT (b.filterMap (es[·]?)) t/\(∀e,e∈(b.filterMap (es[·]?)).toList↔e∈es.toList)/\t.led=l/\t.mask=m:=by
 obtain⟨g,e,h⟩:=JB hm (es.map (·.1)) (by rw[Array.size_map];lia);have c:(es.map (·.1)).toList.length=es.size:=by simp
 generalize r:(af (m+1)).filterMap (λj=>(g.getD j Y).map (j,·))=a;refine⟨{mask:=m,place:=(a.map (·.1)).toArray,dummies:= #[],finger:=fi,led:=l,moves:=mo,plain:=p},(a.map (·.2)).toArray,?_,?_⟩
 ·unfold SetTable.laid;rw[e,<- r];rfl
 have mem:∀j q,(j,q)∈a↔g[j]?=Z (Z q):=λj q=>by
  rw[<- r,aM];constructor
  ·rintro⟨ao,o,e⟩;obtain⟨A,eq,e⟩:=R4 e;cases e;rw[aC]at o;have n:j<g.size:=by rw[h.sz];exact o
   rw[cE,aG1 n]at eq;rw[aG1 n];have:g[j]=Z q:=by simpa using eq
   rw[this]
  ·intro e;have n:=(Array.getElem?_eq_some_iff.mp e).1;refine⟨j,aC.mpr (by rw[h.sz]at n;exact n),?_⟩;rw[cE,e];rfl
 have lt:∀z∈a,z.2<es.size:=λz d=>by
  obtain⟨h',s,_⟩:=h.rc z.1 z.2 ((mem _ _).mp d);have:=(R1 s).1;rw[c]at this;exact this
 have C:a.length=es.size:=by
  have:=uJ g.toList 0;rw[show g.toList.length=g.size from rfl,h.sz,h.ct,c]at this;rw[<- this,<- r,List.range_eq_range']
  congr 1
  refine li _ λj _=>?_;simp[cE]
 have i:((a.map (·.2)).toArray.filterMap (es[·]?)).toList=a.map λz=>(es[z.2]?).getD (0,.none):=by
  rw[Array.toList_filterMap];rw[List.filterMap_map];exact uV _ _ _ λz d=>by
   show es[z.2]?=_;rw[aG1 (lt z d)];rfl
 have sz:((a.map (·.2)).toArray.filterMap (es[·]?)).size=es.size:=by rw[<- aK,i,lM1,C]
 refine⟨sz,⟨hm,?_,O,?_,?_,?_,?_⟩,λe=>?_,O,O⟩
 ·unfold rS;rw[<- r];exact List.pairwise_lt_range.sublist (by simpa using nV (λj=>g.getD j Y) (af (m+1)))
 ·rw[sz,sT1,lM1,C]
 ·intro j u;simp only[cf]at u;obtain⟨z,d,rfl⟩:=u;have:=(Array.getElem?_eq_some_iff.mp ((mem z.1 z.2).mp d)).1;rw[h.sz]at this;show _<=m;lia
 ·rw[sz];exact H
 ·rw [i];show ∀ z∈(a.map (·.1)).zip _,yZ m (a.map (·.1)) _ _;rw [wT];intro z d;obtain ⟨y,B,rfl⟩:=cf.mp d;obtain ⟨h',s,w,k,E,F⟩:=h.rc y.1 y.2 ((mem _ _).mp B);have:((es[y.2]?).getD (0,.none)).1=h':=by
   have f:=lt y B;rw[Array.toList_map,gP1,aT1,aG1 f]at s;rw[aG1 f];simpa using s
  rw[this];exact⟨w,k,E,λx I=>by obtain⟨A,G⟩:=F x I;exact cf.mpr ⟨(x,A),(mem _ _).mpr G,O⟩⟩
 ·rw[i,cf];constructor
  ·rintro⟨z,d,rfl⟩;rw[aG1 (lt z d)];simp
  ·intro D;obtain⟨q,v⟩:=bq D;rw[aT1]at v;have f:=(Array.getElem?_eq_some_iff.mp v).1;obtain⟨j,u⟩:=h.all q (by rw[c];exact f);exact⟨(j,q),(mem _ _).mpr u,by rw[v];rfl⟩
theorem JU{prog:dn}{w:dr}:∀(n:Nat) {k:TK} {A:dq} {E:di->dj->Prop} {s:dj} {v:di} {Q:Bool->dj->Prop},k.dep<=n->e6 s.heap k v->Q M s->dz (Pt prog w) A (hashByValue n v) Q E s:=by
 intro n
 induction n with
 |zero=>
  intro k A E s v Q c r h;cases r with
  |non=>exact wP1 h
  |int i t=>exact wP1 h
  |tup _ _ _ _=>simp[TK.dep]at c
 |succ n ih=>
  intro k A E s v Q c r h;cases r with
  |non=>exact wP1 h
  |int i t=>exact wP1 h
  | @tup a o b m xs f y q z=>
   have g:s.TypeIs (.ref a) "tuple":=⟨o,f,y⟩;rw[TK.dep]at c;unfold hashByValue;refine wB1 (Rs g F.slot_tuple_hash.lookup ?_);show dz _ _ (seqItems? (.ref a) >>= _) _ _ s;refine wB1 (Q6 f q ?_);refine wB1 ?_;show dz _ _ (forIn b _ _) _ _ s;rw[<- bV];refine Rp _ (λrest r s'=>r.1=Y/\s'=s /\ ∃ks,fm s.heap ks rest/\TK.depAll ks<=n) _ ?_ ?_ _ _ ⟨O,O,xs,z,by lia⟩
   ·rintro v rest r s' ⟨d,rfl,ks,u,j⟩;cases u with
    | @cons x _ e _ l p=>
     rw[TK.depAll]at j;refine wB1 (ih (k:=x) (by lia) l ?_);simp only[bY,bF1,Qt];exact wP1 ⟨O,O,e,p,by lia⟩
   ·rintro⟨B,r2⟩ s' ⟨d,rfl,_⟩;simp only at d;subst d;exact wP1 h
theorem De{prog:dn}{w:dr}:∀(n:Nat) {k:TK} {A:dq} {E:di->dj->Prop} {s:dj} {v:di} {Q:Bool->dj->Prop},k.dep<=n->e6 s.heap k v->Q J s->dz (Pt prog w) A (ofAClassStatement n v) Q E s:=by
 intro n
 induction n with
 |zero=>
  intro k A E s v Q c r h;cases r with
  |non=>exact wP1 h
  |int i t=>exact wP1 h
  |tup _ _ _ _=>simp[TK.dep]at c
 |succ n ih=>
  intro k A E s v Q c r h;cases r with
  |non=>exact wP1 h
  |int i t=>exact wP1 h
  | @tup a o b m xs f y q z=>
   have g:s.TypeIs (.ref a) "tuple":=⟨o,f,y⟩;rw[TK.dep]at c;unfold ofAClassStatement;refine wB1 (QC g ?_);show dz _ _ (pure M >>= _) _ _ s;refine wB1 (wP1 ?_);simp only[bY,bF1,Qt];refine wB1 (Q6 f q ?_);refine wB1 ?_;show dz _ _ (forIn b _ _) _ _ s;rw[<- bV];refine Rp _ (λrest r s'=>r.1=Y/\s'=s /\ ∃ks,fm s.heap ks rest/\TK.depAll ks<=n) _ ?_ ?_ _ _ ⟨O,O,xs,z,by lia⟩
   ·rintro v rest r s' ⟨d,rfl,ks,u,j⟩;cases u with
    | @cons x _ e _ l p=>
     rw[TK.depAll]at j;refine wB1 (ih (k:=x) (by lia) l ?_);simp only[bF1,Qt];exact wP1 ⟨O,O,e,p,by lia⟩
   ·rintro⟨B,r2⟩ s' ⟨d,rfl,_⟩;simp only at d;subst d;exact wP1 h
def EE(h:dB)(k:TK)(e:Int×di):Prop:=∃a,e=(k.hash,.ref a)/\e6 h k (.ref a)/\k.dep<=8
section
variable{prog:dn}{w:dr}{A:dq}{E:di->dj->Prop}{s:dj}
theorem EA{k:TK}{x:dk}{Q:Bool->dj->Prop}(hk:e6 s.heap k (.ref x))(hd:k.dep<=8)(l:List di)(he:∀v∈l,∃b a,v = .ref a/\e6 s.heap b (.ref a)/\b.dep<=8)(h:Q J s):dz (Pt prog w) A (searchCouldBeSeen (.ref x) l) Q E s:=by
 unfold searchCouldBeSeen;refine wB1 ?_;refine Rp _ (λrest r s'=>r.1=Y/\s'=s /\ ∀v∈rest,∃b a,v = .ref a/\e6 s.heap b (.ref a)/\b.dep<=8) _ ?_ ?_ _ _ ⟨O,O,he⟩
 ·rintro v rest r s' ⟨c,rfl,e⟩;obtain⟨b,a,rfl,h1,h2⟩:=e v mS1;have tl:∀v∈rest,∃b a,v=Pj a/\e6 s'.heap b (.ref a)/\b.dep<=8:=λv h=>e v (mC1 _ h);dsimp only;by_cases d:(x == a)=M
  ·rw[d];exact wP1 ⟨O,O,tl⟩
  ·rw[cG]at d;rw[d];show dz _ _ (eqIsQuiet 8 (.ref x) >>= _) _ _ _;refine wB1 (oD 8 hd hk ?_);refine wB1 (oD 8 h2 h1 ?_);refine wB1 (De 8 hd hk ?_);refine wB1 (De 8 h2 h1 ?_);exact wP1 ⟨O,O,tl⟩
 ·rintro⟨f,r2⟩ s' ⟨c,rfl,_⟩;simp only at c;subst c;exact wP1 h
theorem rj{α:Type}{occ:List α}{a c:α}(hc:c∉occ)(ha:a∈occ):∀{b d B D:List α},(∀y∈d,y∈occ)->d++a::B=b++c::D->a∈b
 |[],[],B,D,_,e=>by
  simp at e;obtain⟨rfl,_⟩:=e;exact absurd ha hc
 |[],z::d,B,D,h,e=>by
  simp at e;obtain⟨rfl,_⟩:=e;exact absurd (h z mS1) hc
 |z::b,[],B,D,_,e=>by
  simp at e;obtain⟨rfl,_⟩:=e;exact mS1
 |z::b,z'::d,B,D,h,e=>by
  simp at e;exact mC1 _ (rj hc ha (λy f=>h y (mC1 _ f)) e.2)
theorem Ds{xs:Array Nat}(hr:rS xs){i j:Nat}(h:xs[i]?=Z j):RE xs j=i:=by
 have e:=pC hr (gM1 (by rw[aT1];exact h));rcases b8 (RE xs j) i with z|z|z
 ·have:=hr.lt z e h;lia
 ·exact z
 ·have:=hr.lt z h e;lia
theorem IK{m:Nat}(h:y2 m):(m%2 == 0)=J:=by rcases h with rfl|rfl|rfl<;>rfl
theorem Nf(N:Bool){a:dk}{es:Array (Int×di)}{ep:Nat}{t:QW}{k:TK}{x:dk}(hu:A.units+8<Qe)(ho:s.heap.get? a=some (stO es ep t))(ht:sTT es t)(he:∀ e∈es.toList,∃ k',EE s.heap k' e)(hk:e6 s.heap k (.ref x))(hd:k.dep<=8){Q:SetFound->dj->Prop}(q1:(∃e∈es.toList,EE s.heap k e) -> ∀i,Q (.there (if N=true then none else some i)) s)(q2:∀j u m,nz t.mask k.hash=u++j::m->(∀y∈u,y∈t.place.toList)->j∉t.place.toList->(∀e∈es.toList,¬ EE s.heap k e)->Q (.free j false) s):
  ∀(n:Nat) (L c:List Nat) (b:Option RG),nz t.mask k.hash=c++L->jF t.mask (b.getD (t.probeStart k.hash)) L->L.length<n->(∀y∈c,y∈t.place.toList /\ ∀e,es[RE t.place y]?=Z e -> ¬ EE s.heap k e)->dz (Pt prog w) A (setSearchFrom a (.ref x) k.hash N n b) Q E s:=by
 have hf:=ht.fits;have U:t.place.toList.length<=t.mask:=by rw[aK,ht.sz];exact ht.fl
 intro n
 induction n with
 |zero=>intro L _ _ _ _ h;exact absurd h (bw _)
 |succ n ih=>
  intro L c b S hs hl V;have hx:∃y∈L,y∉t.place.toList:=by
   obtain⟨j,hj,P⟩:=EF t.place.toList U;have:=w1 ht.mks k.hash hj;rw[S,aG]at this;rcases this with z|z
   ·exact absurd (V j z).1 P
   ·exact⟨j,z,P⟩
  have hL:L.length<=10*QU t.mask:=by
   have:=wZ t.mask k.hash;rw[S,lA1]at this;lia
  obtain⟨u,y,m,e,h1,h2⟩:=x0 (f:=λi=>(es[i]?.map (·.1)).getD 0) (h:=k.hash) ht.up ht.du L _ _ hs hL hx;unfold setSearchFrom;refine wB1 (RI ho O hf ?_);dsimp only;rw[show t.gaveWay=J from IK ht.mks];simp only[bF1,Qt];rcases h2 with⟨P,hg⟩|⟨q,W,hh,hg,hq⟩
  ·generalize D:SetTable.probe t _ k.hash (b.getD (t.probeStart k.hash))=met;have D:=D.symm.trans hg;subst D;refine wP1 (q2 y (c++u) m (by rw[S,e,bE]) (λz R=>?_) P λe' he' d=>?_)
   ·rcases aG.mp R with p|p
    ·exact(V z p).1
    ·exact(h1 z p).1
   ·obtain⟨i,hi⟩:=bq he';have aq:es[i]?=Z e':=by rw[<- aT1];exact hi
    have G:=(Array.getElem?_eq_some_iff.mp aq).1;have hpi:i<t.place.size:=by rw[ht.sz];exact G
    have C:=aG1 hpi;have R:(t.place[i],e')∈t.place.toList.zip es.toList:=by
     refine gM1 (i:=i) ?_;rw[cH];exact⟨by rw[aT1];exact C,hi⟩
    obtain⟨av,T,_⟩:=id d;obtain⟨pre1,post1,H,f1⟩:=ht.rc _ R;dsimp only at H;rw[show e'.1=k.hash from by rw[T],S,e,<- bE]at H;have hm:=rj (occ:=t.place.toList) P (gM1 (by rw[aT1];exact C)) f1 H.symm;have X:=Ds ht.up C;rcases aG.mp hm with p|p
    ·exact(V _ p).2 e' (by rw[X];exact aq) d
    ·refine(h1 _ p).2 ?_;rw[X,aq,T];rfl
  ·generalize D:SetTable.probe t _ k.hash (b.getD (t.probeStart k.hash))=met;have D:=D.symm.trans hg;subst D;have X:=pC ht.up W;have G:RE t.place y<es.size:=by rw[<- ht.sz];exact(Array.getElem?_eq_some_iff.mp X).1
   have g:=aG1 G;generalize es[RE t.place y]=e0 at g;have F:e0∈es.toList:=gM1 (by rw [aT1];exact g);obtain ⟨k',av,rfl,d,I⟩:=he e0 F;dsimp only;have B:dz (Pt prog w) A (do
     let equal<-PJ [Pj av] (eqBool (Pj av) (.ref x))
     let (es',_,t')<-setState a
     if(N&&equal)=M then return SetFound.there Y
     let Z same:=t'.sameMemory t.moves t.mask|unsupported "set.changed-during-lookup:is-the-new-block-at-the-old-address"
     let still<-match (if same=M then t'.slot y else .empty)with
      | .live au=>match es'[au]? with
       |some (_,y')=>do pure (if(<- isSame y' (.ref av))=M then Z au else Y)
       |none=>pure Y
      |_=>pure Y
     match still with
     |none=>do rule "set.search.anew";setSearchFrom a (.ref x) k.hash N n Y
     |some au=>if equal=M then return .there (Z au)else setSearchFrom a (.ref x) k.hash N n (Z q)) Q E s:=by
    refine wB1 (PM (Hg 8 I hu d hk _ _ _ _ ?_));refine wB1 (RI ho O hf ?_);dsimp only;by_cases K:k'=k
    ·subst K;rw[ah O];cases N with
     |true=>exact wP1 (q1 ⟨_,F,av,O,d,I⟩ 0)
     |false=>
      simp only[Bool.false_and,bF1,Qt];rw[show t.sameMemory t.moves t.mask=Z M from by unfold SetTable.sameMemory;simp];dsimp only;rw[ak O,r9 ht.up W];dsimp only;rw[g];dsimp only;refine wB1 ?_;refine Q3 (a:=M) (by unfold isSame;simp) ?_;rw[ak O];refine wB1 (wP1 ?_);exact wP1 (q1 ⟨_,F,av,O,d,I⟩ _)
    ·rw[ai K];simp only[Bool.and_false,bF1,Qt];rw[show t.sameMemory t.moves t.mask=Z M from by unfold SetTable.sameMemory;simp];dsimp only;rw[ak O,r9 ht.up W];dsimp only;rw[g];dsimp only;refine wB1 ?_;refine Q3 (a:=M) (by unfold isSame;simp) ?_;rw[ak O];refine wB1 (wP1 ?_);dsimp only;refine ih m (c++u++[y]) (Z q) ?_ hq ?_ λz R=>?_
     ·rw[S,e];simp
     ·rw[e]at hl;simp at hl;lia
     ·rcases aG.mp R with p|p
      ·rcases aG.mp p with wq|wq
       ·exact V z wq
       ·refine⟨(h1 z wq).1,λH l ao=>(h1 z wq).2 ?_⟩;obtain⟨a1,rfl,_⟩:=ao;rw[l];rfl
      ·have:z=y:=by simpa using p
       subst this;refine⟨W,λH l ao=>K ?_⟩;rw[g]at l;obtain⟨a1,r,hi1,_⟩:=ao;cases l;injection r with _ r;injection r with r;subst r;exact d.inj hi1
   by_cases o:t.led=M
   ·rw[o];simp only[bY,bF1,Qt];rw[g];exact B
   ·rw[cG]at o;rw[o];simp only[cI,Qv];refine wB1 (EA hk hd _ (λv hv=>?_) ?_)
    ·obtain⟨H,l,rfl⟩:=cf.mp hv;rw[Array.toList_filter]at l;obtain⟨k1,a1,rfl,g1,g2⟩:=he H ((aB.mp l).1);exact⟨k1,a1,O,g1,g2⟩
    ·simp only[bF1,Qt];rw[g];exact B
end
theorem e6.keepsS{h h':dB}{p:dk}{es:Array (Int×di)}{ep:Nat}{t:QW}(ho:h.get? p=some (stO es ep t))(hs:∀ a o,a≠p->h.get? a=some o->h'.get? a=some o):∀ {k:TK} {v:di},e6 h k v->e6 h' k v:=fun f=>f.rec (motive_1:=fun k v _=>e6 h' k v) (motive_2:=fun k v _=>fm h' k v) .non .int
  (λ{a} _ _ _ _ d e c _ ih=>.tup (hs a _ (λz=>by subst z;rw[d]at ho;cases ho;cases c) d) e c ih) .nil (λ_ _ a b=>.cons a b)
theorem e6.grows{h h':dB}(hs:∀ a o,h.get? a=some o->h'.get? a=some o):∀ {k:TK} {v:di},e6 h k v->e6 h' k v:=fun d=>d.rec (motive_1:=fun k v _=>e6 h' k v) (motive_2:=fun k v _=>fm h' k v) .non .int
  (λ{a} _ _ _ _ f c e _ ih=>.tup (hs a _ f) c e ih) .nil (λ_ _ a b=>.cons a b)
noncomputable def kE(ks:List TK)(k:TK):List TK:=if k∈ks then ks else ks++[k]
def ddK(ks:List TK):List TK:=ks.foldl kE []
theorem C9(ks:List TK)(k:TK):(kE ks k).length<=ks.length+1:=by unfold kE;split<;>simp
theorem mR:∀(ns acc:List TK),(ns.foldl kE acc).length<=acc.length+ns.length
 |[],acc=>by simp
 |n::ns,acc=>by
  rw[b4];have h1:=mR ns (kE acc n);have h2:=C9 acc n;rw[lC1];lia
theorem EE.keep{h h':dB}{p:dk}{es:Array (Int×di)}{ep:Nat}{t:QW}(ho:h.get? p=Z (stO es ep t))(hs:∀a o,a≠p->h.get? a=Z o->h'.get? a=Z o){k:TK}{e:Int×di}(x:EE h k e):EE h' k e:=by
 obtain⟨a,d,c,b⟩:=x;exact⟨a,d,c.keepsS ho hs,b⟩
theorem tj{es:Array (Int×di)}{t:QW}(h:sTT es t):t.tooFull=decide (es.size*5>=t.mask*3):=by
 unfold SetTable.tooFull SetTable.fill;rw[h.du,h.sz];rfl
def wP(h:dB)(xs:List (TK×dk×di)):Prop:=∀z∈xs,e6 h z.1 (.ref z.2.1)/\z.1.dep<=8
theorem wP.el{h:dB}{xs:List (TK×dk×di)}{es:Array (Int×di)}(b:wP h xs)(a:∀e∈es.toList,∃z∈xs,e=(z.1.hash,.ref z.2.1)):∀e∈es.toList,∃f,EE h f e:=λe d=>by
 obtain⟨z,c,rfl⟩:=a e d;exact⟨z.1,z.2.1,O,(b z c).1,(b z c).2⟩
theorem wP.found{h:dB}{xs:List (TK×dk×di)}{es:Array (Int×di)}{k:TK}(d:wP h xs)(g:∀e∈es.toList,∃z∈xs,e=(z.1.hash,.ref z.2.1))(f:∀z∈xs,(z.1.hash,Pj z.2.1)∈es.toList):(∃e∈es.toList,EE h k e)↔k∈xs.map (·.1):=by
 constructor
 ·rintro⟨e,j,a,l,i,_⟩;obtain⟨z,b,c⟩:=g e j;rw[l]at c;injection c with _ c;injection c with c;refine cf.mpr ⟨z,b,?_⟩;have:=(d z b).1;rw[<- c]at this;exact this.inj i
 ·intro i;obtain⟨z,b,rfl⟩:=cf.mp i;exact⟨_,f z b,z.2.1,O,(d z b).1,(d z b).2⟩
section
variable{P:dn}{w:dr}{A:dq}{E:di->dj->Prop}{s:dj}{p:dk}{xs:List (TK×dk×di)}
theorem AH{m:Nat}(h:y2 m):QU m<=142:=by unfold QU;rcases h with z|z|z<;>rw[z]<;>decide
noncomputable def ml(xs:List (TK×dk×di))(k:TK)(x:dk):List (TK×dk×di):=if k∈xs.map (·.1)then xs else xs++[(k,x,.none)]
theorem NP{k:TK}{x:dk}{Q:Bool->dj->Prop}(hu:A.units+8<Qe)(hS:vx p xs s.heap)(au:wP s.heap xs)(hb:xs.length<76)(hk:e6 s.heap k (.ref x))(hd:k.dep<=8)(q:∀c h',Ps p s.heap h'->vx p (ml xs k x) h'->Q c {s with heap:=h'}):dz (Pt P w) A (setAddHashed p (.ref x) k.hash) Q E s:=by
 obtain⟨nd,es,ep,t,H,C,ao,g,F,S⟩:=id hS;have hf:=C.fits;unfold setAddHashed setAddHashedIn;refine PM (wB1 (RI H O hf ?_));dsimp only;rw[show byScan (Pj x) es=J from rfl];simp only[bF1,Qt];unfold setSearch;refine wB1 (Nf M hu H C (au.el g) hk hd ?q1 ?q2 100000 (nz t.mask k.hash) [] Y O (yQ t k.hash) ?ln (λy hy=>by cases hy))
 case q1=>
  intro h _;have av:=(au.found g F).mp h;have B:ml xs k x=xs:=by unfold ml;rw[ak av]
  rw[B]at q;exact wP1 (q _ s.heap (Heap.SameBut.refl p s.heap) hS)
 case q2=>
  intro j V I ew hp hj W;dsimp only;have hn:k∉xs.map (·.1):=λz=>by obtain⟨e,n,h⟩:=(au.found g F).mpr z;exact W e n h
  have B:ml xs k x=xs++[(k,x,.none)]:=by unfold ml;rw[aj hn]
  rw[B]at q;refine wB1 (RI H O hf ?_);dsimp only;have wq:j<=t.mask:=AC k.hash j (by rw[ew];simp);rw[tj C]at ao;have ao:¬ es.size*5>=t.mask*3:=by simpa using ao
  have D:es.size+1<=t.mask:=by rcases C.mks with z|z|z<;>rw[z]at ao ⊢ <;> lia
  have G:sTT (RF es (t.put j).2 (k.hash,.ref x)) (t.put j).1:=C.put wq hj ⟨V,I,ew,hp⟩ D;have R:(RF es (t.put j).2 (k.hash,Pj x)).size=(xs++[(k,x,Ph)]).length:=by rw[ij,S,lA1];rfl
  have o:(RF es (t.put j).2 (k.hash,Pj x)).size<=dy:=by rw[R,lA1,Qa];simp;lia
  have sb:=Q7 s.heap p (Obj.putSet (RF es (t.put j).2 (k.hash,.ref x)) (t.put j).1);have aq:=sx (fs:=RF es (t.put j).2 (k.hash,.ref x)) (u:=(t.put j).1) H;have L:((xs++[(k,x,Ph)]).map (·.1)).Nodup:=by
   rw[cc,bx];exact⟨nd,by simp,λa ha b hb e=>by simp at hb;subst hb;subst e;exact hn ha⟩
  have e1:∀e∈(RF es (t.put j).2 (k.hash,Pj x)).toList,∃z∈xs++[(k,x,Ph)],e=(z.1.hash,.ref z.2.1):=λe n=>by
   rw[nU]at n;rcases n with rfl|n
   ·exact⟨_,mA1 _ mS1,O⟩
   ·obtain⟨z,h1,h2⟩:=g e n;exact⟨z,aH _ h1,h2⟩
  have a1:∀z∈xs++[(k,x,Ph)],(z.1.hash,Pj z.2.1)∈(RF es (t.put j).2 (k.hash,Pj x)).toList:=λz T=>by
   rw[nU];rcases aG.mp T with X|X
   ·exact .inr (F z X)
   ·rw[cv.mp X];exact .inl O
  have tail:dz (Pt P w) A (do
    storeSet p (RF es (t.put j).2 (k.hash,.ref x)) (t.put j).1
    if (!false&&(t.put j).1.tooFull)=true then do
      setRelay p (RJ (es.size+1))
      pure M
     else pure M) Q E s:=by
   refine wB1 (RK H O ?_ o);by_cases f:(t.put j).1.tooFull=M
   ·rw [f];simp only [cI,bJ,Qv];refine wB1 ?_;unfold setRelay;refine wB1 (RI (s:={s with heap:=s.heap.update p _}) aq rfl G.fits ?_);dsimp only;have N:=f;rw [tj G,ij] at N;have N:(es.size+1)*5>=t.mask*3:=QX N;have e4:∃ m,y2 m/\SetTable.sizeAbove (RJ (es.size+1))=m+1/\es.size+1<=m/\(es.size+1)*5<m*3:=by
     rcases C.mks with z|z|z<;>rw[z]at ao N
     ·have:es.size=4:=by lia
      rw[this];exact⟨31,.inr (.inl O),O,by decide,by decide⟩
     ·have:es.size=18:=by lia
      rw[this];exact⟨127,.inr (.inr O),O,by decide,by decide⟩
     ·lia
    obtain⟨m,hm,em,U,hm2⟩:=e4;rw[aj (by rw[em,Qa];rcases hm with z|z|z<;>rw[z]<;>decide)];obtain⟨t2,d,er,i,K,r,_,mk2⟩:=FR (m:=m) (fi:=(t.put j).1.finger) (mo:=(t.put j).1.movedTo m) (l:=(t.put j).1.led) (p:=(t.put j).1.plain) hm (es:=RF es (t.put j).2 (k.hash,.ref x)) (by rw[ij];exact U);refine wB1 ?_;rw[show(t.put j).1.relaid ((RF es (t.put j).2 (k.hash,Pj x)).map (·.1)) (RJ (es.size+1))=Z (t2,d)from by unfold SetTable.relaid;rw[em,Nat.add_sub_cancel];exact er];have z2:(d.filterMap ((RF es (t.put j).2 (k.hash,Pj x))[·]?)).size=(xs++[(k,x,Ph)]).length:=i.trans R;show dz _ _ (if((d.filterMap ((RF es (t.put j).2 (k.hash,Pj x))[·]?)).size != (RF es (t.put j).2 (k.hash,Pj x)).size)=M then _ else _) _ _ _;rw[i];simp only[bne_self_eq_false,bF1,Qt];refine wP1 ?_;dsimp only;refine RK aq O ?_ (by rw[i];exact o);refine wP1 (q _ _ (sb.trans (Q7 _ p _)) ⟨L,_,_,_,sx aq,K,?_,λe n=>e1 e ((r e).mp n),λz T=>(r _).mpr (a1 z T),z2⟩);rw[tj K,mk2,i,ij];exact ai (by lia)
   ·rw[cG]at f;rw[f];simp only[Bool.and_false,bF1,Qt];exact wP1 (q _ _ sb ⟨L,_,_,_,aq,G,f,e1,a1,R⟩)
  by_cases v:(t.put j).1.plain=M
  ·rw[v];simp only[Qv];refine wB1 (JU 8 hd hk ?_);exact tail
  ·rw[cG]at v;rw[v];simp only[bF1,Qt];refine wB1 (wP1 ?_);exact tail
 case ln=>
  have:=wZ t.mask k.hash;have:=AH C.mks;lia
end
def vw(p:dk)(n:Nat)(h:dB):Prop:=∃es ep t,h.get? p=Z (stO es ep t)/\t.fits es.size=M/\es.size=n/\n<=76
theorem fm.mem{h:dB}:∀{ks:List TK} {vs:List di},fm h ks vs -> ∀(i:Nat) (v:di),vs[i]?=Z v -> ∃k,ks[i]?=Z k/\e6 h k v
 |_,_,.nil,i,v,e=>by simp at e
 |_,_,.cons r t,0,v,e=>by simp at e;subst e;exact⟨_,O,r⟩
 |_,_,.cons r t,i+1,v,e=>fm.mem t i v (by simpa using e)
def vN(k:TK):Bool:=match k with
 | .tup _=>decide (k.dep<=8)
 |_=>J
theorem AM{h:dB}{k:TK}{v:di}(hk:vN k=M)(h1:e6 h k v):k.dep<=8 /\ ∃a,v = .ref a:=by
 cases h1 with
 |non=>cases hk
 |int=>cases hk
 | @tup a=>exact⟨by simpa[vN]using hk,a,O⟩
section
variable{P:dn}{w:dr}{A:dq}{E:di->dj->Prop}
theorem yX{p l it:dk}{its:Array di}{ns:List TK}{R:Qf->dj->Prop}(hh:A.handled=none)(hu:A.units+20<Qe)(hT:∀ k∈ns,vN k=true)(hb:ns.length<=76)(n1:p≠l)(L:p≠it)(n3:it≠l):
  ∀(k i:Nat) (s:dj) (xs:List (TK×dk×di)),its.size-i=k->i<=its.size->s.heap.IsListIter it l i->s.heap.IsList l its->fm s.heap ns its.toList->vx p xs s.heap->wP s.heap xs->xs.map (·.1)=(ns.take i).foldl kE [] ->
  (∀h' tk,(∀c o,c≠p->c≠it->s.heap.get? c=Z o->h'.get? c=Z o)->vw p (ddK ns).length h'->R (.ok (.ret .none)) {s with heap:=h',toks:=tk})->dA (Pt P w) A (.builtin "set.update.loop" ⟨[.ref p,.ref it],[]⟩) R s:=by
 intro k
 induction k with
 |zero=>
  intro i s xs hk hi st T I Q au m q;have e:i=its.size:=by lia
  subst e;refine wD1 RM (?_:_);rw[Rr RN _];show dz _ A.in1 (PY (.ref it) >>= _) _ _ s;refine wB1 (P3 (by simpa using hh) st T (by simp) λh' eb=>wP1 ?_);refine q h' s.toks (λc o _ hc e=>eb c o hc e) ?_;have D:its.size=ns.length:=by rw[<- aK];exact I.split.symm
  obtain⟨_,es,ep,t,F,tt,_,_,_,y⟩:=Q;rw[D,bU]at m;have W:xs.length=(ddK ns).length:=by have:=congrArg List.length m;rw[lM1]at this;exact this
  refine⟨es,ep,t,eb p _ L F,tt.fits,y.trans W,?_⟩;have:=mR ns [];unfold ddK;simp at this;lia
 |succ k ih=>
  intro i s xs hk hi st T I Q au m q;have H:i<its.size:=by lia
  have hx:=aG1 H;obtain⟨B,ek,u⟩:=I.mem i _ (by rw[aT1];exact hx);have hkm:B∈ns:=gM1 ek;obtain⟨hd,av,ex⟩:=AM (hT B hkm) u;refine wD1 RM (?_:_);rw[Rr RN _];show dz _ A.in1 (PY (.ref it) >>= _) _ _ s;refine wB1 (P2 st T hx λh' st' aq=>?_);rw[ex]at u ⊢;have d:∀{k:TK} {v:di},e6 s.heap k v->e6 h' k v:=λS=>by
   refine S.rec (motive_1:=λk v _=>e6 h' k v) (motive_2:=λk v _=>fm h' k v) .non .int (λ{a} _ _ _ _ e1 c1 d1 _ ih=>.tup ((aq.2 a λz=>?_).trans e1) c1 d1 ih) .nil (λ_ _ a b=>.cons a b);subst z;obtain⟨o,e2,c2,_⟩:=st;rw[e1]at e2;cases e2;rw[c1]at c2;exact absurd c2 (by decide)
  show dz _ A.in1 (PJ [Pj av] (setAdd p (.ref av)) >>= _) _ _ _;refine wB1 (PM ?_);unfold setAdd;have G:A.in1.units=A.units+1:=rfl;refine PM (wB1 (s0 B (by rw[G];lia) (d u) ?_));obtain⟨es,ep,t,C⟩:∃es ep t,h'.get? p=some (stO es ep t):=by
   obtain⟨_,es,ep,t,F,_⟩:=Q;exact⟨es,ep,t,by rw[aq.2 p L];exact F⟩
  have U:vx p xs h':=by
   obtain⟨nd,es,ep,t,F,rr⟩:=Q;exact⟨nd,es,ep,t,by rw[aq.2 p L];exact F,rr⟩
  have n:wP h' xs:=λz y=>⟨d (au z y).1,(au z y).2⟩;have hfl:=mR (ns.take i) [];have hxl:xs.length=((ns.take i).foldl kE []).length:=by have:=congrArg List.length m;rw[lM1]at this;exact this
  refine NP (s:={s with heap:=h',toks:=s.toks+B.draws}) (by rw[G];lia) U n (by
   have D:its.size=ns.length:=by rw[<- aK];exact I.split.symm
   rw[hxl];rw[aR,bf]at hfl;lia) (d u) hd λc h2 j X=>?_
  have ef:kE ((ns.take i).foldl kE []) B=(ns.take (i+1)).foldl kE []:=by
   rw[cg,ek,ci];rfl
  have ao:(ml xs B av).map (·.1)=(ns.take (i+1)).foldl kE []:=by
   rw[<- ef,<- m];unfold ml kE;by_cases K:B∈xs.map (·.1)
   ·rw[ak K,ak K]
   ·rw[aj K,aj K,cc];rfl
  have kk:∀c o,c≠p->c≠it->s.heap.get? c=Z o->h2.get? c=Z o:=λc o h1 V e=>by rw[j.2 c h1];show h'.get? c=_;rw[aq.2 c V];exact e
  have keepIt:∀o,h'.get? it=Z o->h2.get? it=Z o:=λo e=>by rw[j.2 it (Pr L)];exact e
  have wq:∀{h E:dB} {a:List TK} {b:List di},(∀{k v},e6 h k v->e6 E k v)->fm h a b->fm E a b:=λ{h E a b} f S=>by
   induction a generalizing b with
   |nil=>cases S;exact .nil
   |cons k a ih=>cases S with|cons r t=>exact .cons (f r) (ih t)
  refine wP1 ⟨Rq RN _,ih (i+1) {s with heap:=h2,toks:=s.toks+B.draws} (ml xs B av) (by lia) H (st'.at keepIt) ?_ ?_ X ?_ ao λV tk k3 x3=>?_⟩
  ·obtain⟨o,e,r⟩:=T;exact⟨o,kk l o (Pr n1) (Pr n3) e,r⟩
  ·exact wq (λx=>(d x).keepsS C λa o g e=>by rw[j.2 a g];exact e) I
  ·intro z y;unfold ml at y;split at y
   ·exact⟨(n z y).1.keepsS C λa o g e=>by rw[j.2 a g];exact e,(n z y).2⟩
   ·rcases aG.mp y with N|N
    ·exact⟨(n z N).1.keepsS C λa o g e=>by rw[j.2 a g];exact e,(n z N).2⟩
    ·rw[cv.mp N];exact⟨(d u).keepsS C λa o g e=>by rw[j.2 a g];exact e,hd⟩
  ·exact q V tk (λc o h1 h4 e=>k3 c o h1 h4 (kk c o h1 h4 e)) x3
theorem z0{s:dj}{l:dk}{its:Array di}{ns:List TK}{Q:di->dj->Prop}(C:A.handled=Y)(ao:A.units+24<Qe)(j:s.heap.IsList l its)(n:fm s.heap ns its.toList)(p:∀ k∈ns,vN k=M)(hb:ns.length<=76)(q:∀h' tk,(∀c o,s.heap.get? c=Z o->h'.get? c=Z o)->vw s.heap.objs.size (ddK ns).length h'->Q (.ref s.heap.objs.size) {s with heap:=h',toks:=tk}):dz (Pt P w) A (call (.type "set") [.ref l]) Q E s:=by
 have g:l<s.heap.objs.size:=by obtain⟨o,e,_⟩:=j;exact hL1 e
 refine pA j λK y u R G=>?_;have I:(s.heap.push (stO #[] 0 (.fresh 0 0 (!byT w)))).objs.size=s.heap.objs.size+1:=by rw[hZ1]
 have F:(s.heap.push (stO #[] 0 (.fresh 0 0 (!byT w)))).get? s.heap.objs.size=Z (stO #[] 0 (.fresh 0 0 (!byT w))):=hS1 _ O;have i:∀{h d:dB} {a:List TK} {b:List di},(∀{k v},e6 h k v->e6 d k v)->fm h a b->fm d a b:=λ{h d a b} f m=>by
  induction a generalizing b with
  |nil=>cases m;exact .nil
  |cons k a ih=>cases m with|cons r t=>exact .cons (f r) (ih t)
 refine yX (its:=its) (ns:=ns) (y.trans C) (by lia) p hb (nG1 g) (nN1 (bB _)) (nG1 (cj g)) _ 0 _ [] rfl (bi _) ?_ ?_ ?_ ?_ (λz H=>by cases H) O λh' tk k x=>G _ (q h' tk (λc o e=>k c o (nN1 (hL1 e)) (nN1 (cj (hL1 e))) (hP1 _ (hP1 _ e))) x)
 ·refine⟨{cls:=.type "list_iterator",data:=.fields #[.ref l,.int 0 0]},?_,O,O⟩;have this:((s.heap.push (stO #[] 0 (.fresh 0 0 (!byT w)))).push {cls:=.type "list_iterator",data:=.fields #[.ref l,.int 0 0]}).get? (s.heap.push (stO #[] 0 (.fresh 0 0 (!byT w)))).objs.size=Z {cls:=.type "list_iterator",data:=.fields #[.ref l,.int 0 0]}:=hS1 _ O;rw[I]at this;exact this
 ·obtain⟨o,e,r⟩:=j;exact⟨o,hP1 _ (hP1 _ e),r⟩
 ·exact i (λx=>x.grows λa o e=>hP1 _ (hP1 _ e)) n
 ·exact⟨bp,#[],0,_,hP1 _ F,sTT.fresh _,O,(λe B=>by simp at B),(λk D=>by cases D),O⟩
end
def qS:List D->Option (List TK)
 |[]=>Z []
 |d::ds=>(keyT d).bind λk=>(qS ds).map (k :: ·)
theorem uL:∀{ds:List D} {ks:List TK},qS ds=Z ks->jw ks=ds/\(∀k∈ks,vN k=M)/\ks.length=ds.length
 |[],ks,h=>by cases h;exact⟨O,(λk e=>by cases e),O⟩
 |d::ds,ks,h=>by
  rw[qS]at h;obtain⟨k,f,h⟩:=R3 h;obtain⟨l,g,h⟩:=R4 h;subst h;obtain⟨h1,h2,xs,b⟩:=lW f;obtain⟨i,c,m⟩:=uL g;refine⟨by rw[jw,h1,i],λj a=>?_,by simp[m]⟩;rcases aF.mp a with z|z
  ·subst z;subst b;simpa[vN]using h2
  ·exact c j z
def jQ:G1:=λd S=>match dZ S d with
 |some (M,xs)=>(qS xs).bind λks=>if ks.length<=76 then Z (.int (ddK ks).length,S)else Y
 |_=>Y
def Lc(X:Cx)(vs:List V)(H:Hp)(Q:VK):Prop:=∃a xs ks mu,vs=[.ref a]/\mU X.K H a xs/\dX X.K H mu (jw ks) xs/\(∀k∈ks,vN k=M)/\ks.length<=76 /\ ∀p,H p=Y->Q (.ref p) (upd H p (.ext (vw p (ddK ks).length)))
def Ld(X:Cx)(vs:List V)(H:Hp)(Q:VK):Prop:=∃a n,vs=[.ref a]/\H a=Z (.ext (vw a n))/\Q (.int n) H
theorem Kc(hc:X.calm=M)(v:X.A.units+64<Qe):eR X (.type "set") (Lc X):=by
 intro ag s σ H xs n Q I r h;obtain⟨a,vs,ks,mu,rfl,j,l,g,m,q⟩:=h;obtain⟨u,rfl,r2⟩:=iP r;cases r2;obtain⟨i,f,p,w⟩:=I.list j;have d:=vP I ks l f;refine z0 (I.ok.hd hc) (by lia) p.isList (by simpa using d) g m λh' tk keep c=>?_;have b:=I.hok.fresh (nR1 s.heap.objs.size);refine⟨.ref s.heap.objs.size,_,I.laid (t':=tk) (o:=.ext (vw s.heap.objs.size (ddK ks).length)) keep (nR1 _) ⟨c,?_,λh1 h2 ⟨es,ep,t,e,r⟩ k=>⟨es,ep,t,k _ e,r⟩⟩,O,q _ b⟩;obtain⟨es,ep,t,e,_⟩:=c;exact⟨_,e⟩
theorem Ke:eR X (.builtin "len") (Ld X):=by
 intro ag s σ H xs f Q I r h;obtain⟨a,n,rfl,b,q⟩:=h;obtain⟨u,rfl,r2⟩:=iP r;cases r2;obtain⟨⟨es,ep,t,e,d,c,g⟩,_⟩:=(show eQ X.prog X.w H s.heap a (.ext (vw a n))from I.hok a _ b);refine PySem.call_len_set e (by first|exact rfl|exact⟨rfl,rfl,rfl⟩|exact⟨rfl,rfl⟩) rfl d (by lia) ?_;refine⟨.int es.size,H,I.tok _,⟨_,O⟩,?_⟩;rw[c];exact q
theorem Aw (hc:X.calm=true)(k:X.A.units+64<Qe){o:Expr}{m:FE}{p p2 pos b:Pos}(hg:Gl X "len")(hm:X.mg "len"=none)(hg2:Gl X "set")(hm2:X.mg "set"=none)(ho:XE X o m)
  (he:autoParam (dw [.Call (.Name "set" p2) [o] [] b] X.env=[(J,eval (.Call (.Name "set" p2) [o] [] b) X.env)]) cu0) (c:autoParam (dw [o] X.env=[(J,eval o X.env)]) cu0):XE X (.Call (.Name "len" p) [.Call (.Name "set" p2) [o] [] b] [] pos) (mN (b1 jQ) (dG m dH)):=
 ⟨eM (lJ Ke hg hm (by decide+kernel) (iD (ke (Kc hc k) hg2 hm2 (by decide+kernel) (iD ho.h lg c) (he:=c)) lg he) (he:=he)) <| by
  rintro σ H Q ⟨r,mu,S,d,D,he,C,hm,e⟩;obtain⟨⟨ds,F⟩,f,hm⟩:=R3 hm;obtain⟨⟨j,E⟩,x,f⟩:=R3 f;cases f;dsimp only[b1,jQ]at hm;split at hm
  ·rename_i xs w;obtain⟨ns,A,hm⟩:=R3 hm;split at hm
   ·rename_i B;cases hm;refine⟨r,mu,S,j,_,he,C,x,λv H1 mu1 y z g=>?_⟩;obtain⟨a,vs,rfl,q,t⟩:=dW z g w;obtain⟨l,s,_⟩:=uL A;refine⟨a,vs,ns,mu1,O,q,by rw[l];exact t,s,B,λp h=>?_⟩;refine⟨p,(ddK ns).length,O,d9,?_⟩;have n:Ext mu1 mu1 H1 (upd H1 p (.ext (vw p (ddK ns).length))):=Ext.fresh h;have i:=g.fresh (u:=.ext (vw p (ddK ns).length)) h;exact e _ _ mu1 (y.trans n) (.int _) i
   ·cases hm
  ·cases hm⟩
section
variable{pos:Pos}
theorem gn(i:Nat){x:Str}(hN:X.N.Nodup)(hi:autoParam (X.N[i]?=Z x) cu0)(hx:autoParam (vy X.env.scope x) au0)(hf:autoParam (X.fn x=M\/X.env.scope.names.lookup x=Z .local) au0):XG X (.Name x pos) (gN i):=qO i hN hi hx hf
theorem ce{op:P8}{x y:Expr}{f:FN}{a b:FE}(ho:gE X (P7 op) (r2 X.K f))(hx:XE X x a)(hy:XE X y b)(hm:P9 op y=J:=by exact BZ _):XE X (.Compare x [op] [y] pos) (m2 f a b):=Ed ho hx hy hm
theorem ct{op:P8}{x y:Expr}{f:FN}{a b:FE}(ho:gE X (P7 op) (r2 X.K f))(hx:XE X x a)(hy:XE X y b)(hm:autoParam (P9 op y=J) ce._auto_1):XT X (.Compare x [op] [y] pos) (mB (m2 f a b)):=qX ho hx hy hm
theorem kc{a:dF}{i:Nat}{l:List Nat}(x:Str)(r:∀i∈l,∃x,X.N[i]?=Z x/\a.names.lookup x=Z .free/\(X.env.kindOf x=Z .cell\/X.env.kindOf x=Z .free)/\(x,QY)∉a.names)(h1:autoParam (X.N[i]?=Z x) cu0)(h2:autoParam (a.names.lookup x=Z .free) cu0)(c:autoParam (X.env.kindOf x=Z .cell\/X.env.kindOf x=Z .free) au0)(b:autoParam ((x,QY)∉a.names) eu0):∀j∈i::l,∃x,X.N[j]?=Z x/\a.names.lookup x=Z .free/\(X.env.kindOf x=Z .cell\/X.env.kindOf x=Z .free)/\(x,QY)∉a.names:=List.forall_mem_cons.mpr ⟨⟨x,h1,h2,c,b⟩,r⟩
end
structure d7 (K:Fg1)(x:Str)(st:dE)(f:dk):Prop where
 ns:wN1 K dv x=some (some (.ref f))
 fn:∃fd,An K x x st f fd
theorem LX{K:Fg1}{x:Str}{st:dE}{f:dk}{h:di}{g j:Option dk}{e:Array (Option di)}{kV d i b ct:di}(a:wN1 K dv x=Z (Z (.ref f)))(l:K.lookup f=Z ⟨h,g,.func (wF1 x x (iI st) (fz st) (d5 st) .none kV d i j b ct),e⟩)(c:wC1 K b x=M)(k:wK1 K (.ref f)=M):d7 K x st f:=⟨a,_,CQ l c k⟩
theorem xo{P:dn}{w:dr}{K:Fg1}{mg:Str->Option di}{base h:dB}{x:Str}{st:dE}{f:dk}{N ps:List Str}{k n:Nat}{b:FS}(X:K.In h)(G:h.Ns dv mg)(F:d7 K x st f)(S:gR N ps (d5 st))(hb:∀(kV g j:di) (l:Option dk) (a ct:di) (e:List di),e.length=ps.length->bindArgs (wF1 x x (iI st) (fz st) (d5 st) .none kV g j l a ct) ⟨e,[]⟩=pure (ps.zip e))(d:∀(f:dk) (a:di) (A:dq) (c:List Env) (s:dj) (H:Hp) (E:XK),fR k (A.deeper (Qk x (d5 st) s.heap.objs.size f a)) ->
   wK (nL vz P w K mg base N x (d5 st) f a A c s H E).nox (fz st) b)(hn:autoParam (ps.length=n) cu0):eT P w K mg base (k+1) x n (gM N.length b):=by
 obtain⟨fd,i⟩:=F.fn;exact D9 i (i.binds hb) (wM1 X G F.ns) S hn (d f)
section
variable{ag:List (dk×Obj)}{σ:L2.St}{H:Hp}{s:dj}{mu:List dk}
end
section
variable{P:dn}{w:dr}{A:dq}{E:di->dj->Prop}{s:dj}{a x:dk}{xs:List (TK×dk×di)}{k:TK}
end
section
variable{o e:Expr}{es:List Expr}{to:TE}{t:TA}{name:Str}{apos cpos:Pos}{id:String}{r:V->List V->Hp->VK->Prop}
end
section
variable{x y z u:Expr}{pos:Pos}{f g k:FN}{a b c d:FE}{op op' op'':P8}{ta tb tc td:TE}
end
structure Blt (L:List Str)(mg:Str->Option di):Prop where
 h:∀x∈L,mg x=none
theorem bz{L:List Str}{mg:Str->Option di}{x:Str}(B:Blt L mg)(h:autoParam (x∈L) bu0):mg x=Y:=B.h x h
theorem sk{N P:List Str}{sc:dF}(h1:autoParam (sc.kind = .function) cu0)(h2:autoParam (sc.isCoroutine=J) cu0)(b:autoParam (sc.isGenerator=J) cu0)(c:autoParam (N.Nodup) eu0)(d:autoParam (N.take P.length=P) cu0)(e:autoParam (∀x∈P,sc.names.lookup x=Z .local\/sc.names.lookup x=Z .cell) eu0)(a:autoParam (∀y∈sc.names,y.2 ≠ .free) eu0):gR N P sc:=⟨h1,h2,b,c,d,e,a⟩
def Mr(K:Fg1):List Str->Prop
 |[]=>True
 |x::l=>wN1 K dv x=Z Y/\Mr K l
theorem Mr.blt{K:Fg1}{mg:Str->Option di}{h:dB}(X:K.In h)(G:h.Ns dv mg):∀{L:List Str},Mr K L->Blt L mg
 |[],_=>⟨λ_ m=>nomatch m⟩
 |_::_,z=>⟨λ_ m=>match m with
  | .head _=>PySem.W.mg_none_of X G z.1
  | .tail _ m=>(Mr.blt X G z.2).h _ m⟩
noncomputable def MF:List Str->Bool
 |[]=>M
 |x::l=> !l.contains x&&MF l
theorem gF:∀{l:List Str},MF l=M->l.Nodup
 |[],_=>bp
 |x::l,h=>by
  obtain⟨a,b⟩:=(bA1 _ _).mp h;exact aO.mpr ⟨λm=>(by rw[cJ.mpr m]at a;cases a),gF b⟩
section
variable{pos:Pos}{k:Nat}{x:Str}{i:Nat}{e y:Expr}{es:List Expr}{m b:FE}{a:FA}{p:Pos}
theorem xv (hN:autoParam (X.N[i]?=Z x) cu0)(hv:autoParam (Vis X.env.scope x) au0)(hd:autoParam ((x == ("__debug__":Str))=J) bu0)(hcd:autoParam ((x == ("__classdict__":Str))=J) bu0):XE X (.Name x pos) (mV i):=Oq i hN hv hd hcd
theorem gq(hN:autoParam (MF X.N=M) cu0)(hi:autoParam (X.N[i]?=Z x) cu0)(hx:autoParam (vy X.env.scope x) au0)(hf:autoParam (X.fn x=M\/X.env.scope.names.lookup x=Z .local) au0):XG X (.Name x pos) (gN i):=qO i (gF hN) hi hx hf
theorem sq(he:XE X e m)(hN:autoParam (MF X.N=M) cu0)(hi:autoParam (X.N[i]?=Z x) cu0)(hx:autoParam (vy X.env.scope x) au0)(hs:autoParam (PC e (Z (.Name x p)) pos.line X.env=pure J) cu0)(hf:autoParam (X.fn x=M\/X.env.scope.names.lookup x=Z .local) au0):XS X (.Assign [.Name x p] e pos) (dS m (gN i)):=qY i (gF hN) hi hx he hs hf
theorem jq(hx:XE X e m)(hy:XE X y b)(hr:autoParam (fR k X.A) fu0)(hs:autoParam (n4 y) yH._auto_1):XE X (.Subscript e y pos) (m2 (b2 dL) m b):=qJ (qP hr.units) hx hy hs
theorem oq{av:Prop}(o:X.A.units+64<Qe->av)(hr:autoParam (fR k X.A) fu0):av:=o hr.units
theorem wn {k' n:Nat}{f:FN}(h:eT X.prog X.w X.K X.mg X.base k x n f)(ha:XA X (e::es) a)(hr:autoParam (fR k' X.A) fu0)(hk:k<=k':=by first|decide|omega)(hg:autoParam (Gl X x) cu0)(hdb:autoParam ((x == ("__debug__":Str))=J) bu0)(he:autoParam (dw (e::es) X.env=(J,eval e X.env)::dw es X.env) cu0)(hpl:autoParam ((Pu pos (dw es X.env)).any (·.1)=J) cu0):XE X (.Call (.Name x p) (e::es) [] pos) (mN (dI n f) a):=qH h hr hk hg ha hdb he hpl
theorem cn {id:String}{f:FN}(hc:eR X (.builtin id) (rN X.K f))(ha:XA X (e::es) a)(hm:X.mg x=Y:=by exact bz (by assumption))(hg:autoParam (Gl X x) cu0)(hv:autoParam (Po x=Z (.builtin id)) eu0)(hn:autoParam (x≠"__name__") bu0)(hdb:autoParam ((x == ("__debug__":Str))=J) bu0)(he:autoParam (dw (e::es) X.env=(J,eval e X.env)::dw es X.env) cu0)(hpl:autoParam ((Pu pos (dw es X.env)).any (·.1)=J) cu0):XE X (.Call (.Name x p) (e::es) [] pos) (mN f a):=qD hc hg hm hv ha hn hdb he hpl
theorem cz {T:String}{f:FN}(hc:eR X (.type T) (rN X.K f))(ha:XA X (e::es) a)(hm:autoParam (X.mg x=Y) cn._auto_1)(hg:autoParam (Gl X x) cu0)(hv:autoParam (Po x=Z (.type T)) eu0)(hn:autoParam (x≠"__name__") bu0)(hdb:autoParam ((x == ("__debug__":Str))=J) bu0)(he:autoParam (dw (e::es) X.env=(J,eval e X.env)::dw es X.env) cu0)(hpl:autoParam ((Pu pos (dw es X.env)).any (·.1)=J) cu0):XE X (.Call (.Name x p) (e::es) [] pos) (mN f a):=qE hc hg hm hv ha hn hdb he hpl
theorem a1(h:XE X e m)(hs:autoParam (dw [e] X.env=(J,eval e X.env)::dw [] X.env) cu0):XA X [e] (dG m dH):=qA h qN hs
theorem a2(h:XE X e m)(g:XE X y b)(hs:autoParam (dw [e,y] X.env=(J,eval e X.env)::dw [y] X.env) cu0)(hs2:autoParam (dw [y] X.env=(J,eval y X.env)::dw [] X.env) cu0):XA X [e,y] (dG m (dG b dH)):=qA h (a1 g hs2) hs
theorem a3{z:Expr}{c:FE}(h:XE X e m)(g:XE X y b)(l:XE X z c)(hs:autoParam (dw [e,y,z] X.env=(J,eval e X.env)::dw [y,z] X.env) cu0)(hs2:autoParam (dw [y,z] X.env=(J,eval y X.env)::dw [z] X.env) cu0)(a:autoParam (dw [z] X.env=(J,eval z X.env)::dw [] X.env) cu0):XA X [e,y,z] (dG m (dG b (dG c dH))):=qA h (a2 g l hs2 a) hs
theorem ir (ha:XA X [e] a)(hm:autoParam (X.mg "range"=Y) cn._auto_1)(hg:autoParam (Gl X "range") cu0)(hs:autoParam (dw [e] X.env=[(J,eval e X.env)]) cu0):XI X y (.Call (.Name "range" p) [e] [] pos) (nJ a):=vH hg hm ha hs
theorem ie {elts:List Expr}{b:Nat}{tpos:Pos}(ha:XA X [e] a)(hm:autoParam (X.mg "enumerate"=Y) cn._auto_1)(hg:autoParam (Gl X "enumerate") cu0)(hs:autoParam (dw [e] X.env=[(J,eval e X.env)]) cu0):XI X (.Tuple elts b tpos) (.Call (.Name "enumerate" p) [e] [] pos) (p7 a):=Av hg hm ha hs
theorem ii {T:Ty}{p2:Pos}(h:XE X e m)(hm:autoParam (X.mg "isinstance"=Y) cn._auto_1)(hm2:autoParam (X.mg x=Y) cn._auto_1)(hg:autoParam (Gl X "isinstance") cu0)(hg2:autoParam (Gl X x) cu0)(hv2:autoParam (Po x=Z (.type T.nm)) eu0)(hn:autoParam (x≠"__name__") bu0)(hd:autoParam ((x == ("__debug__":Str))=J) bu0)(hs1:autoParam (dw [e,.Name x p2] X.env=(J,eval e X.env)::dw [.Name x p2] X.env) cu0)(hs2:autoParam (dw [.Name x p2] X.env=(J,eval (.Name x p2) X.env)::dw [] X.env) cu0)(hpl:autoParam ((Pu pos (dw [.Name x p2] X.env)).any (·.1)=J) cu0):XE X (.Call (.Name "isinstance" p) [e,.Name x p2] [] pos) (sO T m):=vI T hg hm hg2 hm2 hv2 h hn hd hs1 hs2 hpl
structure Lm (X:Cx)(name:Str)(id:String)(f:FN):Prop where
 s:Slot "list" name id
 t:typeOf (.builtin id)=pure (.type "method_descriptor")
 m:DV X id (λx xs H Q=>rN X.K f (x::xs) H Q)
theorem ap:Lm X "append" "list.append" (b2 iJ):=⟨PySem.F.slot_list_append,PySem.F.type_list_append,KN⟩
theorem lq{f:FN}{name:Str}{apos:Pos}{id:String}(s:Lm X name id f)(ho:XE X y m)(ha:XA X (e::es) a)(hbase:autoParam (QI y name X.env (eval y X.env)=eval y X.env) cu0)(hfew:autoParam (((Pu pos (dw (e::es) X.env)).all (λx=> !x.1)&&(QJ pos (QK [] X.env)).all (λx=>x.1.isSome)&&decide ((e::es).length+([]:List Qi).length+(if([]:List Qi).isEmpty then 0 else 1)<30))=M) cu0)(hline:autoParam ((apos.endLine == pos.line)=M) cu0)(hs:autoParam (dw (e::es) X.env=(J,eval e X.env)::dw es X.env) cu0)(hplain:autoParam ((Pu pos (dw es X.env)).any (·.1)=J) cu0):XS X (.Expr (.Call (.Attribute y name apos) (e::es) [] pos) p) (fG (oS f m a)):=Au (qe s.s s.t s.m ho ha hbase hfew hline hs hplain)
theorem fo{tg iter:Expr}{a:List dE}{m:FI}{g:FG}{b:FS}(hi:XI X tg iter m)(hg:XG X tg g)(hb:wK X a b)(hp:PV (Pt X.prog X.w) X.A X.env X.xe:=by exact RU)(hc:autoParam (X.calm=M) cu0)(hs:autoParam (∀x,P5 iter X.env x=pure x) du0):XS X (.For tg iter a [] pos) (fE m g b):=qW hp hc hi hg hb hs
theorem tg2{d:Expr}{g h:FG}{a:Nat}(h1:XG X e g)(h2:XG X d h)(hc:autoParam (X.calm=M) cu0)(hs:autoParam ((PF [e,d] X.env).map (·.2)=PD e X.env::(PF [d] X.env).map (·.2)) cu0)(hs2:autoParam ((PF [d] X.env).map (·.2)=PD d X.env::(PF [] X.env).map (·.2)) cu0)(hn:autoParam ((PF [e,d] X.env).length=2) cu0)(hst:autoParam ((PF [e,d] X.env).findIdx? (·.1)=Y) cu0):XG X (.Tuple [e,d] a pos) (gT 2 (gCs g (gCs h gNl))):=j7 hc (ez h1 (ez h2 iO hs2) hs) hn hst
noncomputable def MH(x:Str):List (Str×Qj)->Bool
 |[]=>M
 |(y,.cell)::l=> !(y == x)&&MH x l
 |_::l=>MH x l
omit k i in
theorem B4:∀{l:List (Str×Qj)},MH x l=M->(x,QY)∉l
 |[],_,m=>nomatch m
 |(y,c)::l,h,m=>by
  rcases aF.mp m with e|a
  ·cases e;have h:=((bA1 _ _).mp h).1;rw[Rn]at h;cases h
  ·cases c with
   |cell=>exact B4 ((bA1 _ _).mp h).2 a
   |_=>exact B4 (l:=l) h a
theorem kz{a:dF}{l:List Nat}(r:∀i∈l,∃x,X.N[i]?=Z x/\a.names.lookup x=Z .free/\(X.env.kindOf x=Z .cell\/X.env.kindOf x=Z .free)/\(x,QY)∉a.names)(h1:autoParam (X.N[i]?=Z x) cu0)(h2:autoParam (a.names.lookup x=Z .free) cu0)(c:autoParam (X.env.kindOf x=Z .cell\/X.env.kindOf x=Z .free) au0)(b:autoParam (MH x a.names=M) cu0):∀j∈i::l,∃x,X.N[j]?=Z x/\a.names.lookup x=Z .free/\(X.env.kindOf x=Z .cell\/X.env.kindOf x=Z .free)/\(x,QY)∉a.names:=kc x r h1 h2 c (B4 b)
def Oh(X:Cx)(sc:dF):List (Str×dk):=(jS X.env.cells sc.names []).getD []
theorem fk{elt tg iter:Expr}{ifs:List Expr}{scope:dF}(T:List Str){keep:List Nat}{m:FI}{g:FG}{t:FT}{e:FE}(hi:XI X tg iter m)(hb:∀ {s H fp},NS (cxC X scope (Oh X scope) T keep s H fp) X.K tg ifs elt g t e)(free:∀i∈keep,∃x,X.N[i]?=Z x/\scope.names.lookup x=Z .free/\(X.env.kindOf x=Z .cell\/X.env.kindOf x=Z .free)/\(x,QY)∉scope.names:=by repeat first|exact cK _|refine kz ?_)(hc:autoParam (X.calm=M) cu0)(b:autoParam (scope.kind = .function) cu0)(a:autoParam (∀x∈scope.names,x.2 = .local->scope.names.lookup x.1=Z .local) eu0)(c:autoParam (jS X.env.cells scope.names []=Z (Oh X scope)) cu0)(hs:autoParam (∀x,P5 iter X.env x=pure x) du0):XE X (.ListComp elt [⟨tg,iter,ifs,0⟩] scope pos) (eA T.length keep m g t (ee e)):=qZ hc ⟨b,a,free⟩ c hi (λ_ _ _=>hb) hs
end
theorem xq{P:dn}{w:dr}{K:Fg1}{mg:Str->Option di}{base h:dB}{x:Str}{st:dE}{f:dk}{k n:Nat}{b:FS}(N:List Str)(X:K.In h)(G:h.Ns dv mg)(F:d7 K x st f)(d:∀{f:dk} {a:di} {A:dq} {c:List Env} {s:dj} {H:Hp} {E:XK},fR k (A.deeper (Qk x (d5 st) s.heap.objs.size f a)) ->
   wK (nL vz P w K mg base N x (d5 st) f a A c s H E).nox (fz st) b)(S:gR N (N.take n) (d5 st):=by exact sk)(hb:∀(kV i l:di) (m:Option dk) (a ct:di) (e:List di),e.length=(N.take n).length->bindArgs (wF1 x x (iI st) (fz st) (d5 st) .none kV i l m a ct) ⟨e,[]⟩=pure ((N.take n).zip e):=by
   intro _ _ _ _ _ _ e g;first|exact Od g λ_=>rfl|exact Oc g λ_ _=>rfl|exact Oa g λ_ _ _=>rfl|exact OR g λ_ _ _ _=>rfl)(hn:autoParam ((N.take n).length=n) cu0):eT P w K mg base (k+1) x n (gM N.length b):=xo X G F S hb (λ_ _ _ _ _ _ _ j=>d j) hn
open AutoSeq1 (wpAny_loadPart')
mutual
noncomputable def pl:D->Bool
 | .non=>M
 | .bl _=>M
 | .int _=>M
 | .str _=>M
 | .tup xs=>N8 xs
 |_=>J
noncomputable def N8:List D->Bool
 |[]=>M
 |x::xs=>pl x&&N8 xs
end
section
variable{ag:List (dk×Obj)}{σ:L2.St}{H:Hp}{s:dj}{mu:List dk}{S:Sto}
end
section
variable{prog:dn}{w:dr}{A:dq}{E:di->dj->Prop}{s:dj}
end
section
variable{ag:List (dk×Obj)}{σ:L2.St}{H:Hp}{s:dj}{mu:List dk}{S:Sto}
end
section
variable{prog:dn}{w:dr}{A:dq}{E:di->dj->Prop}{s:dj}
end
abbrev rk(ws:List di)(p:RD):Nat:=OP ws p.1
section
variable{prog:dn}{w:dr}{A:dq}{E:di->dj->Prop}{s:dj}{κ:RC}{ws:List di}{a₀:Array RD}
end
structure Sm (st st':SortSt):Prop where
 k:kindOf st'=kindOf st
 a:arrOf st'=arrOf st
 p:pendingOf st'=pendingOf st
 f:failedOf st'=failedOf st
theorem Sm.rfl{st:SortSt}:Sm st st:=⟨_root_.rfl,_root_.rfl,_root_.rfl,_root_.rfl⟩
theorem Sm.g{st st':SortSt}(h:Sm st st')(g:Nat):Sm st (SortSt.mk' (kindOf st') (arrOf st') (pendingOf st') g (failedOf st')):=⟨h.k,h.a,h.p,h.f⟩
def D4(ws:List di)(xs:List RD):Prop:=xs.Pairwise λp q=>rk ws p<rk ws q
def Ak(ws:List di)(xs ys:List RD):Prop:=∀x∈xs,∀y∈ys,rk ws x<rk ws y
section
variable{ws:List di}{a b out xs ys zs:List RD}{i j k:Nat}
theorem D4.app(h1:D4 ws xs)(h2:D4 ws ys)(h:Ak ws xs ys):D4 ws (xs++ys):=List.pairwise_append.mpr ⟨h1,h2,h⟩
theorem Ak.app(h1:Ak ws xs zs)(h2:Ak ws ys zs):Ak ws (xs++ys) zs:=λx b y a=>(aG.mp b).elim (λh=>h1 x h y a) λh=>h2 x h y a
def O5(ws:List di)(a b r:List RD):Prop:=r.Perm (a++b)/\D4 ws r
end
section
variable{prog:dn}{w:dr}{A:dq}{E:di->dj->Prop}{s:dj}{κ:RC}{ws:List di}{a₀:Array RD}
end
section
variable{ws:List di}{a b out xs ys zs:List RD}{i j k t:Nat}
theorem Ak.to(h1:Ak ws xs ys)(h2:Ak ws xs zs):Ak ws xs (ys++zs):=λx a y b=>(aG.mp b).elim (λh=>h1 x a y h) λh=>h2 x a y h
structure K0 (ws:List di)(a b out:List RD)(i j:Nat):Prop where
 la:i<=a.length
 lb:j<=b.length
 len:out.length+(i+j)=a.length+b.length
 pm:(a.take i++b.take j++out.reverse).Perm (a++b)
 so:D4 ws out.reverse
 ba:Ak ws (a.take i) out
 bb:Ak ws (b.take j) out
theorem K0.fs(h:K0 ws a b out i j)(f:D4 ws a)(e:D4 ws b)(hb:Ak ws (b.take j) (a.take i)):O5 ws a b (b.take j++a.take i++out.reverse):=by
 refine⟨(List.perm_append_comm.append_right _).trans h.pm,?_⟩;exact(D4.app (e.sublist (aU _ _)) (f.sublist (aU _ _)) hb).app h.so (Ak.app (λx d y c=>h.bb x d y (List.mem_reverse.mp c)) λx d y c=>h.ba x d y (List.mem_reverse.mp c))
end
section
variable{prog:dn}{w:dr}{A:dq}{E:di->dj->Prop}{s:dj}{κ:RC}{ws:List di}{a₀:Array RD}
end
def BE:Nat->List (List RD)->List (Nat×Nat×Nat)->Prop
 |_,[],[]=>True
 |s,r::rs,(t,n,_)::p=>t=s/\n=r.length/\BE (s+r.length) rs p
 |_,_,_=>False
structure SR (ws:List di)(κ:RC)(a₀:Array RD)(rs:List (List RD))(rest:List RD)(st:SortSt):Prop where
 k:kindOf st=κ
 f:failedOf st=none
 pm:(arrOf st).Perm a₀
 ar:(arrOf st).toList=rs.flatten++rest
 so:∀r∈rs,D4 ws r/\r≠[]
 pe:BE 0 rs (pendingOf st).toList
section
variable{prog:dn}{w:dr}{A:dq}{E:di->dj->Prop}{s:dj}{κ:RC}{ws:List di}{a₀:Array RD}
end
section
variable{prog:dn}{w:dr}{A:dq}{E:di->dj->Prop}{s:dj}{κ:RC}{ws:List di}{a₀:Array RD}{lo:Nat}{st0:SortSt}
end
section
variable{prog:dn}{w:dr}{A:dq}{E:di->dj->Prop}{s:dj}{κ:RC}{ws:List di}{a₀:Array RD}{rs:List (List RD)}{rest:List RD}{st st':SortSt}
theorem SR.size(h:SR ws κ a₀ rs rest st):rs.flatten.length+rest.length=a₀.size:=by
 have:=congrArg List.length h.ar;rw[aK,h.pm.size_eq,lA1]at this;exact this.symm
end
section
variable{prog:dn}{w:dr}{A:dq}{E:di->dj->Prop}{s:dj}
end
section
variable{P:dn}{w:dr}{A:dq}{E:di->dj->Prop}{s:dj}
variable{K:Type} [DecidableEq K] {knd:HeapKind P w K}
end
section
variable{ag:List (dk×Obj)}{σ:L2.St}{H:Hp}{s:dj}{mu:List dk}
end
section
variable{K:Fg1}{H:Hp}{mu nu:List dk}{a:dk}{h:Nat}
end
section
variable{ag:List (dk×Obj)}{σ:L2.St}{H:Hp}{s:dj}{mu:List dk}{S:Sto}
end
open AutoSeq1 (wpAny_loadPart')
section
variable{P:dn}{w:dr}{A:dq}{E:di->dj->Prop}{s:dj}
end
section
variable{ag:List (dk×Obj)}{σ:L2.St}{H:Hp}{s:dj}{mu:List dk}
end
open PySem.SeqAt
open PySem.AutoSeq1 (wpAny_loadPart')
open PySem.MeetsSeq PySem.MeetsSeq2 PySem.MeetsSeq3
section
variable{ag:List (dk×Obj)}{σ:L2.St}{H:Hp}{s:dj}{mu:List dk}{S:Sto}
end
section
variable{prog:dn}{w:dr}{A:dq}{R:Qf->dj->Prop}{I S:dk}{fp wr:List dk}{n:Nat}{P:Nat->di->Prop}{St:Nat->dB->Prop}{bt:Nat->Nat->Bool}{Kp:dj->Prop}
end
section
open PySem.MeetsSeq PySem.MeetsSeq2 PySem.MeetsSeq3 PySem.SeqRoads2
theorem Gb{l:dk}{its:Array di}{x:di}{e:Nat->Bool}{j:Nat}{o:Obj}{n:Nat}(hd:o.data = .seq its n)(D:j<its.size)(p:e j=true)(f:∀ m,m<j->e m=false):
  Meets (Builtin.«tuple.index» ⟨[.ref l,x],[]⟩)
   (λA R s=>s.heap.get? l=Z o/\(∀m (h:m<its.size),QH A.in1 s its[m] x (e m))/\R (.ok (.ret (.int j s.toks))) {s with toks:=s.toks+1}):=by
 intro prog w A R ⟨B,g,d,tk,y⟩ ⟨C,v,h⟩
 wp_walk using Rx C
 rw[hd];refine wP1 ?_;refine wP1 ?_;dsimp only;refine wB1 (wP1 ?_);refine wB1 (wP1 ?_);refine wB1 ?_;rw[Nat.min_self,Std.Legacy.Range.forIn_eq_forIn_range'];have q:([0:its.size]:Std.Legacy.Range).size=its.size:=by simp[Std.Legacy.Range.size]
 show dz _ _ (forIn (bn 0 ([0:its.size]:Std.Legacy.Range).size 1) _ _) _ _ _;rw[q];refine Rp _ (λrest b s'=>b=(Y,())/\s'=⟨B,g,d,tk,y⟩ /\ ∃i,i<=j/\rest=bn i (its.size-i) 1) _ ?turn ?fin _ _ ⟨O,O,0,bi _,O⟩
 case turn=>
  rintro i rest b s' ⟨rfl,rfl,u,hi,c⟩;obtain⟨k,r⟩:∃k,its.size-u=k+1:=⟨its.size-u-1,by lia⟩;rw[r,cy]at c;injection c with c z;subst c;have a:i<its.size:=by lia
  rw[aG1 a];dsimp only;refine wB1 (v i a prog w _ _ ?_);by_cases t:i=j
  ·subst t;rw[p]
   wp_walk
   exact h
  ·rw[f i (by lia)]
   wp_walk
   exact⟨O,O,i+1,by lia,by rw[z,show its.size-(i+1)=k by lia]⟩
 case fin=>
  rintro b s' ⟨_,_,i,hi,e⟩;obtain⟨k,r⟩:∃k,its.size-i=k+1:=⟨its.size-i-1,by lia⟩;rw[r,cy]at e;cases e
end
def jP:G2:=λo x S=>match o with
 | .tup ys=>(p9 (i7 S d8) x ys).bind λbs=>(bs.findIdx? id).map λj=>(.int (j:Nat),S)
 |_=>Y
noncomputable def pZ(f:FN)(o:FE)(a:FA):FE:=λr S=>(o r S).bind λp=>match p.1 with
 | .tup ys=>(a r p.2).bind λq=>f (.tup ys::q.1) q.2
 |_=>Y
def Nb(K:Fg1)(r:V->List V->Hp->VK->Prop)(to:TE)(t:TA):TE:=fun σ H Q=>to σ H λx H1=>(∃a vs,x = .ref a/\kA K H1 a vs)/\t σ H1 λxs H2=>r x xs H2 Q
theorem Iz {o e:Expr}{es:List Expr}{to:TE}{t:TA}{name:Str}{apos cpos:Pos}{id:String}{r:V->List V->Hp->VK->Prop}(slot:Slot "tuple" name id)(hty:typeOf (.builtin id)=pure (.type "method_descriptor"))(hm:DV X id r)(ho:PE X o to)(ha:PA X (e::es) t)
  (hbase:autoParam (QI o name X.env (eval o X.env)=eval o X.env) cu0)
  (hfew:autoParam (((Pu cpos (dw (e::es) X.env)).all (λx=> !x.1)&&(QJ cpos (QK [] X.env)).all (λx=>x.1.isSome)
   && decide ((e::es).length+([]:List Qi).length+(if([]:List Qi).isEmpty then 0 else 1)<30))=M) cu0)
  (hline:autoParam ((apos.endLine == cpos.line)=M) cu0) (hs:autoParam (dw (e::es) X.env=(J,eval e X.env)::dw es X.env) cu0) (hplain:autoParam ((Pu cpos (dw es X.env)).any (·.1)=J) cu0):
  PE X (.Call (.Attribute o name apos) (e::es) [] cpos) (Nb X.K r to t):=by
 intro ag s σ H Q I h;refine wpAny_Call_method_late hbase hfew hline O (fh (ho ag s σ H _ I h) λv u ⟨x,H1,c,j,⟨a,vs,ex,l⟩,g⟩=>?_);subst ex;obtain⟨k,_,p,_⟩:=c.tupN l;cases j;refine⟨"tuple",id,PySem.F.plainAttrs_tuple,slot,hty,p.tup.typeIs,λb eb=>?_,?_⟩
 ·cases eb;obtain⟨o,q,_,n,_,f⟩:=p;exact⟨o,q,f⟩
 have d:=ha cpos ag u σ H1 _ c g;rw[hs]at d ⊢;refine QL (by show(J||(Pu cpos (dw es X.env)).any (·.1))=J;rw[hplain]<;>rfl) (QM ?_);exact fh d λm w ⟨ws,H2,y,r2,i⟩=>hm ag w σ H2 (.ref a) ws _ m Q y O r2 i
theorem Cd {o e:Expr}{es:List Expr}{m:FE}{a:FA}{f:FN}{name:Str}{apos cpos:Pos}{id:String}(slot:Slot "tuple" name id)(hty:typeOf (.builtin id)=pure (.type "method_descriptor"))(hm:DV X id (fun x xs H Q=>rN X.K f (x::xs) H Q))(ho:ME X o m)(ha:MA X (e::es) a)
  (hbase:autoParam (QI o name X.env (eval o X.env)=eval o X.env) cu0)
  (hfew:autoParam (((Pu cpos (dw (e::es) X.env)).all (λx=> !x.1)&&(QJ cpos (QK [] X.env)).all (λx=>x.1.isSome)&&decide ((e::es).length+([]:List Qi).length+(if([]:List Qi).isEmpty then 0 else 1)<30))=M) cu0)
  (hline:autoParam ((apos.endLine == cpos.line)=M) cu0) (hs:autoParam (dw (e::es) X.env=(J,eval e X.env)::dw es X.env) cu0) (hplain:autoParam ((Pu cpos (dw es X.env)).any (·.1)=J) cu0):
  ME X (.Call (.Attribute o name apos) (e::es) [] cpos) (pZ f m a):=
 eM (Iz slot hty hm ho ha hbase hfew hline hs hplain) <| by
  rintro σ H Q ⟨r,mu,S,d,q,k,hs,hm,hc⟩;obtain⟨⟨g,l⟩,w,hm⟩:=R3 hm;refine⟨r,mu,S,g,l,k,hs,w,λv H1 mu1 n i z=>?_⟩;cases g with
  |tup ys=>
   dsimp only at hm;obtain⟨⟨ds,j⟩,y,hm⟩:=R3 hm;refine⟨?_,r,mu1,l,ds,j,k.ext n,z,y,λvs H2 b p r2 A=>?_⟩
   ·cases i with
    |tup h t=>exact⟨_,_,O,h⟩
   ·exact⟨b,j,.tup ys::ds,d,q,.cons (i.ext p) r2,A,hm,λB s c u=>hc B s c ((n.trans p).trans u)⟩
  |_=>cases hm
theorem j8 {o e:Expr}{es:List Expr}{m:FE}{a:FA}{f:FN}{name:Str}{apos cpos:Pos}{id:String}(slot:Slot "tuple" name id)(hty:typeOf (.builtin id)=pure (.type "method_descriptor"))(hm:DV X id (λx xs H Q=>rN X.K f (x::xs) H Q))(ho:XE X o m)(ha:XA X (e::es) a)(hbase:autoParam (QI o name X.env (eval o X.env)=eval o X.env) cu0)(hfew:autoParam (((Pu cpos (dw (e::es) X.env)).all (λx=> !x.1)&&(QJ cpos (QK [] X.env)).all (λx=>x.1.isSome)&&decide ((e::es).length+([]:List Qi).length+(if([]:List Qi).isEmpty then 0 else 1)<30))=M) cu0)(hline:autoParam ((apos.endLine == cpos.line)=M) cu0)(hs:autoParam (dw (e::es) X.env=(J,eval e X.env)::dw es X.env) cu0)(hplain:autoParam ((Pu cpos (dw es X.env)).any (·.1)=J) cu0):XE X (.Call (.Attribute o name apos) (e::es) [] cpos) (pZ f m a):=⟨Cd (slot:=slot) (hty:=hty) (hm:=hm) (ho:=ho.h) (ha:=ha.h) (hbase:=hbase) (hfew:=hfew) (hline:=hline) (hs:=hs) (hplain:=hplain)⟩
theorem rY(au:X.A.units+64<Qe):DV X "tuple.index" (λx xs H Q=>rN X.K (b2 jP) (x::xs) H Q):=by
 intro ag s σ H x xs v V Q I E K h;obtain⟨x',y,mu,S,d,e,wq,U,ao,T,r2,C,b,hc⟩:=y3 h;cases ao;unfold jP at b;split at b
 ·rename_i ys;obtain⟨bs,eb,b⟩:=R3 b;obtain⟨j,w,b⟩:=R4 b;cases b;cases T with
  | @tup _ vs a q t=>
   cases E;obtain⟨u,rfl,N⟩:=K.one;obtain⟨c,f,⟨o,B,co,n,D,_⟩,_⟩:=I.tupN q;obtain⟨W,g⟩:=tq _ _ eb;have l2:=t.length;have l3:=f.length;rw[bZ]at w;obtain⟨aq,p,k⟩:=w;have r:∀m (b:m<c.toArray.size),QH X.A.in1 s c.toArray[m] u (bs[m]?.getD J):=λm b=>by
    have m1:m<c.length:=by simpa using b
    obtain⟨R,P,L⟩:=t.getV (i:=m) (v:=vs[m]'(by lia)) (gG1 (by lia));obtain⟨w',z,G⟩:=f.get (i:=m) (x:=vs[m]'(by lia)) (gG1 (by lia));have m2:m<bs.length:=by lia
    have av:c.toArray[m]=w':=by
     have:=gG1 m1;rw[this]at z;simpa using z
    rw[av,gG1 m2];exact(lj I C d8 (A:=X.A.in1) (by show X.A.units+1+60<Qe;lia) L r2 G N (g m R bs[m] P (gG1 m2))).1
   refine call_meets F.slot_tuple_index ⟨o,B,co⟩ F.entry_tuple_index (F.args_tuple_index_2 _ _)
    (Gb (l:=a) (x:=u) (o:=o) (n:=n) (its:=c.toArray) (e:=λm=>bs[m]?.getD J) (j:=j) D (by simp;lia) ?_ ?_) ⟨B,r,?_⟩
   ·simp only[gG1 aq,b0];simpa using p
   ·intro m b;have m2:m<bs.length:=by lia
    have:=k m b;simp only[gG1 m2,b0];simpa using this
   ·exact⟨.int j,H,I.tok _,⟨_,O⟩,hc.now (.int _) C⟩
 ·cases b
def W{α:Type}(o:Option α)(Q:α->Prop):Prop:=∃x,o=Z x/\Q x
section
variable{α β:Type}{Q:α->Prop}
theorem dV{x:α}:W (Z x) Q↔Q x:=⟨λ⟨_,e,h⟩=>(by cases e;exact h),λh=>⟨x,O,h⟩⟩
theorem lp:W (Y:Option α) Q↔False:=⟨λ⟨_,e,_⟩=>(by cases e),Pz⟩
theorem dN{o:Option β}{f:β->Option α}:W (o.bind f) Q↔W o λx=>W (f x) Q:=by
 cases o with
 |none=>exact⟨λ⟨_,e,_⟩=>(by cases e),λ⟨_,e,_⟩=>(by cases e)⟩
 |some x=>exact⟨λh=>⟨x,O,h⟩,λ⟨_,e,h⟩=>by cases e;exact h⟩
theorem k6{o:Option β}{f:β->α}:W (o.map f) Q↔W o λx=>Q (f x):=by
 cases o with
 |none=>exact⟨λ⟨_,e,_⟩=>(by cases e),λ⟨_,e,_⟩=>(by cases e)⟩
 |some x=>exact⟨λ⟨_,e,h⟩=>(by cases e;exact⟨x,O,h⟩),λ⟨_,e,h⟩=>(by cases e;exact⟨_,O,h⟩)⟩
theorem vr{c:Prop}[Decidable c]{a b:Option α}:W (if c then a else b) Q↔if c then W a Q else W b Q:=by split<;>exact Iff.rfl
theorem W.mono{o:Option α}{Q':α->Prop}(h:W o Q)(k:∀x,Q x->Q' x):W o Q':=let ⟨x,e,q⟩:=h;⟨x,e,k x q⟩
theorem W.of{o:Option α}{x:α}(e:o=Z x)(h:Q x):W o Q:=⟨x,e,h⟩
end
theorem d4{a b:FS}{r:Ev}{S:Sto}{Q:Fl×Ev×Sto->Prop}(R:Ev->Sto->Prop)(h1:W (a r S) λp=>p.1 = .nx/\R p.2.1 p.2.2)(h2:∀r S,R r S->W (b r S) Q):W (dP a b r S) Q:=by
 obtain⟨⟨f,h,g⟩,e,c,d⟩:=h1;dsimp only at c d;subst c;unfold dP;rw[e];exact h2 h g d
theorem i6{n:Nat}{b:FS}{ds:List D}{S:Sto}{Q:D×Sto->Prop}(h:W (b (hB n ds) S) fun p=>match p.1 with
  | .rt d=>Q (d,p.2.2)
  | .nx=>Q (.non,p.2.2)
  |_=>False):W (gM n b ds S) Q:=by
 obtain⟨⟨f,a,c⟩,e,q⟩:=h;unfold gM;rw[e];cases f with
 |rt d=>exact⟨_,O,q⟩
 |nx=>exact⟨_,O,q⟩
 |bk=>exact q.elim
 |ct=>exact q.elim
theorem vk{n:Nat}{f:FN}{ds:List D}{S:Sto}{Q:D×Sto->Prop}(hn:ds.length=n)(a:D.unds 0 ds=J)(h:W (f ds S) λp=>Q (gc S.length p)):W (dI n f ds S) Q:=by
 obtain⟨⟨d,b⟩,e,q⟩:=h;exact⟨_,rA e hn a,q⟩
theorem fC{n:Nat}{f:FN}{ds:List D}{S:Sto}{Q:D×Sto->Prop}(hn:ds.length=n)(a:D.unds 0 ds=M)(h:W (f ds []) λp=>p.1.und 0=M/\Q (p.1,S)):W (dI n f ds S) Q:=by
 obtain⟨⟨d,g⟩,e,c,b⟩:=h;exact⟨_,zX e hn a c,b⟩
mutual
theorem ig{n:Nat}:∀{d:D},d.und 0=M->d.und n=M
 | .non,_=>rfl
 | .bl _,_=>rfl
 | .int _,_=>rfl
 | .str _,_=>rfl
 | .tup xs,h=>by rw[D.und]at h ⊢;exact iQ h
 | .rol xs,h=>by rw[D.und]at h ⊢;exact iQ h
 | .fn _,_=>rfl
 | .ref k,h=>by simp[D.und]at h
theorem iQ{n:Nat}:∀{ds:List D},D.unds 0 ds=M->D.unds n ds=M
 |[],_=>rfl
 |d::ds,h=>by
  rw[D.unds,bA1]at h ⊢;exact⟨ig h.1,iQ h.2⟩
end
theorem ma{n:Nat}{f:FN}{ds:List D}{o:Ob}{T:Sto}{Q:D×Sto->Prop}(hn:ds.length=n)(c:D.unds 0 ds=J)(a:T.all (Ob.und (T.length+1))=M)(h:W (f ds (o::T)) λp=>∃d o' G,p=(d,o'::(T++G))/\d.und 0=M/\o'.und (T.length+1)=M/\Q (d,o'::T)):W (dI n f ds (o::T)) Q:=by
 refine vk hn c (h.mono ?_);rintro p ⟨d,o',G,rfl,b,g,q⟩;have e:(o'::(T++G)).take (T.length+1)=o'::T:=by simp
 unfold gc;dsimp only[lC1];rw[ak (by rw[e,ig b,bN,g,a];rfl),e];exact q
theorem eN{c:List (Nat×List D)}{g:FG}{b:FS}{Q:Fl×Ev×Sto->Prop}(I:Nat->Ev->Sto->Prop):∀ (items:List D) (k:Nat) (r:Ev) (S:Sto),I k r S ->
  (∀i r S,I i r S->pP S c=M) ->
  (∀i d,items[i]?=Z d -> ∀r S,I (k+i) r S->W (g d r S) λp=>W (b p.1 p.2) λq=>q.1 = .nx/\I (k+i+1) q.2.1 q.2.2) ->
  (∀r S,I (k+items.length) r S->Q (.nx,r,S))->W (jo c g b items r S) Q
 |[],k,r,S,hi,hok,_,hq=>by rw[jo];dsimp only;rw[ak (hok _ _ _ hi),dV];exact hq r S (by simpa using hi)
 |d::ds,k,r,S,hi,hok,hs,hq=>by
  rw[jo];dsimp only;rw[ak (hok _ _ _ hi),dN];obtain⟨p,m,h1⟩:=hs 0 d O r S (by simpa using hi);refine⟨p,m,?_⟩;dsimp only;rw[dN];obtain⟨⟨f,l,n⟩,o,h2,e⟩:=h1;refine⟨_,o,?_⟩;dsimp only at h2 e ⊢;subst h2;refine eN I ds (k+1) l n (by simpa using e) hok (λi j h r S a=>?_) λr S a=>hq r S (by rw[lC1,show k+(ds.length+1)=k+1+ds.length by lia];exact a);have:=hs (i+1) j (by simpa using h) r S (by rw[show k+(i+1)=k+1+i by lia];exact a);rw[show k+(i+1)+1=k+1+i+1 by lia]at this;exact this
theorem iE{c:List (Nat×List D)}{g:FG}{t:FT}{e:FE}{Q:List D×Ev×Sto->Prop}(I:Nat->List D->Ev->Sto->Prop):∀ (items:List D) (k:Nat) (acc:List D) (r:Ev) (S:Sto),I k acc r S ->
  (∀i acc r S,I i acc r S->pP S c=M) ->
  (∀i d,items[i]?=Z d -> ∀acc r S,I (k+i) acc r S->W (g d r S) λp=>W (t p.1 p.2) λb=>if b.1=M then W (e p.1 b.2) λx=>I (k+i+1) (acc++[x.1]) p.1 x.2 else I (k+i+1) acc p.1 b.2) ->
  (∀xs r S,I (k+items.length) (acc++xs) r S->Q (xs,r,S))->W (fH c g t (ee e) items r S) Q
 |[],k,acc,r,S,hi,hok,_,hq=>by rw[fH];dsimp only;rw[ak (hok _ _ _ _ hi),dV];exact hq [] r S (by simpa using hi)
 |d::ds,k,acc,r,S,hi,hok,hs,hq=>by
  rw[fH];dsimp only;rw[ak (hok _ _ _ _ hi),dN];obtain⟨p,m,h1⟩:=hs 0 d O acc r S (by simpa using hi);refine⟨p,m,?_⟩;dsimp only;rw[dN];obtain⟨⟨b,n⟩,o,h2⟩:=h1;refine⟨_,o,?_⟩;have step:∀i f,ds[i]?=Z f -> ∀acc r S,I (k+1+i) acc r S->W (g f r S) λp=>W (t p.1 p.2) λb=>if b.1=M then W (e p.1 b.2) λx=>I (k+1+i+1) (acc++[x.1]) p.1 x.2 else I (k+1+i+1) acc p.1 b.2:=λi f j acc r S a=>by
   have:=hs (i+1) f (by simpa using j) acc r S (by rw[show k+(i+1)=k+1+i by lia];exact a);rw[show k+(i+1)+1=k+1+i+1 by lia]at this;exact this
  dsimp only at h2 ⊢;cases b with
  |true=>
   rw[ak O]at h2 ⊢;rw[dN,ee,k6];obtain⟨⟨x,l⟩,q,h⟩:=h2;refine⟨_,q,?_⟩;dsimp only at h ⊢;rw[k6];refine iE I ds (k+1) (acc++[x]) p.1 l (by simpa using h) hok step λxs r S a=>?_;refine hq _ r S ?_;rw[lC1,show k+(ds.length+1)=k+1+ds.length by lia];simpa using a
  |false=>
   rw[aj (by decide)]at h2 ⊢;refine iE I ds (k+1) acc p.1 n (by simpa using h2) hok step λxs r S a=>?_;refine hq _ r S ?_;rw[lC1,show k+(ds.length+1)=k+1+ds.length by lia];exact a
theorem HD{S:Sto}{b:Bool}:vO S (.bl b)=Z b:=rfl
theorem Mx{S:Sto}:vO S .non=Z J:=rfl
theorem My{S:Sto}{i:Int}:vO S (.int i)=Z (i != 0):=rfl
theorem Gm{x y:Int}{S:Sto}:gEq (.int x) (.int y) S=Z (.bl (x == y),S):=rfl
theorem Ge{x y:Int}{S:Sto}:wm (.int x) (.int y) S=Z (.bl (!(x == y)),S):=rfl
theorem Gh{x y:Int}{S:Sto}:gLt (.int x) (.int y) S=Z (.bl (decide (x<y)),S):=rfl
theorem Gk{x y:Str}{S:Sto}:gEq (.str x) (.str y) S=Z (.bl (x == y),S):=rfl
theorem ML{x y:Str}{S:Sto}:wm (.str x) (.str y) S=Z (.bl (!(x == y)),S):=rfl
theorem ite_and'{c p:Prop}[Decidable c]:(if c then p else False)↔c/\p:=by split<;>simp[*]
noncomputable def yr(j:Int):Bool:=decide (-(2^62)<=j)&&decide (j<2^62)
theorem eL{n:Nat}(h:n<2^60):yr n=M:=by
 unfold yr;rw[bA1,am,am];lia
theorem Dq{j:Int}(h: -(2^60)<=j)(h':j<2^60):yr j=M:=by
 unfold yr;rw[bA1,am,am];lia
def KC(p:List D×Sto)(Q:Ah×Sto->Prop):Prop:=match p.1 with
 |[.int j]=>yr j=M/\Q (⟨fX 0 j.toNat,[]⟩,p.2)
 |_=>False
def MB(p:List D×Sto)(Q:Ah×Sto->Prop):Prop:=match p.1 with
 |[.int i,.int j]=>yr i=M/\yr j=M/\Q (⟨fX i (j-i).toNat,[]⟩,p.2)
 |_=>False
theorem DP{m:FA}{r:Ev}{S:Sto}{Q:Ah×Sto->Prop}:W (nJ m r S) Q↔W (m r S) λp=>KC p Q:=by
 unfold nJ;rw[dN];constructor
 ·refine λh=>h.mono λp q=>?_;unfold KC;split at q
  ·rename_i j e
   try rw[e]
   rw[vr]at q;split at q
   ·rename_i hc;exact⟨by unfold yr;rw[bA1,am,am];exact hc,dV.mp q⟩
   ·exact(lp.mp q).elim
  ·exact(lp.mp q).elim
 ·refine λh=>h.mono λp q=>?_;unfold KC at q;split at q
  ·rename_i j e;obtain⟨a,b⟩:=q;unfold yr at a;rw[bA1,am,am]at a
   try rw[e]
   try dsimp only
   rw[ak a];exact dV.mpr b
  ·exact q.elim
theorem Ml{m:FA}{r:Ev}{S:Sto}{Q:Ah×Sto->Prop}:W (KD m r S) Q↔W (m r S) λp=>MB p Q:=by
 unfold KD;rw[dN];constructor
 ·refine λh=>h.mono λp q=>?_;unfold MB;split at q
  ·rename_i i j e
   try rw[e]
   rw[vr]at q;split at q
   ·rename_i hc;refine⟨?_,?_,dV.mp q⟩
    ·unfold yr;rw[bA1,am,am];exact⟨hc.1,hc.2.1⟩
    ·unfold yr;rw[bA1,am,am];exact hc.2.2
   ·exact(lp.mp q).elim
  ·exact(lp.mp q).elim
 ·refine λh=>h.mono λp q=>?_;unfold MB at q;split at q
  ·rename_i i j e;obtain⟨a,b,c⟩:=q;unfold yr at a b;rw[bA1,am,am]at a b
   try rw[e]
   try dsimp only
   rw[ak ⟨a.1,a.2,b⟩];exact dV.mpr c
  ·exact q.elim
noncomputable def fits(n:Nat):Bool:=decide (n<=dy)
theorem dR{n:Nat}(h:n<=100000):fits n=M:=by unfold fits;rw[am];exact aD h (by decide)
theorem uX{n:Nat}:fits n=M↔n<=dy:=by unfold fits;rw[am]
theorem O1:fits 0=M:=dR (by decide)
theorem O0:fits 1=M:=dR (by decide)
theorem Of:fits 2=M:=dR (by decide)
theorem OZ:fits 3=M:=dR (by decide)
theorem OY:fits 4=M:=dR (by decide)
theorem OX:fits 5=M:=dR (by decide)
theorem Pa:fits 6=M:=dR (by decide)
theorem O9:fits 7=M:=dR (by decide)
theorem O8:fits 8=M:=dR (by decide)
theorem iM{α:Type}{n:Nat}{o:Option α}{Q:α->Prop}:W (if n<=dy then o else Y) Q↔fits n=M/\W o Q:=by
 rw[uX,vr];split
 ·rename_i h;exact⟨λq=>⟨h,q⟩,λq=>q.2⟩
 ·rename_i h;exact⟨λq=>(lp.mp q).elim,λq=>absurd q.1 h⟩
theorem DO{a:FA}{r:Ev}{S:Sto}{Q:D×Sto->Prop}:W (eH a r S) Q↔W (a r S) λp=>fits p.1.length=M/\Q (.tup p.1,p.2):=by
 unfold eH;rw[dN];exact⟨λh=>h.mono λp q=>(iM.mp q).imp_right dV.mp,λh=>h.mono λp q=>iM.mpr (q.imp_right dV.mpr)⟩
theorem Kl{a:FA}{r:Ev}{S:Sto}{Q:D×Sto->Prop}:W (g6 a r S) Q↔W (a r S) λp=>fits p.1.length=M/\Q (.ref p.2.length,p.2++[.lst p.1]):=by
 unfold g6;rw[dN];exact⟨λh=>h.mono λp q=>(iM.mp q).imp_right dV.mp,λh=>h.mono λp q=>iM.mpr (q.imp_right dV.mpr)⟩
theorem mn{k:Nat}{keep:List Nat}{m:FI}{g:FG}{t:FT}{b:FV}{r:Ev}{S:Sto}{Q:D×Sto->Prop}:W (eA k keep m g t b r S) Q↔W (m r S) λp=>W (fH p.1.chk g t b p.1.items (uQ k keep r) p.2) λq=>fits q.1.length=M/\Q (.ref q.2.2.length,q.2.2++[.lst q.1]):=by
 unfold eA;rw[dN];refine⟨λh=>h.mono λp q=>?_,λh=>h.mono λp q=>?_⟩
 ·rw[dN]at q;exact q.mono λz w=>(iM.mp w).imp_right dV.mp
 ·rw[dN];exact q.mono λz w=>iM.mpr (w.imp_right dV.mpr)
theorem NV{xs ys:List D}{S:Sto}{Q:D×Sto->Prop}:W (fY (.tup xs) (.tup ys) S) Q↔fits (xs.length+ys.length)=M/\Q (.tup (xs++ys),S):=
 ⟨λq=>(iM.mp q).imp_right dV.mp,λq=>iM.mpr (q.imp_right dV.mpr)⟩
theorem DS{x y:Int}{S:Sto}{Q:D×Sto->Prop}:W (fY (.int x) (.int y) S) Q↔Q (.int (x+y),S):=dV
theorem DR{a b:Nat}{xs ys:List D}{S:Sto}{Q:D×Sto->Prop}(h1:S[a]?=Z (.lst xs))(h2:S[b]?=Z (.lst ys)):W (fY (.ref a) (.ref b) S) Q↔fits (xs.length+ys.length)=M/\Q (.ref S.length,S++[.lst (xs++ys)]):=by
 rw[fY];simp only[h1,h2];exact⟨λq=>(iM.mp q).imp_right dV.mp,λq=>iM.mpr (q.imp_right dV.mpr)⟩
theorem k7{n:Nat}{v:D}{xs:List D}{S:Sto}{Q:D×Sto->Prop}(h:S[n]?=Z (.lst xs)):W (iJ (.ref n) v S) Q↔fits (xs.length+1)=M/\Q (.non,S.set n (.lst (xs++[v]))):=by
 rw[iJ];simp only[h];rw[vr,uX];split
 ·rename_i a;exact⟨λq=>⟨a,dV.mp q⟩,λq=>dV.mpr q.2⟩
 ·rename_i a;exact⟨λq=>(lp.mp q).elim,λq=>absurd q.1 a⟩
theorem j1{n:Nat}{i:Nat}{xs:List D}{x:D}{S:Sto}{Q:D×Sto->Prop}(h:S[n]?=Z (.lst xs))(hx:xs[i]?=Z x)(q:Q (x,S)):W (dL (.ref n) (.int i) S) Q:=by
 refine W.of (x:=(x,S)) ?_ q;have a:=(R1 hx).1;simp only[dL,mQ,D2,h,dZ,wG,zy,oS1,ak (show(0:Int)<=i by lia)];rw[ak (by lia)];simp[hx]
theorem hP{i:Nat}{xs:List D}{x:D}{S:Sto}{Q:D×Sto->Prop}(hx:xs[i]?=Z x)(q:Q (x,S)):W (dL (.tup xs) (.int i) S) Q:=by
 refine W.of (x:=(x,S)) ?_ q;have a:=(R1 hx).1;simp only[dL,mQ,D2,dZ,wG,zy,oS1,ak (show(0:Int)<=i by lia)];rw[ak (by lia)];simp[hx]
theorem OO:aP 0 (Y:Option D)=[]:=rfl
theorem ON:aP 1 (Y:Option D)=[Y]:=rfl
theorem OE:aP 2 (Y:Option D)=[Y,Y]:=rfl
theorem OC:aP 3 (Y:Option D)=[Y,Y,Y]:=rfl
theorem OB:aP 4 (Y:Option D)=[Y,Y,Y,Y]:=rfl
theorem OA:aP 5 (Y:Option D)=[Y,Y,Y,Y,Y]:=rfl
theorem Oz:aP 6 (Y:Option D)=[Y,Y,Y,Y,Y,Y]:=rfl
theorem Oy:aP 7 (Y:Option D)=[Y,Y,Y,Y,Y,Y,Y]:=rfl
theorem Ox:aP 8 (Y:Option D)=[Y,Y,Y,Y,Y,Y,Y,Y]:=rfl
theorem O7:aP 9 (Y:Option D)=[Y,Y,Y,Y,Y,Y,Y,Y,Y]:=rfl
theorem K8:aP 10 (Y:Option D)=[Y,Y,Y,Y,Y,Y,Y,Y,Y,Y]:=rfl
theorem OM:aP 11 (Y:Option D)=[Y,Y,Y,Y,Y,Y,Y,Y,Y,Y,Y]:=rfl
theorem Nh:aP 12 (Y:Option D)=[Y,Y,Y,Y,Y,Y,Y,Y,Y,Y,Y,Y]:=rfl
theorem OL:aP 13 (Y:Option D)=[Y,Y,Y,Y,Y,Y,Y,Y,Y,Y,Y,Y,Y]:=rfl
theorem OK:aP 14 (Y:Option D)=[Y,Y,Y,Y,Y,Y,Y,Y,Y,Y,Y,Y,Y,Y]:=rfl
theorem OJ:aP 15 (Y:Option D)=[Y,Y,Y,Y,Y,Y,Y,Y,Y,Y,Y,Y,Y,Y,Y]:=rfl
theorem OI:aP 16 (Y:Option D)=[Y,Y,Y,Y,Y,Y,Y,Y,Y,Y,Y,Y,Y,Y,Y,Y]:=rfl
theorem OH:aP 17 (Y:Option D)=[Y,Y,Y,Y,Y,Y,Y,Y,Y,Y,Y,Y,Y,Y,Y,Y,Y]:=rfl
theorem OG:aP 18 (Y:Option D)=[Y,Y,Y,Y,Y,Y,Y,Y,Y,Y,Y,Y,Y,Y,Y,Y,Y,Y]:=rfl
theorem OF:aP 19 (Y:Option D)=[Y,Y,Y,Y,Y,Y,Y,Y,Y,Y,Y,Y,Y,Y,Y,Y,Y,Y,Y]:=rfl
theorem OD:aP 20 (Y:Option D)=[Y,Y,Y,Y,Y,Y,Y,Y,Y,Y,Y,Y,Y,Y,Y,Y,Y,Y,Y,Y]:=rfl
theorem eO{α:Type}{T G:List α}{k:Nat}:(T++G)[T.length+k]?=G[k]?:=by rw[gR1 (by lia)];congr 1;lia
theorem dQ{α:Type}{T G:List α}:(T++G)[T.length]?=G[0]?:=by rw[gR1 (by lia)];congr 1;lia
theorem x2{S:Sto}{i j:Nat}{xs:List D}(h:S[i]?=Z (.lst xs))(h':S[j]?=Z (.lst [])):wm (.ref i) (.ref j) S=Z (.bl (!xs.isEmpty),S):=by
 unfold wm d8;rw[show(60:Nat)=59+1 from rfl,i7];simp only[dZ,h,h'];cases xs with
 |nil=>simp[wz]
 |cons x xs=>simp
theorem nS:∀(n:Nat) (lo:Int),fX lo n=(af n).map λi:Nat=>D.int (lo+i)
 |0,lo=>rfl
 |n+1,lo=>by
  rw[fX,nS n (lo+1),List.range_succ_eq_map,mP1,bu]
  congr 1
  ·simp
  ·apply cM;intro i _;simp only[Function.comp_apply,Nat.succ_eq_add_one]
   congr 1
   push_cast
   lia
theorem kR(n:Nat):fX 0 n=(af n).map λi:Nat=>D.int i:=by
 rw[nS];apply cM;intro i _;simp
theorem js{α:Type}{c:List (Nat×List D)}{g:FG}{t:FT}{e:FE}{S:Sto}{f:α->D}{Q:List D×Ev×Sto->Prop}(F:α->D)(P:Ev->Prop)(d:pP S c=true):∀ (xs:List α) (r:Ev),P r ->
  (∀a∈xs,∀r,P r->W (g (f a) r S) λp=>W (t p.1 p.2) λb=>b.1=M/\W (e p.1 b.2) λx=>x.1=F a/\x.2=S/\P p.1) ->
  (∀i,P i->Q (xs.map F,i,S))->W (fH c g t (ee e) (xs.map f) r S) Q
 |[],r,hr,_,h=>by rw[aZ,fH];dsimp only;rw[ak d,dV];exact h r hr
 |a::xs,r,hr,hs,h=>by
  rw[mP1,fH];dsimp only;rw[ak d,dN];obtain⟨p,n,⟨b,o,u,⟨x,s,m,l,q⟩⟩⟩:=hs a mS1 r hr;refine⟨p,n,?_⟩;dsimp only;rw[dN];refine⟨b,o,?_⟩;dsimp only;rw[ak u,dN,ee,k6];refine⟨x,s,?_⟩;dsimp only;rw[l,k6];refine js F P d xs p.1 q (λa k=>hs a (mC1 _ k)) λi j=>?_;have:=h i j;rw[mP1,<- m]at this;exact this
theorem iH{α:Type}{c:List (Nat×List D)}{g:FG}{t:FT}{e:FE}{S:Sto}{f:α->D}{Q:List D×Ev×Sto->Prop}(k:α->Bool)(F:α->D)(P:Ev->Prop)(d:pP S c=true):∀ (xs:List α) (r:Ev),P r ->
  (∀a∈xs,∀r,P r->W (g (f a) r S) λp=>W (t p.1 p.2) λb=>b.1=k a/\b.2=S/\P p.1/\(k a=M->W (e p.1 S) λx=>x.1=F a/\x.2=S)) ->
  (∀j,P j->Q ((xs.filter k).map F,j,S))->W (fH c g t (ee e) (xs.map f) r S) Q
 |[],r,hr,_,h=>by rw[aZ,fH];dsimp only;rw[ak d,dV];exact h r hr
 |a::xs,r,hr,hs,h=>by
  rw[mP1,fH];dsimp only;rw[ak d,dN];obtain⟨p,u,⟨b,v,s,o,q,m⟩⟩:=hs a mS1 r hr;refine⟨p,u,?_⟩;dsimp only;rw[dN];refine⟨b,v,?_⟩;dsimp only;cases hk:k a with
  |true=>
   rw[s,hk,ak O,dN,ee,k6,o];obtain⟨x,w,m,n⟩:=m hk;refine⟨x,w,?_⟩;dsimp only;rw[n,k6];refine iH k F P d xs p.1 q (λa l=>hs a (mC1 _ l)) λj i=>?_;have:=h j i;rw[List.filter_cons,hk,ak O,mP1,<- m]at this;exact this
  |false=>
   rw[s,hk,aj (by decide),o];refine iH k F P d xs p.1 q (λa l=>hs a (mC1 _ l)) λj i=>?_;have:=h j i;rw[List.filter_cons,hk,aj (by decide)]at this;exact this
theorem pL{α:Type}{f:α->Bool}:∀xs:List α,Mi.DA (xs.map λx=>D.bl (f x))=Z (xs.all f)
 |[]=>rfl
 |x::xs=>by rw[mP1,Mi.DA,pL xs];rfl
mutual
theorem Hv{n m:Nat}(h:n<=m):∀{d:D},d.und n=M->d.und m=M
 | .non,_=>rfl
 | .bl _,_=>rfl
 | .int _,_=>rfl
 | .str _,_=>rfl
 | .tup xs,q=>by rw[D.und]at q ⊢;exact jc h q
 | .rol xs,q=>by rw[D.und]at q ⊢;exact jc h q
 | .fn _,_=>rfl
 | .ref k,q=>by simp[D.und]at q ⊢;lia
theorem jc{n m:Nat}(h:n<=m):∀{ds:List D},D.unds n ds=M->D.unds m ds=M
 |[],_=>rfl
 |d::ds,q=>by
  rw[D.unds,bA1]at q ⊢;exact⟨Hv h q.1,jc h q.2⟩
end
theorem gW{n m:Nat}(h:n<=m):∀{o:Ob},o.und n=M->o.und m=M
 | .lst xs,q=>by rw[Ob.und]at q ⊢;exact jc h q
 | .dct xs,q=>by rw[Ob.und]at q ⊢;exact jc h q
 | .dcT xs,q=>by rw[Ob.und]at q ⊢;exact jc h q
 | .dcF xs,q=>by rw[Ob.und]at q ⊢;exact jc h q
 | .iset _,_=>rfl
 | .tst _,_=>rfl
theorem Mh{k:Nat}{T G:Sto}(h:T.all (Ob.und (T.length+k))=M)(hg:G.all (Ob.und 0)=M):(T++G).all (Ob.und ((T++G).length+k))=M:=by
 rw[cN,bA1];rw[bA]at h hg;refine⟨bA.mpr λo a=>gW (by rw[lA1];lia) (h o a),bA.mpr λo a=>gW (bi _) (hg o a)⟩
theorem wM{n:Nat}{xs:List Int}{S:Sto}{Q:D×Sto->Prop}(h:S[n]?=Z (.iset xs))(q:Q (.int xs.length,S)):W (rh (.ref n) S) Q:=by
 refine W.of ?_ q;unfold rh;simp only[h]
theorem eE{α:Type}{n:Nat}{f:α->D}:∀{xs:List α},(∀x∈xs,(f x).und n=M)->D.unds n (xs.map f)=M
 |[],_=>rfl
 |x::xs,h=>by rw[mP1,D.unds,h x mS1,eE λy a=>h y (mC1 _ a)];rfl
theorem Oi{x:Nat}:x+1+1=x+2:=rfl
theorem Pg{x:Nat}:x+2+1=x+3:=rfl
theorem Pf{x:Nat}:x+3+1=x+4:=rfl
theorem Pe{x:Nat}:x+4+1=x+5:=rfl
theorem Pd{x:Nat}:x+5+1=x+6:=rfl
theorem Pc{x:Nat}:x+6+1=x+7:=rfl
theorem O3{x:Nat}:x+1+2=x+3:=rfl
theorem hU{xs:List D}{S:Sto}:eD (.tup xs) S=Z (.int xs.length,S):=rfl
theorem MK{xs:List D}{S:Sto}:eD (.rol xs) S=Z (.int xs.length,S):=rfl
theorem LJ{S:Sto}:eD (.str "") S=Z (.int 0,S):=rfl
theorem iC{xs:List D}{S:Sto}:dZ S (.tup xs)=Z (J,xs):=rfl
theorem Mz{xs:List D}{S:Sto}:dZ S (.rol xs)=Z (M,xs):=rfl
theorem yq{xs:List D}{S:Sto}:jT S (.tup xs)=[]:=rfl
theorem MN{xs:List D}{S:Sto}:jT S (.rol xs)=[]:=rfl
theorem fS{n:Nat}{xs:List D}{S:Sto}(h:S[n]?=Z (.lst xs)):dZ S (.ref n)=Z (M,xs):=by simp only[dZ,h]
theorem nY{n:Nat}{xs:List D}{S:Sto}(h:S[n]?=Z (.lst xs)):jT S (.ref n)=[(n,xs)]:=by simp only[jT,h]
def sW(S:Sto)(d:D)(Q:List D×List (Nat×List D)->Prop):Prop:=W (dZ S d) λq=>Q (q.2,jT S d)
theorem ik{xs:List D}{S:Sto}{Q:List D×List (Nat×List D)->Prop}:sW S (.tup xs) Q↔Q (xs,[]):=dV
theorem ei{n:Nat}{xs:List D}{S:Sto}{Q:List D×List (Nat×List D)->Prop}(h:S[n]?=Z (.lst xs))(q:Q (xs,[(n,xs)])):sW S (.ref n) Q:=by
 unfold sW;rw[fS h,nY h,dV];exact q
theorem Ko{m:FE}{r:Ev}{S:Sto}{Q:Ah×Sto->Prop}:W (g9 m r S) Q↔W (m r S) λp=>sW p.2 p.1 λq=>Q (⟨q.1,q.2⟩,p.2):=by
 unfold g9;rw[dN];refine⟨λh=>h.mono λp q=>?_,λh=>h.mono λp q=>?_⟩
 ·rw[dN]at q;exact q.mono λz w=>dV.mp w
 ·rw[dN];exact W.mono (show W (dZ p.2 p.1) _ from q) λz w=>dV.mpr w
theorem Kq{d:D}{S:Sto}{Q:D×Sto->Prop}:W (Mi.gTup d S) Q↔sW S d λq=>Q (.tup q.1,S):=by
 unfold Mi.gTup;rw[k6];exact Iff.rfl
theorem Mk{n:Nat}{S:Sto}{Q:D×Sto->Prop}:W (eD (.ref n) S) Q↔sW S (.ref n) λq=>Q (.int q.1.length,S):=by
 unfold eD sW;rw[k6]
noncomputable def pD(e:Nat×Nat):D:=.tup [.int e.1,.int e.2]
theorem wx{S:Sto}{n:Nat}{a b:Nat×Nat}:i7 S (n+2) (pD a) (pD b)=Z (a == b):=by
 obtain⟨a1,a2⟩:=a;obtain⟨b1,b2⟩:=b;rw[i7];have d:∀x y:Nat,i7 S (n+1) (.int x) (.int y)=Z ((x:Int) == (y:Int)):=λx y=>rfl;have c:∀x y:Nat,((x:Int) == (y:Int))=(x == y):=λx y=>by
  rw[bO,RO,RO];lia
 simp[pD,dZ,wz,d,c];rfl
theorem yj{S:Sto}{n:Nat}{e:Nat×Nat}:∀row:List (Nat×Nat),p9 (i7 S (n+2)) (pD e) (row.map pD)=Z (row.map λa=>a == e)
 |[]=>rfl
 |a::row=>by rw[mP1,p9,wx,yj row];rfl
theorem Kn{S:Sto}{n j:Nat}{row:List (Nat×Nat)}{e:Nat×Nat}{Q:D×Sto->Prop}(h:S[n]?=Z (.lst (row.map pD)))(b:row.length<1000)(a:row.findIdx? (· == e)=Z j)(q:Q (.int j,S)):W (CO (.ref n) (pD e) S) Q:=by
 refine W.of ?_ q;unfold CO d8;simp only[h,show(60:Nat)=58+2 from rfl,yj,oS1,lM1];rw[ak (by lia),List.findIdx?_map];simp[Function.comp_def,a]
theorem i9{f:FN}{o:FE}{a:FA}{r:Ev}{S:Sto}{Q:D×Sto->Prop}(h:W (o r S) λp=>∃n xs,p.1 = .ref n/\p.2[n]?=Z (.lst xs)/\W (a r p.2) λq=>W (f (.ref n::q.1) q.2) Q):W (oS f o a r S) Q:=by
 unfold oS;rw[dN];refine h.mono ?_;rintro⟨d,b⟩ ⟨n,xs,rfl,e,q⟩;dsimp only at e q ⊢;rw[e];dsimp only;rw[dN];exact q
def K9(row:List (Nat×Nat)):Ob:=.lst (row.map pD)
structure WS (t m:Nat)(T:Sto)(E:List (List (Nat×Nat)))(P:List (Nat×Nat))(U:Sto):Prop where
 tl:T.length=t
 low:U.take t=T
 el:E.length=m
 row:∀i row,E[i]?=some row->U[t+i]?=some (K9 row)
 ends:U[t+m]?=some (.lst (jG (t+1) m))
 prs:U[t+m+1]?=some (.lst (P.map pD))
theorem WS.app{t m:Nat}{T:Sto}{E:List (List (Nat×Nat))}{P:List (Nat×Nat)}{U G:Sto}(w:WS t m T E P U):WS t m T E P (U++G):=by
 have a:t+m+1<U.length:=(R1 w.prs).1;refine⟨w.tl,?_,w.el,λi row h=>?_,?_,?_⟩
 ·rw[List.take_append_of_le_length (by omega)];exact w.low
 ·have:=w.row i row h;rw[gL1 (R1 this).1];exact this
 ·rw[gL1 (by omega)];exact w.ends
 ·rw[gL1 (by omega)];exact w.prs
theorem sw:∀{k n i:Nat},i<k->(jG n k)[i]?=Z (.ref (n+i))
 |k+1,n,0,_=>rfl
 |k+1,n,i+1,h=>by rw[jG,gC1,sw (Nat.lt_of_succ_lt_succ h),show n+1+i=n+(i+1) by lia]
theorem lI:∀k n:Nat,(jG n k).length=k
 |0,_=>rfl
 |k+1,n=>by rw[jG,lC1,lI]
noncomputable def tot(E:List (List (Nat×Nat))):Nat:=(E.map List.length).sum
noncomputable def nmD(rs:List Nat):List D:=rs.map λi:Nat=>D.int i
theorem ej(rs:List Nat):(nmD rs).length=rs.length:=by simp[nmD]
theorem fx(rs:List Nat):D.unds 0 (nmD rs)=M:=eE λ_ _=>rfl
abbrev Wk:=Nat×Nat×Nat
noncomputable def gz(w:Wk):D:=.tup [.int w.1,.int w.2.1,.int w.2.2]
def fu(ws:List Wk):List D:=ws.map gz
theorem wW(ws:List Wk):(fu ws).length=ws.length:=by simp[fu]
theorem wV(ws:List Wk):D.unds 0 (fu ws)=M:=eE λ_ _=>rfl
def eF(ws:List Wk)(cs:List Nat):D:=.tup [.tup (fu ws),.tup (nmD cs)]
theorem ia{ws:List Wk}{cs:List Nat}:(eF ws cs).und 0=M:=by simp[eF,D.und,D.unds,wV,fx]
noncomputable def gg(a b c d:Bool):List D:=(if a then[.str "came"]else[])++(if b then[.str "chalk"]else[])++(if c then[.str "doors"]else[])++(if d then[.str "others"]else[])
theorem CW {xs:List D}(h:xs.Sublist [.str "came",.str "chalk",.str "doors",.str "others"]):∃a b c d,xs=gg a b c d:=by
 have one:∀{x:D} {l ys:List D},ys.Sublist (x::l) -> ∃(a:Bool) (zs:List D),zs.Sublist l/\ys=(if a then[x]else[])++zs:=by
  intro x l ys h;cases h with
  |cons _ h=>exact⟨J,ys,h,O⟩
  |cons_cons _ h=>exact⟨M,_,h,O⟩
 obtain⟨a,k,h1,rfl⟩:=one h;obtain⟨b,i,h2,rfl⟩:=one h1;obtain⟨c,j,e,rfl⟩:=one h2;obtain⟨d,g,f,rfl⟩:=one e;have:g=[]:=List.eq_nil_of_sublist_nil f;subst this;exact⟨a,b,c,d,by simp[gg]⟩
theorem CY(a b c d:Bool):(gg a b c d).length<=4:=by cases a<;>cases b<;>cases c<;>cases d<;>decide
theorem uZ(a b c d:Bool):D.unds 0 (gg a b c d)=M:=by cases a<;>cases b<;>cases c<;>cases d<;>rfl
theorem Ga{a b c d:Bool}{S:Sto}:jR (.str "came") (.tup (gg a b c d)) S=Z (.bl a,S):=by cases a<;>cases b<;>cases c<;>cases d<;>rfl
theorem CA{a b c d:Bool}{S:Sto}:jR (.str "chalk") (.tup (gg a b c d)) S=Z (.bl b,S):=by cases a<;>cases b<;>cases c<;>cases d<;>rfl
theorem Cz{a b c d:Bool}{S:Sto}:jR (.str "doors") (.tup (gg a b c d)) S=Z (.bl c,S):=by cases a<;>cases b<;>cases c<;>cases d<;>rfl
theorem zF{a b c d:Bool}{S:Sto}:jR (.str "others") (.tup (gg a b c d)) S=Z (.bl d,S):=by cases a<;>cases b<;>cases c<;>cases d<;>rfl
theorem sY{S:Sto}{n:Nat}{x:Nat}:∀a:List Nat,D0 (i7 S (n+1)) (.int x) (nmD a)=Z (a.contains x)
 |[]=>rfl
 |c::a=>by
  have b:i7 S (n+1) (.int c) (.int x)=Z ((c:Int) == (x:Int)):=rfl;have d:((c:Int) == (x:Int))=(x == c):=by
   rw[bO,RO,RO];lia
  have ih:=sY (S:=S) (n:=n) (x:=x) a;rw[nmD,mP1,D0,b,d];rw[nmD]at ih;rw[ih,b5];rfl
theorem Cy{S:Sto}{x:Nat}{cs:List Nat}:jR (.int x) (.tup (nmD cs)) S=Z (.bl (cs.contains x),S):=by
 simp only[jR,wp,KE,dZ,oS1,d8,show(60:Nat)=59+1 from rfl,sY,oP1]
noncomputable def vS(a b c d:Bool)(came chalk doors others:Int):D:=.tup [if a then .int came else .non,if b then .int chalk else .non,if c then .int doors else .non,if d then .int others else .non]
theorem yW{a b c d:Bool}{w x y z:Int}:(vS a b c d w x y z).und 0=M:=by cases a<;>cases b<;>cases c<;>cases d<;>rfl
theorem Cr{κ:Type}[DecidableEq κ]{k:κ}:dU ([]:List (κ×D)) k=Y:=rfl
theorem fV{κ:Type}[DecidableEq κ]{k a:κ}{d:D}{r:List (κ×D)}:dU ((a,d)::r) k=if a=k then Z d else dU r k:=by
 unfold dU;rw[bc];by_cases h:a=k
 ·simp[h]
 ·simp[h]
theorem oW{κ:Type}[DecidableEq κ]{k:κ}{b:List (κ×D)}:∀{a:List (κ×D)},dU (a++b) k=(dU a k).or (dU b k)
 |[]=>rfl
 |(x,d)::a=>by
  rw[bj,fV,fV,oW (a:=a)];split<;>rfl
theorem kl{κ:Type}[DecidableEq κ]{k:κ}:∀{a:List (κ×D)},(a.any λp=>decide (p.1=k))=J->dU a k=Y
 |[],_=>rfl
 |(x,d)::a,h=>by
  simp only[bd,Bool.or_eq_false_iff,decide_eq_false_iff_not]at h;rw[fV,aj h.1];exact kl h.2
theorem mH{κ:Type}[DecidableEq κ]{k k':κ}{v:D}:∀{a:List (κ×D)},(a.any λp=>decide (p.1=k))=M->dU (a.map λp=>if p.1=k then(p.1,v)else p) k'=if k'=k then Z v else dU a k'
 |[],h=>by simp at h
 |(x,d)::a,h=>by
  rw[mP1];by_cases f:x=k
  ·subst f;rw[ak (show(x,d).1=x from rfl)];rw[fV,fV];by_cases c:k'=x
   ·subst c;simp
   ·rw[aj (Pr c),aj (Pr c),aj c];by_cases g:(a.any λp=>decide (p.1=x))=M
    ·rw[mH g,aj c]
    ·have:(a.map fun p=>if p.1=x then (p.1,v) else p)=a:=by
      have e:(a.any λp=>decide (p.1=x))=J:=cO.mpr g;rw[List.any_eq_false]at e
      conv=>rhs;rw[<- List.map_id a]
      apply cM;intro p i;have:=e p i;simp at this;simp[this]
     rw[this]
  ·simp only[bd,ai f,Bool.false_or]at h;rw[aj (show¬ (x,d).1=k from f)];rw[fV,fV,mH h];by_cases b:x=k'
   ·subst b;simp[f]
   ·simp[b]
theorem ft{κ:Type}[DecidableEq κ]{k k':κ}{v:D}{a:List (κ×D)}:dU (gU a k v) k'=if k'=k then Z v else dU a k':=by
 unfold gU;split
 ·rename_i h;exact mH h
 ·rename_i h;have h':(a.any λp=>decide (p.1=k))=J:=cO.mpr h;rw[oW,fV,Cr];by_cases b:k'=k
  ·subst b;rw[kl h',ak O];rfl
  ·rw[aj (Pr b),aj b];cases dU a k'<;>rfl
theorem sy{κ:Type}[DecidableEq κ]{k:κ}{v:D}{a:List (κ×D)}:(gU a k v).length<=a.length+1:=by
 unfold gU;split
 ·rw[lM1];lia
 ·rw[lA1];simp
theorem H0{κ:Type}[DecidableEq κ]{k:κ}{v:D}{a:List (κ×D)}:gU a k v≠[]:=by
 unfold gU;split
 ·rename_i h;intro z;cases a with
  |nil=>simp at h
  |cons x xs=>simp at z
 ·simp
noncomputable def dO(F:List (TK×D)):Ob:=if F=[]then .dct []else .dcT F
theorem wL{U:Sto}{n:Nat}{F:List (TK×D)}{key v:D}{k:TK}{Q:D×Sto->Prop}(h:U[n]?=Z (dO F))(hk:keyT key=Z k)(b:F.length<1000)(q:Q (.non,U.set n (dO (gU F k v)))):W (jp (.ref n) key v U) Q:=by
 refine W.of ?_ q;unfold dO at h ⊢;rw[aj H0];by_cases a:F=[]
 ·subst a;rw[ak O]at h;simp only[jp,h,hk];rfl
 ·rw[aj a]at h;simp only[jp,h,hk,oS1];rw[ak (nL1 b (by decide))]
theorem DQ{U:Sto}{n:Nat}{F:List (TK×D)}{key v:D}{k:TK}{Q:D×Sto->Prop}(h:U[n]?=Z (dO F))(hk:keyT key=Z k)(hv:dU F k=Z v)(q:Q (v,U)):W (dL (.ref n) key U) Q:=by
 refine W.of ?_ q;unfold dO at h;by_cases a:F=[]
 ·subst a;cases hv
 ·rw[aj a]at h;simp only[dL,h,hk,oS1,hv,oP1]
noncomputable def KA(e:Nat×Nat):TK:=.tup [.int e.1,.int e.2]
theorem DN{U:Sto}{n i:Nat}{xs:List D}{x:D}{Q:D×Sto->Prop}(h:U[n]?=Z (.lst xs))(hx:xs[i]?=Z x)(hb:i<1000)(q:Q (x,U.set n (.lst (xs.eraseIdx i)))):W (zJ (.ref n) (.int i) U) Q:=by
 have a:=(R1 hx).1;refine W.of ?_ q;simp only[zJ,h];rw[ak ⟨by lia,by lia⟩];simp only[zy,ak (show(0:Int)<=i by lia)];rw[ak (by lia)];simp[hx]
theorem CN{d:D}{S G:Sto}(hd:d.und 0=M)(a:S.all (Ob.und S.length)=M):gc S.length (d,S++G)=(d,S):=by
 unfold gc;dsimp only;rw[List.take_left,ak (by rw[ig hd,a];rfl)]
theorem CM{d:D}{S V:Sto}(hd:d.und 0=M)(a:S.all (Ob.und S.length)=M)(hp:S <+: V):gc S.length (d,V)=(d,S):=by
 obtain⟨G,rfl⟩:=hp;exact CN hd a
theorem DH{m:FA}{r:Ev}{S:Sto}{xs ys:List D}{n:Nat}{Q:Ah×Sto->Prop}(hm:m r S=Z ([.tup xs,.ref n],S))(hn:S[n]?=Z (.lst ys))(q:Q (⟨wS xs ys,[(n,ys)]⟩,S)):W (He m r S) Q:=by
 refine W.of (x:=(⟨wS xs ys,[(n,ys)]⟩,S)) ?_ q;simp only[He,hm,oS1,iC,fS hn,yq,nY hn,cP]
theorem vF{α:Type}{f g:α->D}:∀l:List α,wS (l.map f) (l.map g)=l.map λx=>D.tup [f x,g x]
 |[]=>rfl
 |a::l=>by rw[mP1,mP1,wS,vF l];rfl
theorem rR{m:FA}{r:Ev}{S:Sto}{xs:List D}{Q:Ah×Sto->Prop}(hm:m r S=Z ([.tup xs],S))(q:Q (⟨u5 0 xs,[]⟩,S)):W (p7 m r S) Q:=by
 refine W.of (x:=(⟨u5 0 xs,[]⟩,S)) ?_ q;simp only[p7,hm,oS1,iC,yq]
theorem wA{α:Type}{f:α->D}:∀(l:List α) (k:Nat),u5 k (l.map f)=(l.zipIdx k).map λp=>D.tup [.int (p.2:Nat),f p.1]
 |[],_=>rfl
 |a::l,k=>by rw[mP1,u5,wA l (k+1),List.zipIdx_cons];rfl
theorem qi{α:Type}{l:List α}{p:α×Nat}(h:p∈l.zipIdx):l[p.2]?=Z p.1:=by
 have:=cQ.mp h;exact this
theorem vG{α β:Type}(f:α->β)(l:List α):(l.zipIdx.map λp=>f p.1)=l.map f:=by
 have:(λp:α×Nat=>f p.1)=f∘Prod.fst:=rfl;rw[this,<- bu,List.zipIdx_map_fst]
mutual
theorem Bc{n:Nat}:∀{d:D},d.und 0=M->d.sh n=d
 | .non,_=>rfl
 | .bl _,_=>rfl
 | .int _,_=>rfl
 | .str _,_=>rfl
 | .tup xs,h=>by rw[D.und]at h;rw[D.sh,lC h]
 | .rol xs,h=>by rw[D.und]at h;rw[D.sh,lC h]
 | .fn _,_=>rfl
 | .ref k,h=>by simp[D.und]at h
theorem lC{n:Nat}:∀{ds:List D},D.unds 0 ds=M->D.shs n ds=ds
 |[],_=>rfl
 |d::ds,h=>by
  rw[D.unds,bA1]at h;rw[D.shs,Bc h.1,lC h.2]
end
theorem Mb{n:Nat}{f:FN}{ds:List D}{S:Sto}{Q:D×Sto->Prop}(hn:ds.length=n)(c:D.unds 0 ds=M)(h:W (f ds []) λp=>∃xs,p=(.ref 0,[.lst xs])/\D.unds 0 xs=M/\Q (.ref S.length,S++[.lst xs])):W (dI n f ds S) Q:=by
 obtain⟨p,e,xs,rfl,a,q⟩:=h;refine⟨_,pB e hn c O,?_⟩;have b:(D.ref 0).sh S.length = .ref S.length:=rfl;have d:[Ob.lst xs].map (Ob.sh S.length)=[Ob.lst xs]:=by rw[mP1,aZ,Ob.sh,lC a]
 rw[b,d];exact q
theorem Jh{ns:List Int}{k:Int}:k∈ddI ns↔k∈ns:=by
 have b:∀(ns a:List Int),k∈ns.foldl Rz a↔k∈a\/k∈ns:=by
  intro ns
  induction ns with
  |nil=>intro a;simp
  |cons n ns ih=>
   intro a;rw[b4,ih];have:k∈Rz a n↔k∈a\/k=n:=by
    unfold Rz;split
    ·rename_i h;obtain⟨x,c,e⟩:=bP.mp h;have e:=RO.mp e;subst e;constructor
     ·exact .inl
     ·rintro(z|z)
      ·exact z
      ·rw[z];exact c
    ·simp
   rw[this,aF,or_assoc]
 unfold ddI;rw[b];simp
theorem Et{xs:List Nat}{m:Nat}{f:Nat->Bool}(h:∀r,r∈xs↔r<m/\f r=M):iB (ddI (xs.map λ(r:Nat)=>(r:Int)))=((af m).filter f).map λ(r:Nat)=>(r:Int):=by
 refine nP ?_ (jz _) ?_
 ·refine(fK _).trans ?_;refine(List.perm_ext_iff_of_nodup (l6 _ [] bp) ?_).mpr λk=>?_
  ·refine cR.mpr ((List.nodup_range.filter f).imp λb z=>b (by lia))
  ·show k∈ddI _↔_;rw[Jh,cf,cf];constructor
   ·rintro⟨r,a,rfl⟩;exact⟨r,aB.mpr ⟨aC.mpr ((h r).mp a).1,((h r).mp a).2⟩,O⟩
   ·rintro⟨r,a,rfl⟩;obtain⟨h1,h2⟩:=aB.mp a;exact⟨r,(h r).mpr ⟨aC.mp h1,h2⟩,O⟩
 ·refine cR.mpr ((List.pairwise_lt_range.sublist List.filter_sublist).imp λc=>by lia)
theorem xY(xs:List Nat):jh (nmD xs)=Z (xs.map λ(r:Nat)=>(r:Int)):=by
 induction xs with
 |nil=>rfl
 |cons x xs ih=>
  show(jh (nmD xs)).map _=_;rw[ih];rfl
theorem rQ{S:Sto}{n:Nat}{xs:List Nat}{m:Nat}{f:Nat->Bool}{Q:D×Sto->Prop}(hn:S[n]?=Z (.lst (nmD xs)))(h:∀r,r∈xs↔r<m/\f r=M)(a:xs.length<64)(q:Q (.ref S.length,S++[.lst (nmD ((af m).filter f))])):W (i5 (.ref n) S) Q:=by
 refine W.of (x:=(.ref S.length,S++[.lst (nmD ((af m).filter f))])) ?_ q;simp only[i5,fS hn,xY,oS1];rw[ak (by rw[lM1];exact a),Et h,bu];rfl
end Mi
end
local macro_rules | `(tactic| walk_at"w") => `(tactic| simp only[Mi.dV, Mi.lp, Mi.ite_and', Mi.dN, Mi.k6, Mi.vr, Mi.dP, Mi.dS, Mi.fr, Mi.eg, Mi.fG, Mi.kT, Mi.mN, Mi.dG, Mi.dH, Mi.m2, Mi.mV, Mi.mC, Mi.DO, Mi.Kl, Mi.mB, Mi.p0, Mi.Ck, Mi.nE, Mi.kU, Mi.uD, Mi.uE, Mi.eZ, Mi.vB, Mi.HD, Mi.gN, Mi.gT, Mi.gCs, Mi.gNl, Mi.gS, Mi.b1, Mi.b2, Mi.b3, Mi.gM, Mi.hB, Mi.mn, Mi.DP, Mi.Ml, Mi.KC, Mi.MB, Mi.fE, Mi.uQ, Mi.DS, Mi.jj, Mi.pf, Mi.Gm, Mi.Ge, Mi.Gh, Mi.Gk, Mi.O1, Mi.O0, Mi.Of, Mi.OZ, Mi.OY, Mi.OX, true_and, Mi.eO, Mi.dQ, bE, lA1, cS, gC1, List.getElem?_nil, cT, cD, lC1, bf, mP1, aZ, Mi.OO, Mi.ON, Mi.OE, Mi.OC, Mi.OB, Mi.OA, Mi.Oz, Mi.Oy, Mi.Ox, Mi.K8, Mi.Nh, cP, bj, aN, cU, Nat.reduceSub, cV, Option.join_none, oP1, Option.map_none, oS1, Option.bind_none, Qv, Qt, bF1, bY, cI, ite_true, ite_false, reduceIte, decide_true, decide_false, Mi.Oi, Mi.O3, Mi.hU, Mi.iC, Mi.Ko, Mi.Kq, Mi.Mk])
noncomputable section
namespace Law
local macro_rules | `(tactic| wp_walk using $e,*) => `(tactic| ((try walk_at"w");repeat(simp only[$[$e:term],*];try walk_at"w")))
open PySem PySem.Spec PyProof.Rows L2 Mi
noncomputable def top (i:Nat):dE:=PySem.Challenge.pw_ringmeet_k39_whole_alike_ones_never_meet.main.body.getD i (.Pass ⟨0,0,0,0⟩)
abbrev BL:List Str:=["all","bool","enumerate","int","isinstance","len","list","max","min","range","set","sorted","str","tuple","zip"]
noncomputable def kw:D:=(D.tup [(D.tup [(D.str "came"),(D.int 5)]),(D.tup [(D.str "chalk"),(D.int 2)]),(D.tup [(D.str "doors"),(D.int 5)]),(D.tup [(D.str "others"),(D.int 2)])])
section
variable{P:dn}{w:dr}{K:Fg1}{mg:Str->Option di}{base h:dB}(X:K.In h) (G:h.Ns dv mg) (B:Blt BL mg)
include X G B
abbrev ox:dE:=top 1
def pG:FS:=(eg (kU (sO .int (mV 0)) (uD (sO .bool (mV 0)))))
def gm:FN:=gM 1 pG
theorem ur {f:dk}(F:d7 K "is_whole" ox f):
  eT P w K mg base 1 "is_whole" 1 gm:=xq ["thing"] X G F λa=>
 (qG (qU (jb (ii xv) (j9 (wU (ii xv))))))
abbrev kK:dE:=top 3
def iL:FS:=(eg (kU (sO .tuple (mV 0)) (m2 (b2 gEq) (mN (b1 eD) (dG (mV 0) dH)) (mV 1))))
def eJ:FN:=gM 2 iL
theorem oJ {f:dk}(F:d7 K "is_tuple_of" kK f):
  eT P w K mg base 1 "is_tuple_of" 2 eJ:=xq ["thing","many"] X G F λa=>
 (qG (qU (jb (ii xv) (j9 (ce (oq iX) (cn eI (a1 xv)) xv)))))
abbrev xi:dE:=top 7
def mF:FS:=(dP (dS (mN (b1 gTup) (dG (eA 2 [2] (g9 (mV 5)) (gT 2 (gCs (gN 0) (gCs (gN 1) gNl))) eZ (ee (eH (dG (m2 (b2 dL) (mV 2) (mV 0)) (dG (mV 1) dH))))) dH)) (gN 6))
  (fG (oS (b2 iJ) (mV 3) (dG (eH (dG (m2 (b2 dL) (mV 2) (mV 4)) (dG (m2 (b2 dL) (mV 1) (mV 4)) (dG (mV 6) dH)))) dH))))
def tJ:FS:=(dP (dS (g6 dH) (gN 3))
  (dP (fE (p7 (dG (mV 0) dH)) (gT 2 (gCs (gN 4) (gCs (gN 5) gNl))) mF)
  (eg (mV 3))))
def gB:FN:=gM 7 tJ
theorem BQ {f:dk}(F:d7 K "looks" xi f):
  eT P w K mg base 1 "looks" 3 gB:=xq ["web","signs","colours","found","room","doors","led_to"] X G F λa=>
 (qF (sq (ff qN)) (qF (fo (ie (a1 xv)) (tg2 gq gq) (qF (sq (cz eP (a1 (fk ["there","back"] (qd xv) ⟨(tg2 gq gq),eh,(dY (a2 (jq xv xv) xv))⟩)))) (qG (lq ap xv (a1 (dY (a3 (jq xv xv) (jq xv xv) xv))))))) (qG (qU xv))))
abbrev ou:dE:=top 10
def lK:FS:=(fr (mB (m2 (b2 kr) (mV 2) (mV 1))) (dS (mN (b1 ri) (dG (mV 1) dH)) (gS (b3 jp) (mV 1) (mV 2))) kT)
def pF:FS:=(dP (dS oT (gN 1))
  (dP (fE (g9 (mV 0)) (gN 2) lK)
  (eg (mN (b1 gTup) (dG (eA 1 [1] (g9 (mV 0)) (gN 0) eZ (ee (m2 (b2 dL) (mV 1) (mV 0)))) dH)))))
def gl:FN:=gM 3 pF
theorem uq {f:dk}(F:d7 K "numbered" ou f):
  eT P w K mg base 1 "numbered" 1 gl:=xq ["things","numbers","thing"] X G F λa=>
 (qF (sq oe) (qF (fo (qd xv) gq (qG (qV (ct (oq BW) xv xv (by with_unfolding_all rfl)) (qG (qR (cn Kf (a1 xv)) (lw xv xv (ot a.units)))) qQ))) (qG (qU (cz eP (a1 (fk ["thing"] (qd xv) ⟨gq,eh,(jq xv xv)⟩)))))))
abbrev lE:dE:=top 11
def jk:FS:=(eg (m2 (b2 gEq) (mN (b1 rh) (dG (mN (b1 iG) (dG (mV 0) dH)) dH)) (mN (b1 eD) (dG (mV 0) dH))))
def eU:FN:=gM 1 jk
theorem pU {f:dk}(F:d7 K "all_unlike" lE f):
  eT P w K mg base 1 "all_unlike" 1 eU:=xq ["colours"] X G F λa=>
 (qG (qU (ce (oq iX) (cn Dl (a1 (cz (Dk a) (a1 xv)))) (cn eI (a1 xv)))))
abbrev kM:dE:=top 13
def kZ:FS:=(eg (mN (b1 gTup) (dG (eA 1 [1] (nJ (dG (mN (b1 eD) (dG (mV 0) dH)) dH)) (gN 0) eZ (ee (uE (mB (m2 (b2 jR) (mV 0) (mV 1))) (mC (D.int 1)) (mC (D.int 0))))) dH)))
def eK:FN:=gM 2 kZ
theorem oK {f:dk}(F:d7 K "chalk_signs" kM f):
  eT P w K mg base 1 "chalk_signs" 2 eK:=xq ["web","chalk"] X G F λa=>
 (qG (qU (cz eP (a1 (fk ["room"] (ir (a1 (cn eI (a1 xv)))) ⟨gq,eh,(lc (ct (oq qz) xv xv (by with_unfolding_all rfl)) qK qK)⟩)))))
abbrev t8:dE:=top 22
def v4:FS:=(dP (dS (uE (mB (m2 (b2 jR) (mV 2) (mV 0))) (zr (dG (mV 3) dH)) (g6 (dG (mC D.non) dH))) (gN 4))
  (dS (eA 2 [4] (g9 (mV 1)) (gN 0) eZ (CU (g9 (mV 2)) (gN 1) eZ (ee (m2 (b2 fY) (mV 0) (eH (dG (mV 1) dH)))))) (gN 1)))
def Dt:FS:=(dP (dS (g6 (dG (eH dH) dH)) (gN 1))
  (dP (fE (g9 (mC kw)) (gT 2 (gCs (gN 2) (gCs (gN 3) gNl))) v4)
  (eg (mN (b1 gTup) (dG (mV 1) dH)))))
def jK:FN:=gM 5 Dt
theorem zg {f:dk}(F:d7 K "sights" t8 f)(a:CGl K mg "PARTS" kw):
  eT P w K mg base 1 "sights" 1 jK:=xq ["eyes","found","eye","many","parts"] X G F λb=>
 (qF (sq (ff (a1 (dY qN)))) (qF (fo (qd (oa a O)) (tg2 gq gq) (qF (sq (lc (ct (oq qz) xv xv (by with_unfolding_all rfl)) (n9 O O (bz B) O (bz B) (a1 xv)) (ff (a1 iA)))) (qG (yH 1 O (T:=["sight","part"]) (keep:=[4]) ⟨O,by decide+kernel,(kc "parts" (cK _))⟩ O (qd xv) (λ_ _ _=>⟨gq,eh,(qd xv),gq,eh,(qI fZ xv (dY (a1 xv)))⟩) (gF O) O (by first|exact RV rfl|exact RW rfl))))) (qG (qU (cz eP (a1 xv))))))
abbrev oz:dE:=top 24
def lN:FT:=(mB (m2 (b2 gLt) (mV 2) (mV 3)))
def lM:FS:=(dP (dS (m2 (b2 nK) (m2 (b2 fY) (mV 2) (mV 3)) (mC (D.int 2))) (gN 4))
  (fr (mB (m2 (b2 gLt) (m2 (b2 dL) (m2 (b2 dL) (m2 (b2 dL) (mV 0) (mV 4)) (mC (D.int 0))) (mC (D.int 0))) (mV 1))) (dS (m2 (b2 fY) (mV 4) (mC (D.int 1))) (gN 2)) (dS (mV 4) (gN 3))))
def pI:FS:=(dP (dS (mC (D.int 0)) (gN 2))
  (dP (dS (mN (b1 eD) (dG (mV 0) dH)) (gN 3))
  (dP (ql lN lM 100000)
  (eg (mV 2)))))
def iy:FN:=gM 5 pI
theorem uu {f:dk}(F:d7 K "first_of" oz f):
  eT P w K mg base 1 "first_of" 2 iy:=xq ["rows","mood","low","high","middle"] X G F λa=>
 (qF (sq qK) (qF (sq (cn eI (a1 xv))) (qF (iN 100000 RU (ct (oq kQ) xv xv) (qF (sq (qI uv (qI fZ xv xv) qK)) (qG (qV (ct (oq kQ) (jq (jq (jq xv xv) qK) qK) xv) (qG (sq (qI fZ xv qK))) (qG (sq xv)))))) (qG (qU xv)))))
abbrev xj:dE:=top 26
def yw:FS:=(dP (dS (mV 0) (gT 2 (gCs (gN 1) (gCs (gN 2) gNl))))
  (eg (eH (dG (mN (b1 gTup) (dG (eA 1 [] (g9 (mV 1)) (gN 0) eZ (ee (eH (dG (mV 0) (dG (mC (D.int 0)) (dG (mC (D.int 0)) dH)))))) dH)) (dG (mV 2) dH)))))
def lT:FN:=gM 3 yw
theorem BR {f:dk}(F:d7 K "begun" xj f):
  eT P w K mg base 1 "begun" 1 lT:=xq ["standing","rooms","chalk"] X G F λa=>
 (qF (qR xv (tg2 gq gq)) (qG (qU (dY (a2 (cz eP (a1 (fk ["room"] (qd xv) ⟨gq,eh,(dY (a3 xv qK qK))⟩))) xv)))))
abbrev oo:dE:=top 27
def pE:FS:=(dP (dS (mV 2) (gT 2 (gCs (gN 4) (gCs (gN 5) gNl))))
  (dP (dS (m2 (b2 dL) (mV 4) (mV 3)) (gT 3 (gCs (gN 6) (gCs (gN 7) (gCs (gN 8) gNl)))))
  (dP (dS (eA 1 [6] (g9 (mV 4)) (gN 0) (mB (m2 (b2 gEq) (m2 (b2 dL) (mV 0) (mC (D.int 0))) (mV 1))) (ee (mV 0))) (gN 9))
  (dP (dS (xL [((mC (D.str "came")),(mV 7)),((mC (D.str "chalk")),(uE (mB (m2 (b2 jR) (mV 6) (mV 5))) (mC (D.int 1)) (mC (D.int 0)))),((mC (D.str "doors")),(mN (b1 eD) (dG (m2 (b2 dL) (mV 0) (mV 6)) dH))),((mC (D.str "others")),(uE (mB (m2 (b2 (jj λi j=>decide (j<i))) (mN (b1 eD) (dG (mV 9) dH)) (mC (D.int 1)))) (mC (D.int 1)) (mC (D.int 0))))]) (gN 10))
  (eg (mN (b1 gTup) (dG (eA 2 [1,10] (g9 (mC kw)) (gT 2 (gCs (gN 0) (gCs (gN 1) gNl))) eZ (ee (uE (mB (m2 (b2 jR) (mV 0) (mV 2))) (m2 (b2 dL) (mV 3) (mV 0)) (mC D.non)))) dH)))))))
def ix:FN:=gM 11 pE
theorem uo {f:dk}(F:d7 K "sight_of" oo f)(a:CGl K mg "PARTS" kw):
  eT P w K mg base 1 "sight_of" 4 ix:=xq ["web","eyes","whole","k","walkers","chalk","room","came","mood","here","parts"] X G F λb=>
 (qF (qR xv (tg2 gq gq)) (qF (qR (jq xv xv) (j7 O (ez gq (ez gq (ez gq iO))))) (qF (hZ 9 O (T:=["other"]) (keep:=[6]) ⟨O,by decide+kernel,(kc "room" (cK _))⟩ O (qd xv) (λ_ _ _=>⟨gq,(gy (ct (oq iX) (jq xv qK) xv)),xv⟩) (gF O) O (by first|exact RV rfl|exact RW rfl)) (qF (sq (Ax (lu fe xv (lu fe (lc (ct (oq qz) xv xv (by with_unfolding_all rfl)) qK qK) (lu fe (cn eI (a1 (jq xv xv))) (lu fe (lc (ct Ff (cn eI (a1 xv)) qK) qK qK) Eb)))))) (qG (qU (cz eP (a1 (fk ["eye","many"] (qd (oa a rfl)) ⟨(tg2 gq gq),eh,(lc (ct (oq qz) xv xv (by with_unfolding_all rfl)) (jq xv xv) iA)⟩)))))))))
abbrev qr:dE:=top 31
def rM:FS:=(dP (dS (mV 0) (gT 2 (gCs (gN 2) (gCs (gN 3) gNl))))
  (dP (dS (eA 2 [] (He (dG (mV 2) (dG (mV 1) dH))) (gT 2 (gCs (gN 0) (gCs (gN 1) gNl))) (mB (m2 (b2 gEq) (m2 (b2 dL) (mV 1) (mC (D.int 1))) (mC (D.str "mark")))) (ee (m2 (b2 dL) (mV 0) (mC (D.int 0))))) (gN 4))
  (dP (dS (eA 2 [] (He (dG (mV 2) (dG (mV 1) dH))) (gT 2 (gCs (gN 0) (gCs (gN 1) gNl))) (mB (m2 (b2 gEq) (m2 (b2 dL) (mV 1) (mC (D.int 1))) (mC (D.str "wipe")))) (ee (m2 (b2 dL) (mV 0) (mC (D.int 0))))) (gN 5))
  (dP (dS (eA 1 [5] (g9 (mV 3)) (gN 0) (mB (m2 (b2 fW) (mV 0) (mV 1))) (ee (mV 0))) (gN 6))
  (eg (mN (b1 gTup) (dG (mN (b1 i5) (dG (m2 (b2 fY) (mV 6) (mV 4)) dH)) dH)))))))
def i3:FN:=gM 7 rM
theorem v9 {f:dk}(F:d7 K "handled" qr f):
  eT P w K mg base 1 "handled" 2 i3:=xq ["whole","deeds","walkers","chalk","marked","wiped","left"] X G F λa=>
 (qF (qR xv (tg2 gq gq)) (qF (hZ 4 O (T:=["walker","deed"]) (keep:=[]) ⟨O,by decide+kernel,(cK _)⟩ O (rT O (bz B) (a2 xv xv)) (λ_ _ _=>⟨(tg2 gq gq),(gy (ct (oq iX) (jq xv qK) fe)),(jq xv qK)⟩) (gF O) O (by first|exact RV rfl|exact RW rfl)) (qF (sq (fk ["walker","deed"] (rT rfl (bz B) (a2 xv xv)) ⟨(tg2 gq gq),(gy (ct (oq iX) (jq xv qK) fe)),(jq xv qK)⟩)) (qF (hZ 6 rfl (T:=["room"]) (keep:=[5]) ⟨rfl,by decide+kernel,(kc "wiped" (cK _))⟩ rfl (qd xv) (λ_ _ _=>⟨gq,(gy (ct (oq oO) xv xv (by with_unfolding_all rfl))),xv⟩) (gF O) O (by first|exact RV rfl|exact RW rfl)) (qG (qU (cz eP (a1 (qj rfl rfl (bz B) rfl (bz B) (qI fZ xv xv))))))))))
abbrev qp:dE:=top 32
def rK:FS:=(dP (dS (mV 1) (gT 3 (gCs (gN 3) (gCs (gN 4) (gCs (gN 5) gNl)))))
  (dP (dS (mV 2) (gT 3 (gCs (gN 6) (gCs (gN 7) (gCs (gN 8) gNl)))))
  (dP (fr (Ck (mB (m2 (b2 wo) (mV 8) (mC D.non))) (mB (m2 (b2 (jj λi j=>decide (j<=i))) (mV 8) (mN (b1 eD) (dG (m2 (b2 dL) (mV 0) (mV 3)) dH))))) (eg (eH (dG (mV 3) (dG (mV 4) (dG (mV 6) dH))))) kT)
  (dP (dS (m2 (b2 dL) (m2 (b2 dL) (mV 0) (mV 3)) (mV 8)) (gT 2 (gCs (gN 9) (gCs (gN 10) gNl))))
  (eg (eH (dG (mV 9) (dG (m2 (b2 fY) (mC (D.int 1)) (mV 10)) (dG (mV 6) dH)))))))))
def iZ:FN:=gM 11 rK
theorem v7 {f:dk}(F:d7 K "stepped" qp f):
  eT P w K mg base 1 "stepped" 3 iZ:=xq ["web","walker","deed","room","came","past","mood","hand","step","there","back"] X G F λa=>
 (qF (qR xv (j7 O (ez gq (ez gq (ez gq iO))))) (qF (qR xv (j7 O (ez gq (ez gq (ez gq iO))))) (qF (qV (kG (k9 (ct G5 xv iA) (ls (ct Lw xv (cn eI (a1 (jq xv xv))))))) (qG (qU (dY (a3 xv xv xv)))) qQ) (qF (qR (jq (jq xv xv) xv) (tg2 gq gq)) (qG (qU (dY (a3 xv (qI fZ qK xv) xv))))))))
abbrev ub:dE:=top 33
def vo:FS:=(dP (dS (m2 (b2 dL) (m2 (b2 dL) (m2 (b2 dL) (mV 0) (mC (D.int 0))) (mC (D.int 0))) (mC (D.int 0))) (gN 1))
  (eg (mN (b1 p8) (dG (eA 3 [1] (g9 (m2 (b2 dL) (mV 0) (mC (D.int 0)))) (gT 3 (gCs (gN 0) (gCs (gN 1) (gCs (gN 2) gNl)))) eZ (ee (m2 (b2 gEq) (mV 0) (mV 3)))) dH))))
def jL:FN:=gM 2 vo
theorem zh {f:dk}(F:d7 K "is_met" ub f):
  eT P w K mg base 1 "is_met" 1 jL:=xq ["whole","first"] X G F λa=>
 (qF (sq (jq (jq (jq xv qK) qK) qK)) (qG (qU (cn (Dn O) (a1 (fk ["room","came","mood"] (qd (jq xv qK)) ⟨(j7 O (ez gq (ez gq (ez gq iO)))),eh,(ce (oq iX) xv xv)⟩))))))
abbrev m6:dE:=top 35
def jZ:FS:=(dP (dS (mC (D.int 0)) (gN 2))
  (dP (fr (mB (m2 (b2 gLt) (mV 1) (mN (b1 eD) (dG (mV 0) dH)))) (dS (m2 (b2 dL) (mV 0) (mV 1)) (gN 2)) kT)
  (dP (dS (m2 (b2 mP) (m2 (b2 wl) (mC (D.int 10)) (mC (D.int 60))) (m2 (b2 wl) (mC (D.int 10)) (mC (D.int 30)))) (gN 3))
  (eg (g6 (dG (m2 (b2 mP) (m2 (b2 lZ) (mV 2) (mV 3)) (mN (b1 pf) (dG (m2 (b2 (jj λi j=>decide (j<=i))) (mV 2) (m2 (b2 wl) (mC (D.int 10)) (mC (D.int 18)))) dH))) (dG (m2 (b2 lZ) (m2 (b2 fY) (m2 (b2 fY) (m2 (b2 lZ) (mV 2) (mC (D.int 2305843009213693951))) (m2 (b2 mP) (mC (D.int 7919)) (mV 1))) (mC (D.int 5))) (mC (D.int 2305843009213693951))) (dG (mC (D.int 0)) dH))))))))
def fP:FN:=gM 4 jZ
theorem sJ {f:dk}(F:d7 K "_law_hand" m6 f):
  eT P w K mg base 1 "_law_hand" 2 fP:=xq ["_law_script","_law_k","_law_cell","_law_far"] X G F λa=>
 (qF (sq qK) (qF (qV (ct (oq kQ) xv (cn eI (a1 xv))) (qG (sq (jq xv xv))) qQ) (qF (sq (qI ng (qI BV qK qK) (qI BV qK qK))) (qG (qU (ff (a3 (qI ng (qI nh xv xv) (cz vn (a1 (ce Lw xv (qI BV qK qK))))) (qI nh (qI fZ (qI fZ (qI nh xv qK) (qI ng qK xv)) qK) qK) qK)))))))
abbrev m4:dE:=top 36
def jX:FS:=(dP (fr (mB (m2 (b2 (jj fun i j=>decide (j<i))) (m2 (b2 dL) (mV 0) (mC (D.int 0))) (mC (D.int 0)))) (dP (dS (m2 (b2 lZ) (m2 (b2 dL) (mV 0) (mC (D.int 0))) (mV 1)) (gN 2))
  (dP (dS (m2 (b2 nK) (m2 (b2 dL) (mV 0) (mC (D.int 0))) (mV 1)) (gS (b3 jp) (mV 0) (mC (D.int 0))))
  (eg (mV 2)))) kT)
  (dP (dS (m2 (b2 fY) (m2 (b2 dL) (mV 0) (mC (D.int 2))) (mC (D.int 1))) (gS (b3 jp) (mV 0) (mC (D.int 2))))
  (dP (dS (m2 (b2 lZ) (m2 (b2 mP) (m2 (b2 fY) (m2 (b2 fY) (m2 (b2 dL) (mV 0) (mC (D.int 1))) (m2 (b2 mP) (m2 (b2 mP) (mC (D.int 9973)) (m2 (b2 dL) (mV 0) (mC (D.int 2)))) (m2 (b2 dL) (mV 0) (mC (D.int 2))))) (mC (D.int 17))) (mC (D.int 69621))) (mC (D.int 2305843009213693921))) (gN 3))
  (dP (dS (m2 (b2 lZ) (m2 (b2 mP) (mV 3) (m2 (b2 fY) (m2 (b2 lZ) (mV 3) (mC (D.int 999983))) (m2 (b2 mP) (mC (D.int 7919)) (m2 (b2 dL) (mV 0) (mC (D.int 2)))))) (mC (D.int 2305843009213693907))) (gN 3))
  (eg (m2 (b2 lZ) (m2 (b2 fY) (m2 (b2 nK) (mV 3) (mC (D.int 101))) (m2 (b2 nK) (mV 3) (mC (D.int 1000003)))) (mV 1)))))))
def dM:FN:=gM 4 jX
theorem sH {f:dk}(F:d7 K "_law_take" m4 f):
  eT P w K mg base 1 "_law_take" 2 dM:=xq ["_law_hand_here","_law_many","_law_digit","_law_mixed"] X G F λa=>
 (qF (qV (ct Ff (jq xv qK) qK) (qF (sq (qI nh (jq xv qK) xv)) (qF (qR (qI uv (jq xv qK) xv) (lw xv qK (ot a.units))) (qG (qU xv)))) qQ) (qF (qR (qI fZ (jq xv qK) qK) (lw xv qK (ot a.units))) (qF (sq (qI nh (qI ng (qI fZ (qI fZ (jq xv qK) (qI ng (qI ng qK (jq xv qK)) (jq xv qK))) qK) qK) qK)) (qF (sq (qI nh (qI ng xv (qI fZ (qI nh xv qK) (qI ng qK (jq xv qK)))) qK)) (qG (qU (qI nh (qI fZ (qI uv xv qK) (qI uv xv qK)) xv)))))))
abbrev oy:dE:=top 2
def pH:FS:=(eg (kU (mN (dI 1 gm) (dG (mV 0) dH)) (LG (b2 (jj λi j=>decide (i<=j))) (b2 gLt) (mC (D.int 0)) (mV 0) (mV 1))))
def gI:FN:=gM 2 pH
theorem ut {f:dk}(F:d7 K "is_below" oy f)(a:eT P w K mg base 1 "is_whole" 1 gm):
  eT P w K mg base 2 "is_below" 2 gI:=xq ["thing","bound"] X G F λb=>
 (qG (qU (jb (wn a (a1 xv)) (j9 (yG No (oq kQ) qK xv xv)))))
abbrev mX:dE:=top 4
def nq:FS:=(eg (kU (mN (dI 2 eJ) (dG (mV 0) (dG (mV 2) dH))) (kU (sO .str (m2 (b2 dL) (mV 0) (mC (D.int 0)))) (m2 (b2 gEq) (m2 (b2 dL) (mV 0) (mC (D.int 0))) (mV 1)))))
def gr:FN:=gM 3 nq
theorem sE {f:dk}(F:d7 K "is_headed" mX f)(a:eT P w K mg base 1 "is_tuple_of" 2 eJ):
  eT P w K mg base 2 "is_headed" 3 gr:=xq ["thing","word","many"] X G F λb=>
 (qG (qU (jb (wn a (a2 xv xv)) (jb (ii (jq xv qK)) (j9 (ce (oq iX) (jq xv qK) xv))))))
abbrev jC:dE:=top 6
def jV:FS:=(dP (fr (Ck (nE (vB (mN (dI 2 eJ) (dG (mV 2) (dG (mN (b1 eD) (dG (mV 0) dH)) dH))))) (nE (vB (mN (b1 p8) (dG (eA 1 [] (g9 (mV 2)) (gN 0) eZ (ee (mN (dI 1 gm) (dG (mV 0) dH)))) dH))))) (eg (mC (D.bl false))) kT)
  (eg (m2 (b2 gEq) (mN (b1 jQ) (dG (mN (dI 3 gB) (dG (mV 0) (dG (mV 1) (dG (mV 2) dH)))) dH)) (mN (b1 rh) (dG (mN (b1 iG) (dG (mV 2) dH)) dH)))))
def eY:FN:=gM 3 jV
theorem nB {f:dk}(F:d7 K "is_colouring" jC f)(b:eT P w K mg base 1 "is_tuple_of" 2 eJ)(c:eT P w K mg base 1 "is_whole" 1 gm)(d:eT P w K mg base 1 "looks" 3 gB):
  eT P w K mg base 2 "is_colouring" 3 eY:=xq ["web","signs","thing"] X G F λa=>
 (qF (qV (kG (k9 (j6 (gx (wn b (a2 xv (cn eI (a1 xv)))))) (ls (j6 (gx (cn (Dn O) (a1 (fk ["number"] (qd xv) ⟨gq,eh,(wn c (a1 xv))⟩)))))))) (qG (qU fJ)) qQ) (qG (qU (ce (oq iX) (Aw O a.units O (bz B) O (bz B) (wn d (a3 xv xv xv))) (cn Dl (a1 (cz (Dk a) (a1 xv))))))))
abbrev qq:dE:=top 9
def na:FT:=(mB (m2 (b2 wm) (mV 4) (mV 3)))
def m9:FS:=(dP (dS (mV 4) (gN 3))
  (dS (uF 2 "numbered" (dI 1 gl) (dG (mN (dI 3 gB) (dG (mV 0) (dG (mV 1) (dG (mV 3) dH)))) dH)) (gN 4)))
def rL:FS:=(dP (dS (mN (b1 gTup) (dG (eA 1 [] (g9 (mV 0)) (gN 0) eZ (ee (mC (D.int 0)))) dH)) (gN 3))
  (dP (dS (uF 2 "numbered" (dI 1 gl) (dG (mN (dI 3 gB) (dG (mV 0) (dG (mV 1) (dG (mV 3) dH)))) dH)) (gN 4))
  (dP (ql na m9 100000)
  (eg (mV 3)))))
def i0:FN:=gM 5 rL
theorem v8 {f:dk}(F:d7 K "refined" qq f)(b:eT P w K mg base 1 "looks" 3 gB)(a:eT P w K mg base 1 "numbered" 1 gl):
  eT P w K mg base 2 "refined" 3 i0:=xq ["web","signs","numbering","colours","finer"] X G F λc=>
 (qF (sq (cz eP (a1 (fk ["room"] (qd xv) ⟨gq,eh,qK⟩)))) (qF (sq (qk 2 a c (by first|decide|omega) rfl (by first|exact RV rfl|exact RW rfl) (a1 (wn b (a3 xv xv xv))))) (qF (iN 100000 RU (ct (oq wb) xv xv) (qF (sq xv) (qG (sq (qk 2 a c (by first|decide|omega) rfl (by first|exact RV rfl|exact RW rfl) (a1 (wn b (a3 xv xv xv)))))))) (qG (qU xv)))))
abbrev mZ:dE:=top 14
def nt:FS:=(dP (dS (mV 1) (gT 2 (gCs (gN 2) (gCs (gN 3) gNl))))
  (dP (dS (mN (dI 2 eK) (dG (mV 0) (dG (mV 3) dH))) (gN 4))
  (eg (mN (b1 gTup) (dG (eA 2 [2] (p7 (dG (mV 4) dH)) (gT 2 (gCs (gN 0) (gCs (gN 1) gNl))) eZ (ee (uE (mB (m2 (b2 jR) (mV 0) (mV 2))) (m2 (b2 fY) (mV 1) (mC (D.int 2))) (mV 1)))) dH)))))
def fM:FN:=gM 5 nt
theorem sG {f:dk}(F:d7 K "all_signs" mZ f)(a:eT P w K mg base 1 "chalk_signs" 2 eK):
  eT P w K mg base 2 "all_signs" 2 fM:=xq ["web","standing","rooms","chalk","signs"] X G F λb=>
 (qF (qR xv (tg2 gq gq)) (qF (sq (wn a (a2 xv xv))) (qG (qU (cz eP (a1 (fk ["room","sign"] (ie (a1 xv)) ⟨(tg2 gq gq),eh,(lc (ct (oq qz) xv xv (by with_unfolding_all rfl)) (qI fZ xv qK) xv)⟩)))))))
abbrev qs:dE:=top 23
def nf:FT:=(p0 (mB (m2 (b2 gLt) (mV 4) (mN (b1 eD) (dG (mV 3) dH)))) (mB (m2 (b2 gEq) (m2 (b2 dL) (m2 (b2 dL) (m2 (b2 dL) (mV 3) (mV 4)) (mC (D.int 0))) (mC (D.int 0))) (mV 1))))
def nb:FS:=(dP (fr (mB (m2 (b2 gEq) (m2 (b2 dL) (m2 (b2 dL) (m2 (b2 dL) (mV 3) (mV 4)) (mC (D.int 0))) (mC (D.int 1))) (mV 2))) (eg (m2 (b2 dL) (m2 (b2 dL) (mV 3) (mV 4)) (mC (D.int 1)))) kT)
  (FF 4 (b2 CP) (mC (D.int 1))))
def rO:FS:=(dP (dS (m2 (b2 dL) (mV 0) (mC (D.int 1))) (gN 3))
  (dP (dS (mN (dI 2 iy) (dG (mV 3) (dG (mV 1) dH))) (gN 4))
  (dP (ql nf nb 100000)
  (eg (eH (dG (mV 1) (dG (mC (D.str "leave")) (dG (mC D.non) dH))))))))
def gJ:FN:=gM 5 rO
theorem wa {f:dk}(F:d7 K "deed_of" qs f)(a:eT P w K mg base 1 "first_of" 2 iy):
  eT P w K mg base 2 "deed_of" 3 gJ:=xq ["machine","mood","sight","rows","at"] X G F λb=>
 (qF (sq (jq xv qK)) (qF (sq (wn a (a2 xv xv))) (qF (iN 100000 RU (kG (j5 (ct (oq kQ) xv (cn eI (a1 xv))) (jv (ct (oq iX) (jq (jq (jq xv xv) qK) qK) xv)))) (qF (qV (ct (oq iX) (jq (jq (jq xv xv) qK) qK) xv) (qG (qU (jq (jq xv xv) qK))) qQ) (qG (Ea 4 (gF O) O (by first|exact RV rfl|exact RW rfl) qK F7)))) (qG (qU (dY (a3 xv fe iA)))))))
abbrev xf:dE:=top 28
def yt:FS:=(eg (eA 2 [0,1,2] (p7 (dG (m2 (b2 dL) (mV 2) (mC (D.int 0))) dH)) (gT 2 (gCs (gN 0) (gCs (gN 1) gNl))) eZ (ee (eH (dG (m2 (b2 dL) (mV 1) (mC (D.int 2))) (dG (mN (dI 4 ix) (dG (mV 2) (dG (mV 3) (dG (mV 4) (dG (mV 0) dH))))) dH))))))
def lR:FN:=gM 3 yt
theorem BN {f:dk}(F:d7 K "wants" xf f)(a:eT P w K mg base 1 "sight_of" 4 ix):
  eT P w K mg base 2 "wants" 3 lR:=xq ["web","eyes","whole"] X G F λb=>
 (qG (qU (fk ["k","walker"] (ie (a1 (jq xv qK))) ⟨(tg2 gq gq),eh,(dY (a2 (jq xv qK) (wn a (qA xv (a3 xv xv xv)))))⟩)))
abbrev xh:dE:=top 30
def yv:FS:=(dP (dS (mV 1) (gT 2 (gCs (gN 3) (gCs (gN 4) gNl))))
  (dP (dS (eA 2 [0] (He (dG (mV 3) (dG (mV 2) dH))) (gT 2 (gCs (gN 0) (gCs (gN 1) gNl))) eZ (ee (mN (dI 3 iZ) (dG (mV 2) (dG (mV 0) (dG (mV 1) dH)))))) (gN 5))
  (eg (eH (dG (mN (b1 gTup) (dG (mV 5) dH)) (dG (mN (dI 2 i3) (dG (mV 1) (dG (mV 2) dH))) dH))))))
def lS:FN:=gM 6 yv
theorem BP {f:dk}(F:d7 K "moved" xh f)(b:eT P w K mg base 1 "handled" 2 i3)(a:eT P w K mg base 1 "stepped" 3 iZ):
  eT P w K mg base 2 "moved" 3 lS:=xq ["web","whole","deeds","walkers","chalk","behind"] X G F λc=>
 (qF (qR xv (tg2 gq gq)) (qF (hZ 5 O (T:=["walker","deed"]) (keep:=[0]) ⟨O,by decide+kernel,(kc "web" (cK _))⟩ O (rT O (bz B) (a2 xv xv)) (λ_ _ _=>⟨(tg2 gq gq),eh,(wn a (a3 xv xv xv))⟩) (gF O) O (by first|exact RV rfl|exact RW rfl)) (qG (qU (dY (a2 (cz eP (a1 xv)) (wn b (a2 xv xv))))))))
abbrev kN:dE:=top 37
def hI:FT:=(mB (m2 (b2 wm) (mV 4) (g6 dH)))
def hH:FS:=(fG (oS (b2 iJ) (mV 5) (dG (oS (b2 zJ) (mV 4) (dG (mN (dI 2 dM) (dG (mV 0) (dG (mN (b1 eD) (dG (mV 4) dH)) dH))) dH)) dH)))
def hE:FS:=(dP (dS (eH (dG (mN (b1 Gi) (dG (mV 3) dH)) (dG (g6 dH) dH))) (gT 2 (gCs (gN 4) (gCs (gN 5) gNl))))
  (dP (ql hI hH 100000)
  (fG (oS (b2 iJ) (mV 2) (dG (mV 5) dH)))))
def hD:FS:=(fG (oS (b2 iJ) (oU (mV 6) (mV 9) (g6 dH)) (dG (eH (dG (mV 7) (dG (mV 8) dH))) dH)))
def jl:FS:=(fE (p7 (dG (mV 5) dH)) (gT 2 (gCs (gN 8) (gCs (gN 9) gNl))) hD)
def k0:FS:=(dP (dS (g6 dH) (gN 2))
  (dP (fE (g9 (mV 1)) (gN 3) hE)
  (dP (dS oT (gN 6))
  (dP (fE (p7 (dG (mV 2) dH)) (gT 2 (gCs (gN 7) (gCs (gN 5) gNl))) jl)
  (eg (mN (b1 gTup) (dG (eA 2 [6] (p7 (dG (mV 2) dH)) (gT 2 (gCs (gN 0) (gCs (gN 1) gNl))) eZ (ee (mN (b1 gTup) (dG (eA 2 [2,0] (p7 (dG (mV 1) dH)) (gT 2 (gCs (gN 0) (gCs (gN 1) gNl))) eZ (ee (m2 (b2 dL) (m2 (b2 dL) (mV 2) (mV 1)) (mN (b1 pf) (dG (m2 (b2 gEq) (m2 (b2 dL) (m2 (b2 dL) (mV 2) (mV 1)) (mC (D.int 0))) (eH (dG (mV 3) (dG (mV 0) dH)))) dH))))) dH)))) dH)))))))
def ge:FN:=gM 10 k0
theorem oM {f:dk}(F:d7 K "_law_doored" kN f)(a:eT P w K mg base 1 "_law_take" 2 dM):
  eT P w K mg base 2 "_law_doored" 2 ge:=xq ["_law_hand_here","_law_ends","_law_rows","_law_some","_law_left","_law_row","_law_places","_law_room","_law_door","_law_way"] X G F λb=>
 (qF (sq (ff qN)) (qF (fo (qd xv) gq (qF (ja 4 5 O (gF O) O O (by decide) O O (a2 (cz Kd (a1 xv)) (ff qN))) (qF (iN 100000 RU (ct (oq wb) xv (ff qN)) (qG (lq ap xv (a1 (qe PySem.F.slot_list_pop PySem.F.type_list_pop GV xv (a1 (wn a (a2 xv (cn eI (a1 xv)))))))))) (qG (lq ap xv (a1 xv)))))) (qF (sq oe) (qF (fo (ie (a1 xv)) (tg2 gq gq) (qG (fo (ie (a1 xv)) (tg2 gq gq) (qG (lq ap (Ec xv xv (ff qN)) (a1 (dY (a2 xv xv)))))))) (qG (qU (cz eP (a1 (fk ["_law_room","_law_row"] (ie (a1 xv)) ⟨(tg2 gq gq),eh,(cz eP (a1 (fk ["_law_door","_law_way"] (ie (a1 xv)) ⟨(tg2 gq gq),eh,(jq (jq xv xv) (cz vn (a1 (ce (oq iX) (jq (jq xv xv) qK) (dY (a2 xv xv))))))⟩)))⟩)))))))))
abbrev lG:dE:=top 39
def mf:FS:=(dP (dS (zr (dG (mV 1) dH)) (gN 2))
  (eg (eA 1 [2,0] (nJ (dG (mV 1) dH)) (gN 0) eZ (ee (oS (b2 zJ) (mV 1) (dG (mN (dI 2 dM) (dG (mV 2) (dG (mN (b1 eD) (dG (mV 1) dH)) dH))) dH))))))
def fU:FN:=gM 3 mf
theorem pW {f:dk}(F:d7 K "_law_order" lG f)(a:eT P w K mg base 1 "_law_take" 2 dM):
  eT P w K mg base 2 "_law_order" 2 fU:=xq ["_law_hand_here","_law_many","_law_left"] X G F λb=>
 (qF (sq (n9 O O (bz B) O (bz B) (a1 xv))) (qG (qU (fk ["_law_k"] (ir (a1 xv)) ⟨gq,eh,(qe PySem.F.slot_list_pop PySem.F.type_list_pop GV xv (a1 (wn a (a2 xv (cn eI (a1 xv))))))⟩))))
abbrev m5:dE:=top 42
def nv:FS:=(dP (dS (eA 1 [0] (nJ (dG (mN (b1 eD) (dG (mV 1) dH)) dH)) (gN 0) (mB (m2 (b2 gEq) (mN (dI 2 dM) (dG (mV 1) (dG (mC (D.int 2)) dH))) (mC (D.int 0)))) (ee (mV 0))) (gN 3))
  (eg (mN (b1 gTup) (dG (eA 1 [2,3] (nJ (dG (mN (b1 eD) (dG (mV 1) dH)) dH)) (gN 0) (mB (m2 (b2 jR) (m2 (b2 dL) (mV 1) (mV 0)) (mV 2))) (ee (mV 0))) dH))))
def gX:FN:=gM 4 nv
theorem sI {f:dk}(F:d7 K "_law_kept" m5 f)(a:eT P w K mg base 1 "_law_take" 2 dM):
  eT P w K mg base 2 "_law_kept" 3 gX:=xq ["_law_hand_here","_law_web","_law_copied","_law_kept_here"] X G F λb=>
 (qF (sq (fk ["_law_room"] (ir (a1 (cn eI (a1 xv)))) ⟨gq,(gy (ct (oq iX) (wn a (a2 xv qK)) qK)),xv⟩)) (qG (qU (cz eP (a1 (fk ["_law_room"] (ir (a1 (cn eI (a1 xv)))) ⟨gq,(gy (ct (oq qz) (jq xv xv) xv (by with_unfolding_all rfl))),xv⟩))))))
abbrev jE:dE:=top 43
def gH:FS:=(dP (dS (eH (dG (mN (dI 2 dM) (dG (mV 0) (dG (mV 3) dH))) (dG (m2 (b2 dL) (mV 2) (mN (dI 2 dM) (dG (mV 0) (dG (mN (b1 eD) (dG (mV 2) dH)) dH)))) (dG (m2 (b2 dL) (g6 (dG (mC D.non) (dG (mC (D.int 0)) (dG (mC (D.int 1)) (dG (mC (D.int 2)) (dG (mC (D.int 3)) dH)))))) (mN (dI 2 dM) (dG (mV 0) (dG (mC (D.int 5)) dH)))) dH)))) (gN 7))
  (fr (mB (m2 (b2 (jj λi j=>decide (j<i))) (mN (dI 2 dM) (dG (mV 0) (dG (mC (D.int 8)) dH))) (mC (D.int 0)))) (fG (oS (b2 iJ) (mV 4) (dG (eH (dG (eH (dG (mV 5) (dG (mV 6) dH))) (dG (mV 7) dH))) dH))) kT))
def iW:FS:=(fE (g9 (mN (dI 1 jK) (dG (mV 1) dH))) (gN 6) gH)
def jY:FS:=(dP (dS (eH (dG (m2 (b2 fY) (mC (D.int 1)) (mN (dI 2 dM) (dG (mV 0) (dG (mC (D.int 3)) dH)))) (dG (g6 dH) dH))) (gT 2 (gCs (gN 3) (gCs (gN 4) gNl))))
  (dP (fE (nJ (dG (mV 3) dH)) (gN 5) iW)
  (eg (eH (dG (mV 1) (dG (mN (b1 gTup) (dG (mV 4) dH)) dH))))))
def fO:FN:=gM 8 jY
theorem nD {f:dk}(F:d7 K "_law_machine" jE f)(a:eT P w K mg base 1 "_law_take" 2 dM)(b:eT P w K mg base 1 "sights" 1 jK):
  eT P w K mg base 2 "_law_machine" 3 fO:=xq ["_law_hand_here","_law_eyes_here","_law_hands","_law_moods","_law_rows","_law_mood","_law_sight","_law_deed"] X G F λc=>
 (qF (ja 3 4 O (gF O) O O (by decide) O O (a2 (qI fZ qK (wn a (a2 xv qK))) (ff qN))) (qF (fo (ir (a1 xv)) gq (qG (fo (qd (wn b (a1 xv))) gq (qF (sq (dY (a3 (wn a (a2 xv xv)) (jq xv (wn a (a2 xv (cn eI (a1 xv))))) (jq (ff (qA iA (qA qK (a3 qK qK qK)))) (wn a (a2 xv qK)))))) (qG (qV (ct Ff (wn a (a2 xv qK)) qK) (qG (lq ap xv (a1 (dY (a2 (dY (a2 xv xv)) xv))))) qQ)))))) (qG (qU (dY (a2 xv (cz eP (a1 xv))))))))
abbrev m7:dE:=top 44
def nw:FS:=(eg (mN (b1 gTup) (dG (eA 1 [0] (g9 (mV 1)) (gN 0) (mB (m2 (b2 gEq) (mN (dI 2 dM) (dG (mV 1) (dG (mC (D.int 2)) dH))) (mC (D.int 0)))) (ee (mV 0))) dH)))
def gZ:FN:=gM 2 nw
theorem sK {f:dk}(F:d7 K "_law_eyes" m7 f)(a:eT P w K mg base 1 "_law_take" 2 dM):
  eT P w K mg base 2 "_law_eyes" 2 gZ:=xq ["_law_hand_here","_law_some"] X G F λb=>
 (qG (qU (cz eP (a1 (fk ["_law_eye"] (qd xv) ⟨gq,(gy (ct (oq iX) (wn a (a2 xv qK)) qK)),xv⟩)))))
abbrev jD:dE:=top 45
def iV:FS:=(fG (oS (b2 iJ) (mV 5) (dG (mN (dI 2 dM) (dG (mV 0) (dG (mN (b1 eD) (dG (mV 1) dH)) dH))) dH)))
def jW:FS:=(dP (dS (mN (dI 2 dM) (dG (mV 0) (dG (mN (b1 eD) (dG (mV 1) dH)) dH))) (gN 3))
  (dP (dS (eA 1 [3,2] (nJ (dG (mN (b1 eD) (dG (mV 1) dH)) dH)) (gN 0) (p0 (mB (m2 (b2 wm) (mV 0) (mV 1))) (mB (m2 (b2 gEq) (m2 (b2 dL) (mV 2) (mV 0)) (m2 (b2 dL) (mV 2) (mV 1))))) (ee (mV 0))) (gN 4))
  (dP (dS (m2 (b2 fY) (g6 (dG (mV 3) dH)) (eA 1 [4,0] (nJ (dG (mN (b1 pf) (dG (m2 (b2 wm) (mV 4) (g6 dH)) dH)) dH)) (gN 0) eZ (ee (m2 (b2 dL) (mV 1) (mN (dI 2 dM) (dG (mV 2) (dG (mN (b1 eD) (dG (mV 1) dH)) dH))))))) (gN 5))
  (dP (fE (nJ (dG (mN (dI 2 dM) (dG (mV 0) (dG (mC (D.int 3)) dH))) dH)) (gN 6) iV)
  (eg (eH (dG (mN (b1 gTup) (dG (mN (b1 i5) (dG (mV 5) dH)) dH)) (dG (mN (b1 gTup) (dG (mN (b1 lY) (dG (kB (mV 5) iY (jm (mC (D.int 2)))) dH)) dH)) dH))))))))
def fN:FN:=gM 7 jW
theorem nC {f:dk}(F:d7 K "_law_walkers" jD f)(a:eT P w K mg base 1 "_law_take" 2 dM):
  eT P w K mg base 2 "_law_walkers" 3 fN:=xq ["_law_hand_here","_law_web","_law_copied","_law_one","_law_twins","_law_some","_law_turn"] X G F λb=>
 (qF (sq (wn a (a2 xv (cn eI (a1 xv))))) (qF (sq (fk ["_law_room"] (ir (a1 (cn eI (a1 xv)))) ⟨gq,(gy (kG (j5 (ct (oq wb) xv xv) (jv (ct (oq iX) (jq xv xv) (jq xv xv)))))),xv⟩)) (qF (sq (qI fZ (ff (a1 xv)) (fk ["_law_turn"] (ir (a1 (cz vn (a1 (ce (oq wb) xv (ff qN)))))) ⟨gq,eh,(jq xv (wn a (a2 xv (cn eI (a1 xv)))))⟩))) (qF (fo (ir (a1 (wn a (a2 xv qK)))) gq (qG (lq ap xv (a1 (wn a (a2 xv (cn eI (a1 xv)))))))) (qG (qU (dY (a2 (cz eP (a1 (qj O O (bz B) O (bz B) xv))) (cz eP (a1 (cn Dj (a1 (gh xv ic (ib qK))))))))))))))
abbrev mY:dE:=top 8
def nr:FS:=(eg (mN (dI 3 i0) (dG (mV 0) (dG (mV 1) (dG (mC (D.fn "numbered")) dH)))))
def fL:FN:=gM 2 nr
theorem sF {f:dk}(F:d7 K "colouring" mY f)(a:eT P w K mg base 2 "refined" 3 i0)(b:CGl K mg "numbered" (D.fn "numbered")):
  eT P w K mg base 3 "colouring" 2 fL:=xq ["web","signs"] X G F λc=>
 (qG (qU (wn a (a3 xv xv (oa b O)))))
abbrev kJ:dE:=top 19
def kY:FS:=(dP (dS (mV 1) (gT 2 (gCs (gN 3) (gCs (gN 4) gNl))))
  (dP (dS (mV 2) (gT 4 (gCs (gN 5) (gCs (gN 6) (gCs (gN 7) (gCs (gN 8) gNl))))))
  (dP (fr (Ck (nE (vB (mN (dI 2 gI) (dG (mV 7) (dG (mN (b1 eD) (dG (mV 3) dH)) dH))))) (nE (vB (mN (dI 2 gI) (dG (mV 6) (dG (mV 7) dH)))))) (eg (mC (D.bl J))) kT)
  (eg (kU (mN (dI 3 eY) (dG (mV 0) (dG (mN (dI 2 eK) (dG (mV 0) (dG (mV 4) dH))) (dG (mV 8) dH)))) (m2 (b2 gEq) (m2 (b2 dL) (mV 8) (m2 (b2 dL) (mV 3) (mV 6))) (m2 (b2 dL) (mV 8) (m2 (b2 dL) (mV 3) (mV 7)))))))))
def gb:FN:=gM 9 kY
theorem oI {f:dk}(F:d7 K "shows_alike" kJ f)(c:eT P w K mg base 1 "chalk_signs" 2 eK)(a:eT P w K mg base 2 "is_below" 2 gI)(b:eT P w K mg base 2 "is_colouring" 3 eY):
  eT P w K mg base 3 "shows_alike" 3 gb:=xq ["web","standing","paper","rooms","chalk","word","i","j","colours"] X G F λd=>
 (qF (qR xv (tg2 gq gq)) (qF (qR xv (j7 O (ez gq (ez gq (ez gq (ez gq iO)))))) (qF (qV (kG (k9 (j6 (gx (wn a (a2 xv (cn eI (a1 xv)))))) (ls (j6 (gx (wn a (a2 xv xv))))))) (qG (qU fJ)) qQ) (qG (qU (jb (wn b (a3 xv (wn c (a2 xv xv)) xv)) (j9 (ce (oq iX) (jq xv (jq xv xv)) (jq xv (jq xv xv))))))))))
abbrev Bk:dE:=top 29
def Dv:FS:=(dP (dS (mN (dI 3 lR) (dG (mV 0) (dG (m2 (b2 dL) (mV 1) (mC (D.int 0))) (dG (mV 2) dH)))) (gN 3))
  (eg (mN (dI 3 lS) (dG (mV 0) (dG (mV 2) (dG (eA 2 [1] (g9 (mV 3)) (gT 2 (gCs (gN 0) (gCs (gN 1) gNl))) eZ (ee (mN (dI 3 gJ) (dG (mV 2) (dG (mV 0) (dG (mV 1) dH)))))) dH))))))
def oR:FN:=gM 4 Dv
theorem Fc {f:dk}(F:d7 K "beat" Bk f)(a:eT P w K mg base 2 "deed_of" 3 gJ)(b:eT P w K mg base 2 "moved" 3 lS)(c:eT P w K mg base 2 "wants" 3 lR):
  eT P w K mg base 3 "beat" 3 oR:=xq ["web","machine","whole","wanted"] X G F λd=>
 (qF (sq (wn c (a3 xv (jq xv qK) xv))) (qG (qU (wn b (a3 xv xv (fk ["mood","sight"] (qd xv) ⟨(tg2 gq gq),eh,(wn a (a3 xv xv xv))⟩))))))
abbrev iU:dE:=top 38
def gj:FS:=(dP (dS (eA 1 [4] (nJ (dG (mV 5) dH)) (gN 0) (mB (m2 (b2 gLt) (mN (b1 eD) (dG (m2 (b2 dL) (mV 1) (mV 0)) dH)) (mC (D.int 4)))) (ee (mV 0))) (gN 6))
  (dP (dS (m2 (b2 dL) (mV 6) (mN (dI 2 dM) (dG (mV 0) (dG (mN (b1 eD) (dG (mV 6) dH)) dH)))) (gN 7))
  (dP (fG (oS (b2 iJ) (m2 (b2 dL) (mV 4) (mV 5)) (dG (mV 3) dH)))
  (dP (fG (oS (b2 iJ) (m2 (b2 dL) (mV 4) (mV 7)) (dG (mV 3) dH)))
  (dS (m2 (b2 fY) (mV 3) (mC (D.int 1))) (gN 3))))))
def gi:FS:=(dP (dS (eH (dG (mN (dI 2 dM) (dG (mV 0) (dG (mV 2) dH))) (dG (mN (dI 2 dM) (dG (mV 0) (dG (mV 2) dH))) dH))) (gT 2 (gCs (gN 9) (gCs (gN 7) gNl))))
  (fr (p0 (mB (m2 (b2 gLt) (m2 (b2 fY) (mN (b1 eD) (dG (m2 (b2 dL) (mV 4) (mV 9)) dH)) (mN (b1 pf) (dG (m2 (b2 gEq) (mV 9) (mV 7)) dH))) (mC (D.int 4)))) (mB (m2 (b2 gLt) (mN (b1 eD) (dG (m2 (b2 dL) (mV 4) (mV 7)) dH)) (mC (D.int 4))))) (dP (fG (oS (b2 iJ) (m2 (b2 dL) (mV 4) (mV 9)) (dG (mV 3) dH)))
  (dP (fG (oS (b2 iJ) (m2 (b2 dL) (mV 4) (mV 7)) (dG (mV 3) dH)))
  (dS (m2 (b2 fY) (mV 3) (mC (D.int 1))) (gN 3)))) kT))
def i8:FS:=(dP (dS (eH (dG (m2 (b2 fY) (mC (D.int 1)) (mN (dI 2 dM) (dG (mV 0) (dG (mV 1) dH)))) (dG (mC (D.int 0)) dH))) (gT 2 (gCs (gN 2) (gCs (gN 3) gNl))))
  (dP (dS (eA 1 [] (nJ (dG (mV 2) dH)) (gN 0) eZ (ee (g6 dH))) (gN 4))
  (dP (fE (KD (dG (mC (D.int 1)) (dG (mV 2) dH))) (gN 5) gj)
  (dP (fE (nJ (dG (mN (dI 2 dM) (dG (mV 0) (dG (mC (D.int 6)) dH))) dH)) (gN 8) gi)
  (eg (mN (dI 2 ge) (dG (mV 0) (dG (mV 4) dH))))))))
def fq:FN:=gM 10 i8
theorem lO {f:dk}(F:d7 K "_law_plain_web" iU f)(b:eT P w K mg base 2 "_law_doored" 2 ge)(a:eT P w K mg base 1 "_law_take" 2 dM):
  eT P w K mg base 3 "_law_plain_web" 2 fq:=xq ["_law_hand_here","_law_most","_law_rooms","_law_many","_law_ends","_law_room","_law_some","_law_other","_law_turn","_law_one"] X G F λc=>
 (qF (ja 2 3 O (gF O) O O (by decide) O O (a2 (qI fZ qK (wn a (a2 xv xv))) qK)) (qF (sq (fk ["_law_room"] (ir (a1 xv)) ⟨gq,eh,(ff qN)⟩)) (qF (fo (n6 O (bz B) (a2 qK xv)) gq (qF (hZ 6 O (T:=["_law_other"]) (keep:=[4]) ⟨O,by decide+kernel,(kc "_law_ends" (cK _))⟩ O (ir (a1 xv)) (λ_ _ _=>⟨gq,(gy (ct (oq kQ) (cn eI (a1 (jq xv xv))) qK)),xv⟩) (gF O) O (by first|exact RV rfl|exact RW rfl)) (qF (sq (jq xv (wn a (a2 xv (cn eI (a1 xv)))))) (qF (lq ap (jq xv xv) (a1 xv)) (qF (lq ap (jq xv xv) (a1 xv)) (qG (sq (qI fZ xv qK)))))))) (qF (fo (ir (a1 (wn a (a2 xv qK)))) gq (qF (ja 9 7 rfl (gF rfl) rfl rfl (by decide) rfl rfl (a2 (wn a (a2 xv xv)) (wn a (a2 xv xv)))) (qG (qV (kG (j5 (ct (oq kQ) (qI fZ (cn eI (a1 (jq xv xv))) (cz vn (a1 (ce (oq iX) xv xv)))) qK) (jv (ct (oq kQ) (cn eI (a1 (jq xv xv))) qK)))) (qF (lq ap (jq xv xv) (a1 xv)) (qF (lq ap (jq xv xv) (a1 xv)) (qG (sq (qI fZ xv qK))))) qQ)))) (qG (qU (wn b (a2 xv xv))))))))
abbrev lH:dE:=top 40
def iw:FS:=(dP (dS (eH (dG (mV 7) (dG (mV 10) (dG (mV 8) dH)))) (gS (b3 jp) (mV 3) (eH (dG (mV 4) (dG (mV 9) (dG (mV 6) dH))))))
  (dS (eH (dG (mV 4) (dG (mV 9) (dG (mV 6) dH)))) (gS (b3 jp) (mV 3) (eH (dG (mV 7) (dG (mV 10) (dG (mV 8) dH)))))))
def jJ:FS:=(fr (mB (m2 (b2 gLt) (eH (dG (mV 4) (dG (mV 6) dH))) (eH (dG (mV 7) (dG (mV 8) dH))))) (fE (p7 (dG (mN (dI 2 fU) (dG (mV 0) (dG (mV 2) dH))) dH)) (gT 2 (gCs (gN 9) (gCs (gN 10) gNl))) iw) kT)
def iu:FS:=(fE (p7 (dG (mV 5) dH)) (gT 2 (gCs (gN 6) (gCs (gT 2 (gCs (gN 7) (gCs (gN 8) gNl))) gNl))) jJ)
def jI:FS:=(fr (mB (m2 (b2 fW) (kB (m2 (b2 dL) (mV 3) (eH (dG (mV 4) (dG (mV 9) (dG (mV 6) dH))))) iY (jm (mC (D.int 2)))) (mV 11))) (fG (oS (b2 iJ) (mV 11) (dG (kB (m2 (b2 dL) (mV 3) (eH (dG (mV 4) (dG (mV 9) (dG (mV 6) dH))))) iY (jm (mC (D.int 2)))) dH))) kT)
def iq:FT:=(mB (m2 (b2 gLt) (mV 12) (mN (b1 eD) (dG (mV 11) dH))))
def ip:FS:=(dP (dS (m2 (b2 dL) (mV 11) (mV 12)) (gT 2 (gCs (gN 4) (gCs (gN 9) gNl))))
  (dP (fE (nJ (dG (mN (b1 eD) (dG (m2 (b2 dL) (mV 1) (mV 4)) dH)) dH)) (gN 6) jI)
  (dS (m2 (b2 fY) (mV 12) (mC (D.int 1))) (gN 12))))
def jH:FS:=(dP (dS (eA 1 [3,4,9] (nJ (dG (mN (b1 eD) (dG (m2 (b2 dL) (mV 1) (mV 4)) dH)) dH)) (gN 0) eZ (ee (m2 (b2 dL) (mV 1) (eH (dG (mV 2) (dG (mV 3) (dG (mV 0) dH))))))) (gN 14))
  (fG (oS (b2 iJ) (mV 13) (dG (mN (b1 gTup) (dG (eA 1 [11] (g9 (mV 14)) (gN 0) eZ (ee (eH (dG (oS (b2 CO) (mV 1) (dG (kB (mV 0) iY (jm (mC (D.int 2)))) dH)) (dG (m2 (b2 dL) (mV 0) (mC (D.int 2))) dH))))) dH)) dH))))
def mh:FS:=(dP (dS oT (gN 3))
  (dP (fE (p7 (dG (mV 1) dH)) (gT 2 (gCs (gN 4) (gCs (gN 5) gNl))) iu)
  (dP (dS (eH (dG (g6 (dG (eH (dG (mC (D.int 0)) (dG (mC (D.int 0)) dH))) dH)) (dG (mC (D.int 0)) dH))) (gT 2 (gCs (gN 11) (gCs (gN 12) gNl))))
  (dP (ql iq ip 100000)
  (dP (dS (g6 dH) (gN 13))
  (dP (fE (g9 (mV 11)) (gT 2 (gCs (gN 4) (gCs (gN 9) gNl))) jH)
  (eg (eH (dG (mN (b1 gTup) (dG (mV 13) dH)) (dG (mN (b1 gTup) (dG (eA 2 [] (g9 (mV 11)) (gT 2 (gCs (gN 0) (gCs (gN 1) gNl))) eZ (ee (mV 0))) dH)) dH))))))))))
def gC:FN:=gM 15 mh
theorem pX {f:dk}(F:d7 K "_law_cover" lH f)(a:eT P w K mg base 2 "_law_order" 2 fU):
  eT P w K mg base 3 "_law_cover" 3 gC:=xq ["_law_hand_here","_law_web","_law_copies_here","_law_steps","_law_room","_law_row","_law_door","_law_other","_law_back","_law_copy","_law_to","_law_met","_law_at","_law_found","_law_some"] X G F λb=>
 (qF (sq oe) (qF (fo (ie (a1 xv)) (tg2 gq gq) (qG (fo (ie (a1 xv)) (tg2 gq (tg2 gq gq)) (qG (qV (ct (oq kQ) (dY (a2 xv xv)) (dY (a2 xv xv))) (qG (fo (ie (a1 (wn a (a2 xv xv)))) (tg2 gq gq) (qF (qR (dY (a3 xv xv xv)) (lw xv (dY (a3 xv xv xv)) (ot b.units))) (qG (qR (dY (a3 xv xv xv)) (lw xv (dY (a3 xv xv xv)) (ot b.units))))))) qQ))))) (qF (qR (dY (a2 (ff (a1 (dY (a2 qK qK)))) qK)) (tg2 gq gq)) (qF (iN 100000 RU (ct (oq kQ) xv (cn eI (a1 xv))) (qF (qR (jq xv xv) (tg2 gq gq)) (qF (fo (ir (a1 (cn eI (a1 (jq xv xv))))) gq (qG (qV (ct (oq oO) (gh (jq xv (dY (a3 xv xv xv))) ic (ib qK)) xv (by with_unfolding_all rfl)) (qG (lq ap xv (a1 (gh (jq xv (dY (a3 xv xv xv))) ic (ib qK))))) qQ))) (qG (sq (qI fZ xv qK)))))) (qF (sq (ff qN)) (qF (fo (qd xv) (tg2 gq gq) (qF (hZ 14 O (T:=["_law_door"]) (keep:=[3,4,9]) ⟨O,by decide+kernel,(kc "_law_steps" (kc "_law_room" (kc "_law_copy" (cK _))))⟩ O (ir (a1 (cn eI (a1 (jq xv xv))))) (λ_ _ _=>⟨gq,eh,(jq xv (dY (a3 xv xv xv)))⟩) (gF O) O (by first|exact RV rfl|exact RW rfl)) (qG (lq ap xv (a1 (cz eP (a1 (fk ["_law_step"] (qd xv) ⟨gq,eh,(dY (a2 (qe PySem.F.slot_list_index PySem.F.type_list_index (KM b.units) xv (a1 (gh xv ic (ib qK)))) (jq xv qK)))⟩)))))))) (qG (qU (dY (a2 (cz eP (a1 xv)) (cz eP (a1 (fk ["_law_room","_law_copy"] (qd xv) ⟨(tg2 gq gq),eh,xv⟩)))))))))))))
abbrev xk:dE:=top 17
def qy:FS:=(fr (mB (m2 (b2 gEq) (m2 (b2 dL) (mV 4) (m2 (b2 dL) (mV 2) (mV 5))) (m2 (b2 dL) (mV 4) (m2 (b2 dL) (mV 2) (mV 6))))) (eg (eH (dG (mC (D.str "alike")) (dG (mV 5) (dG (mV 6) (dG (mV 4) dH)))))) kT)
def qx:FS:=(fE (KD (dG (m2 (b2 fY) (mV 5) (mC (D.int 1))) (dG (mN (b1 eD) (dG (mV 2) dH)) dH))) (gN 6) qy)
def yx:FS:=(dP (dS (mV 1) (gT 2 (gCs (gN 2) (gCs (gN 3) gNl))))
  (dP (dS (mN (dI 2 fL) (dG (mV 0) (dG (mN (dI 2 eK) (dG (mV 0) (dG (mV 3) dH))) dH))) (gN 4))
  (dP (fE (nJ (dG (mN (b1 eD) (dG (mV 2) dH)) dH)) (gN 5) qx)
  (eg (mC D.non)))))
def lU:FN:=gM 7 yx
theorem BS {f:dk}(F:d7 K "alike" xk f)(b:eT P w K mg base 1 "chalk_signs" 2 eK)(a:eT P w K mg base 3 "colouring" 2 fL):
  eT P w K mg base 4 "alike" 2 lU:=xq ["web","standing","rooms","chalk","colours","i","j"] X G F λc=>
 (qF (qR xv (tg2 gq gq)) (qF (sq (wn a (a2 xv (wn b (a2 xv xv))))) (qF (fo (ir (a1 (cn eI (a1 xv)))) gq (qG (fo (n6 O (bz B) (a2 (qI fZ xv qK) (cn eI (a1 xv)))) gq (qG (qV (ct (oq iX) (jq xv (jq xv xv)) (jq xv (jq xv xv))) (qG (qU (dY (qA fe (a3 xv xv xv))))) qQ))))) (qG (qU iA)))))
abbrev kI:dE:=top 18
def iK:FS:=(dP (fr (vB (mN (dI 3 gr) (dG (mV 3) (dG (mC (D.str "colours")) (dG (mC (D.int 2)) dH))))) (eg (kU (mN (dI 3 eY) (dG (mV 0) (dG (mN (dI 2 fM) (dG (mV 0) (dG (mV 1) dH))) (dG (m2 (b2 dL) (mV 3) (mC (D.int 1))) dH)))) (uD (mN (dI 1 eU) (dG (m2 (b2 dL) (mV 3) (mC (D.int 1))) dH))))) kT)
  (dP (fr (p0 (vB (mV 2)) (vB (mN (dI 3 gr) (dG (mV 3) (dG (mC (D.str "alike")) (dG (mC (D.int 4)) dH)))))) (eg (mN (dI 3 gb) (dG (mV 0) (dG (mV 1) (dG (mV 3) dH))))) kT)
  (eg (mC (D.bl J)))))
def d2:FN:=gM 4 iK
theorem oH {f:dk}(F:d7 K "shows_never" kI f)(d:eT P w K mg base 2 "all_signs" 2 fM)(e:eT P w K mg base 1 "all_unlike" 1 eU)(c:eT P w K mg base 2 "is_colouring" 3 eY)(a:eT P w K mg base 2 "is_headed" 3 gr)(b:eT P w K mg base 3 "shows_alike" 3 gb):
  eT P w K mg base 4 "shows_never" 4 d2:=xq ["web","standing","quiet","thing"] X G F λg=>
 (qF (qV (gx (wn a (a3 xv fe qK))) (qG (qU (jb (wn c (a3 xv (wn d (a2 xv xv)) (jq xv qK))) (j9 (wU (wn e (a1 (jq xv qK)))))))) qQ) (qF (qV (kG (j5 (gx xv) (jv (gx (wn a (a3 xv fe qK)))))) (qG (qU (wn b (a3 xv xv xv)))) qQ) (qG (qU fJ))))
abbrev kO:dE:=top 41
def k4:FS:=(dP (dS (m2 (b2 dL) (g6 (dG (mC (D.int 2)) (dG (mC (D.int 2)) (dG (mC (D.int 3)) (dG (mC (D.int 4)) dH))))) (mN (dI 2 dM) (dG (mV 0) (dG (mC (D.int 4)) dH)))) (gN 1))
  (eg (mN (dI 3 gC) (dG (mV 0) (dG (mN (dI 2 fq) (dG (mV 0) (dG (m2 (b2 nK) (mC (D.int 8)) (mV 1)) dH))) (dG (mV 1) dH))))))
def gf:FN:=gM 2 k4
theorem oN {f:dk}(F:d7 K "_law_copies" kO f)(b:eT P w K mg base 3 "_law_cover" 3 gC)(a:eT P w K mg base 3 "_law_plain_web" 2 fq)(c:eT P w K mg base 1 "_law_take" 2 dM):
  eT P w K mg base 4 "_law_copies" 1 gf:=xq ["_law_hand_here","_law_copies_here"] X G F λd=>
 (qF (sq (jq (ff (qA qK (a3 qK qK qK))) (wn c (a2 xv qK)))) (qG (qU (wn b (a3 xv (wn a (a2 xv (qI uv qK xv))) xv)))))
abbrev lF:dE:=top 46
def io:FS:=(dP (dS (eH (dG (m2 (b2 dL) (m2 (b2 dL) (mV 6) (mC (D.int 0))) (mV 7)) (dG (m2 (b2 dL) (m2 (b2 dL) (mV 6) (mC (D.int 0))) (mV 8)) dH))) (gT 2 (gCs (gN 10) (gCs (gN 11) gNl))))
  (dP (fr (Ck (vB (mN (dI 1 jL) (dG (mV 6) dH))) (Ck (mB (m2 (b2 gEq) (m2 (b2 dL) (mV 10) (mC (D.int 0))) (m2 (b2 dL) (mV 11) (mC (D.int 0))))) (Ck (mB (m2 (b2 wm) (kB (mV 10) (jm (mC (D.int 1))) iY) (kB (mV 11) (jm (mC (D.int 1))) iY))) (mB (m2 (b2 wm) (m2 (b2 dL) (mV 6) (mC (D.int 1))) (m2 (b2 dL) (mV 2) (mC (D.int 1)))))))) (eg (mC (D.bl J))) kT)
  (dS (mN (dI 3 oR) (dG (mV 1) (dG (mV 5) (dG (mV 6) dH)))) (gN 6))))
def me:FS:=(dP (dS (kB (eH (dG (mC (D.str "came")) (dG (mC (D.str "chalk")) (dG (mC (D.str "doors")) (dG (mC (D.str "others")) dH))))) iY (jm (m2 (b2 dL) (g6 (dG (mC (D.int 4)) (dG (mC (D.int 3)) dH))) (mN (b1 pf) (dG (m2 (b2 (jj fun i j=>decide (j<i))) (mN (b1 eD) (dG (m2 (b2 dL) (mV 2) (mC (D.int 0))) dH)) (mC (D.int 2))) dH))))) (gN 4))
  (dP (dS (eH (dG (mN (dI 3 fO) (dG (mV 0) (dG (mN (dI 2 gZ) (dG (mV 0) (dG (mV 4) dH))) (dG (eH (dG (mC (D.str "leave")) dH)) dH)))) (dG (mN (dI 1 lT) (dG (mV 2) dH)) dH))) (gT 2 (gCs (gN 5) (gCs (gN 6) gNl))))
  (dP (dS (eH (dG (pZ (b2 jP) (m2 (b2 dL) (mV 2) (mC (D.int 0))) (dG (m2 (b2 dL) (mV 3) (mC (D.int 0))) dH)) (dG (pZ (b2 jP) (m2 (b2 dL) (mV 2) (mC (D.int 0))) (dG (m2 (b2 dL) (mV 3) (mC (D.int 1))) dH)) dH))) (gT 2 (gCs (gN 7) (gCs (gN 8) gNl))))
  (dP (fE (nJ (dG (mC (D.int 40)) dH)) (gN 9) io)
  (eg (mC (D.bl M)))))))
def fy:FN:=gM 12 me
theorem pV {f:dk}(F:d7 K "_law_right" lF f)(c:eT P w K mg base 2 "_law_eyes" 2 gZ)(e:eT P w K mg base 2 "_law_machine" 3 fO)(a:eT P w K mg base 3 "beat" 3 oR)(b:eT P w K mg base 1 "begun" 1 lT)(d:eT P w K mg base 1 "is_met" 1 jL):
  eT P w K mg base 4 "_law_right" 4 fy:=xq ["_law_hand_here","_law_web","_law_standing","_law_two","_law_some","_law_machine_here","_law_whole","_law_i","_law_j","_law_turn","_law_one","_law_other"] X G F λg=>
 (qF (sq (gh (dY (qA fe (a3 fe fe fe))) ic (ib (jq (ff (a2 qK qK)) (cz vn (a1 (ce Ff (cn eI (a1 (jq xv qK))) qK))))))) (qF (ja 5 6 O (gF O) O O (by decide) O O (a2 (wn e (a3 xv (wn c (a2 xv xv)) (dY (a1 fe)))) (wn b (a1 xv)))) (qF (ja 7 8 O (gF O) O O (by decide) O O (a2 (j8 RX RY (rY g.units) (jq xv qK) (a1 (jq xv qK))) (j8 RX RY (rY g.units) (jq xv qK) (a1 (jq xv qK))))) (qF (fo (ir (a1 qK)) gq (qF (ja 10 11 O (gF O) O O (by decide) O O (a2 (jq (jq xv qK) xv) (jq (jq xv qK) xv))) (qF (qV (kG (k9 (gx (wn d (a1 xv))) (k9 (ct (oq iX) (jq xv qK) (jq xv qK)) (k9 (ct (oq wb) (gh xv (ib qK) ic) (gh xv (ib qK) ic)) (ls (ct (oq wb) (jq xv qK) (jq xv qK))))))) (qG (qU fJ)) qQ) (qG (sq (wn a (a3 xv xv xv))))))) (qG (qU fJ))))))
abbrev xg:dE:=top 16
def yu:FS:=(dP (dS (mN (dI 2 fL) (dG (mV 0) (dG (mN (dI 2 fM) (dG (mV 0) (dG (mV 1) dH))) dH))) (gN 3))
  (dP (fr (nE (vB (mN (dI 1 eU) (dG (mV 3) dH)))) (eg (eH (dG (mC (D.str "colours")) (dG (mV 3) dH)))) kT)
  (eg (uE (vB (mV 2)) (mN (dI 2 lU) (dG (mV 0) (dG (mV 1) dH))) (mC D.non)))))
def kj:FN:=gM 4 yu
theorem BO {f:dk}(F:d7 K "never" xg f)(d:eT P w K mg base 4 "alike" 2 lU)(a:eT P w K mg base 2 "all_signs" 2 fM)(c:eT P w K mg base 1 "all_unlike" 1 eU)(b:eT P w K mg base 3 "colouring" 2 fL):
  eT P w K mg base 5 "never" 3 kj:=xq ["web","standing","quiet","colours"] X G F λe=>
 (qF (sq (wn b (a2 xv (wn a (a2 xv xv))))) (qF (qV (j6 (gx (wn c (a1 xv)))) (qG (qU (dY (a2 fe xv)))) qQ) (qG (qU (lc (gx xv) (wn d (a2 xv xv)) iA)))))
abbrev ua:dE:=top 47
def sD:FS:=(dP (dS (mN (dI 1 gf) (dG (mV 2) dH)) (gT 2 (gCs (gN 4) (gCs (gN 5) gNl))))
  (dP (dS (mN (dI 3 fN) (dG (mV 2) (dG (mV 4) (dG (mV 5) dH)))) (gT 2 (gCs (gN 6) (gCs (gN 7) gNl))))
  (dP (dS (eH (dG (mV 6) (dG (mN (dI 3 gX) (dG (mV 2) (dG (mV 4) (dG (mV 5) dH)))) dH))) (gN 8))
  (fr (p0 (mB (m2 (b2 gEq) (mN (b1 eD) (dG (mV 7) dH)) (mC (D.int 2)))) (p0 (mB (m2 (b2 wm) (m2 (b2 dL) (mV 7) (mC (D.int 0))) (m2 (b2 dL) (mV 7) (mC (D.int 1))))) (mB (m2 (b2 gEq) (m2 (b2 dL) (mV 5) (m2 (b2 dL) (mV 7) (mC (D.int 0)))) (m2 (b2 dL) (mV 5) (m2 (b2 dL) (mV 7) (mC (D.int 1)))))))) (dP (dS (eH (dG (mC (D.str "alike")) (dG (pZ (b2 jP) (mV 6) (dG (m2 (b2 dL) (mV 7) (mC (D.int 0))) dH)) (dG (pZ (b2 jP) (mV 6) (dG (m2 (b2 dL) (mV 7) (mC (D.int 1))) dH)) (dG (mV 5) dH))))) (gN 9))
  (dP (dS (mN (dI 3 kj) (dG (mV 4) (dG (mV 8) (dG (mC (D.bl M)) dH)))) (gN 10))
  (dP (fr (mB (m2 (b2 hW) (mN (dI 4 d2) (dG (mV 4) (dG (mV 8) (dG (mC (D.bl M)) (dG (mV 9) dH))))) (mC (D.bl M)))) (eg (mC (D.bl J))) kT)
  (dP (fr (mB (m2 (b2 hW) (mN (dI 4 d2) (dG (mV 4) (dG (mV 8) (dG (mC (D.bl J)) (dG (mV 9) dH))))) (mC (D.bl J)))) (eg (mC (D.bl J))) kT)
  (dP (fr (Ck (mB (m2 (b2 wo) (mV 10) (mC D.non))) (mB (m2 (b2 hW) (mN (dI 4 d2) (dG (mV 4) (dG (mV 8) (dG (mC (D.bl M)) (dG (mV 10) dH))))) (mC (D.bl M))))) (eg (mC (D.bl J))) kT)
  (fr (nE (vB (mN (b1 p8) (dG (eA 1 [2,4,8,7] (nJ (dG (mC (D.int 3)) dH)) (gN 0) eZ (ee (mN (dI 4 fy) (dG (mV 1) (dG (mV 2) (dG (mV 3) (dG (mV 4) dH))))))) dH)))) (eg (mC (D.bl J))) kT)))))) kT))))
def sC:FS:=(dP (dS (mN (dI 2 fP) (dG (mV 0) (dG (mV 1) dH))) (gN 2))
  (fE (nJ (dG (mC (D.int 2)) dH)) (gN 3) sD))
def xB:FS:=(qC [M,M,J,J,J,J,J,J,J,J,J] [M,J,J,J,J,J,J,J,J,J,J] sC)
def Du:FS:=(dP (fE (nJ (dG (mN (b2 Gg) (dG (mC (D.int 1)) (dG (mN (b2 Gf) (dG (mC (D.int 4)) (dG (mN (b1 eD) (dG (mV 0) dH)) dH))) dH))) dH)) (gN 1) xB)
  (eg (mC (D.bl M))))
def m_law:FN:=gM 11 Du
theorem IJ {f:dk}{fd:dD}(F:An K "law" "law" ua f fd)(e:eT P w K mg base 4 "_law_copies" 1 gf)(c:eT P w K mg base 1 "_law_hand" 2 fP)(g:eT P w K mg base 2 "_law_kept" 3 gX)(d:eT P w K mg base 4 "_law_right" 4 fy)(i:eT P w K mg base 2 "_law_walkers" 3 fN)(j:eT P w K mg base 5 "never" 3 kj)(a:eT P w K mg base 4 "shows_never" 4 d2):
  j3 P w K mg base vz 6 f fd ["_law_script"] (A3 K 1 m_law):=Hs (k:=5) (n:=1) (N:=["_law_script","_law_k","_law_hand_here","_law_turn","_law_web","_law_copied","_law_walkers_here","_law_two","_law_standing","_law_paper","_law_told"]) (ps:=["_law_script"]) (b:=Du) F sk O λm A h s H E l=>
 (qF (fo (ir (a1 (cn (Me O) (a2 qK (cn (Md O) (a2 qK (cn eI (a1 xv)))))))) gq (yF [M,M,J,J,J,J,J,J,J,J,J] [M,J,J,J,J,J,J,J,J,J,J] (qF (sq (wn c (a2 xv xv))) (qG (fo (ir (a1 qK)) gq (qF (qR (wn e (a1 xv)) (tg2 gq gq)) (qF (qR (wn i (a3 xv xv xv)) (tg2 gq gq)) (qF (sq (dY (a2 xv (wn g (a3 xv xv xv))))) (qG (qV (kG (j5 (ct (oq iX) (cn eI (a1 xv)) qK) (j5 (ct (oq wb) (jq xv qK) (jq xv qK)) (jv (ct (oq iX) (jq xv (jq xv qK)) (jq xv (jq xv qK))))))) (qF (sq (dY (qA fe (a3 (j8 RX RY (rY l.units) xv (a1 (jq xv qK))) (j8 RX RY (rY l.units) xv (a1 (jq xv qK))) xv)))) (qF (sq (wn j (a3 xv xv fJ))) (qF (qV (ct oP (wn a (qA xv (a3 xv fJ xv))) fJ) (qG (qU fJ)) qQ) (qF (qV (ct oP (wn a (qA xv (a3 xv fJ xv))) fJ) (qG (qU fJ)) qQ) (qF (qV (kG (k9 (ct G5 xv iA) (ls (ct oP (wn a (qA xv (a3 xv fJ xv))) fJ)))) (qG (qU fJ)) qQ) (qG (qV (j6 (gx (cn (Dn O) (a1 (fk ["_law_more"] (ir (a1 qK)) ⟨gq,eh,(wn d (qA xv (a3 xv xv xv)))⟩))))) (qG (qU fJ)) qQ))))))) qQ)))))))))) (qG (qU fJ)))
end
theorem all_mk {l:PySem.W.OpenLaw}{w:dr}{K:Fg1}{h:dB}{mg:Str->Option di}{fa f1 f2 f3 f4 f5 f6 f7 f8 f9 f10 f11 f12 f13 f14 I Q o S F f20 C f22 f23 f24 N f26 f27 f28 f29 f30 R k f33 f34 av f36 wq f38 H r:dk}(X:K.In h)(G:h.Ns dv mg)(hfa:mg "law"=some (.ref fa))
  {g1 g2 g5 g8 i:dk}
  {t3 t4 t6 t7 t9 t10 t12 m:Tok}
  {n2 n5 n8 n11 n1:Nat} {sl2 t sl8 g sl1:Array (Option di)}
  (a1:d7 K "is_whole" ox f1)
  (a2:d7 K "is_tuple_of" kK f2)
  (a3:d7 K "looks" xi f3)
  (a4:d7 K "numbered" ou f4)
  (a5:d7 K "all_unlike" lE f5)
  (a6:d7 K "chalk_signs" kM f6)
  (a7:d7 K "sights" t8 f7)
  (a8:d7 K "first_of" oz f8)
  (a9:d7 K "begun" xj f9)
  (a10:d7 K "sight_of" oo f10)
  (E:d7 K "handled" qr f11)
  (a12:d7 K "stepped" qp f12)
  (a13:d7 K "is_met" ub f13)
  (a14:d7 K "_law_hand" m6 f14)
  (a15:d7 K "_law_take" m4 I)
  (U:d7 K "is_below" oy Q)
  (a17:d7 K "is_headed" mX o)
  (a18:d7 K "is_colouring" jC S)
  (a19:d7 K "refined" qq F)
  (p:d7 K "all_signs" mZ f20)
  (a21:d7 K "deed_of" qs C)
  (V:d7 K "wants" xf f22)
  (a23:d7 K "moved" xh f23)
  (A:d7 K "_law_doored" kN f24)
  (L:d7 K "_law_order" lG N)
  (a26:d7 K "_law_kept" m5 f26)
  (x:d7 K "_law_machine" jE f27)
  (T:d7 K "_law_eyes" m7 f28)
  (a29:d7 K "_law_walkers" jD f29)
  (a30:d7 K "colouring" mY f30)
  (a31:d7 K "shows_alike" kJ R)
  (a32:d7 K "beat" Bk k)
  (a33:d7 K "_law_plain_web" iU f33)
  (y:d7 K "_law_cover" lH f34)
  (a35:d7 K "alike" xk av)
  (a36:d7 K "shows_never" kI f36)
  (a37:d7 K "_law_copies" kO wq)
  (au:d7 K "_law_right" lF f38)
  (a39:d7 K "never" xg H)
  (b:d7 K "law" ua r)
  (e_PARTS:wN1 K dv "PARTS"=Z (Z (Pj g1)))
  (h1:K.lookup g1=Z ⟨.type "tuple",Y,.seq ([(Pj g2),(Pj g5),(Pj g8),(Pj i)]:List di).toArray n1,sl1⟩)
  (h2:K.lookup g2=Z ⟨.type "tuple",Y,.seq ([(ae "came" t3),(ab (5) t4)]:List di).toArray n2,sl2⟩)
  (h5:K.lookup g5=Z ⟨.type "tuple",Y,.seq ([(ae "chalk" t6),(ab (2) t7)]:List di).toArray n5,t⟩)
  (h8:K.lookup g8=Z ⟨.type "tuple",Y,.seq ([(ae "doors" t9),(ab (5) t10)]:List di).toArray n8,sl8⟩)
  (h11:K.lookup i=Z ⟨.type "tuple",Y,.seq ([(ae "others" t12),(ab (2) m)]:List di).toArray n11,g⟩)
  (z:Mr K BL):∃fd:dD,(∀(s:dj) (v:di),BindsTo s fd ⟨[v],[]⟩ [("_law_script",v)]) /\ ∀base:dB,K.In base->base.Ns dv mg->j3 l.prog w K mg base vz 6 fa fd ["_law_script"] (A3 K 1 m_law):=by
 have e:=hfa.symm.trans (wM1 X G b.ns);cases e;have B:Blt BL mg:=z.blt X G;have g0:CGl K mg "numbered" (D.fn "numbered"):=Di (wM1 X G a4.ns) (L6 a4.ns);have c0:CGl K mg "PARTS" kw:=Di (wM1 X G e_PARTS) (px h1 (by show 4<=dy;decide) (fB (px h2 (by show 2<=dy;decide) (fB tu (fB tw l7))) (fB (px h5 (by show 2<=dy;decide) (fB tu (fB tw l7))) (fB (px h8 (by show 2<=dy;decide) (fB tu (fB tw l7))) (fB (px h11 (by show 2<=dy;decide) (fB tu (fB tw l7))) l7)))));obtain⟨_,⟨⟨_,_,kV,dc,pm,an,cd,ct,_,rfl,lL,cL⟩,kL⟩⟩:=b.fn;refine⟨wF1 "law" "law" (iI ua) (fz ua) (d5 ua) .none kV dc pm an cd ct,λs v=>.of_eq O,λbase _ _=>?_⟩;have o0:=ur (P:=l.prog) (w:=w) (base:=base) X G B a1;have o1:=oJ (P:=l.prog) (w:=w) (base:=base) X G B a2;have o2:=BQ (P:=l.prog) (w:=w) (base:=base) X G B a3;have o3:=uq (P:=l.prog) (w:=w) (base:=base) X G B a4;have f:=pU (P:=l.prog) (w:=w) (base:=base) X G B a5;have o4:=oK (P:=l.prog) (w:=w) (base:=base) X G B a6;have o10:=zg (P:=l.prog) (w:=w) (base:=base) X G B a7 c0;have o5:=uu (P:=l.prog) (w:=w) (base:=base) X G B a8;have n:=BR (P:=l.prog) (w:=w) (base:=base) X G B a9;have o6:=uo (P:=l.prog) (w:=w) (base:=base) X G B a10 c0;have o7:=v9 (P:=l.prog) (w:=w) (base:=base) X G B E;have o8:=v7 (P:=l.prog) (w:=w) (base:=base) X G B a12;have q:=zh (P:=l.prog) (w:=w) (base:=base) X G B a13;have o33:=sJ (P:=l.prog) (w:=w) (base:=base) X G B a14;have a:=sH (P:=l.prog) (w:=w) (base:=base) X G B a15;have o12:=ut X G B U o0;have u:=sE X G B a17 o1;have d:=nB X G B a18 o1 o0 o2;have o11:=v8 X G B a19 o2 o3;have j:=sG X G B p o4;have o14:=wa X G B a21 o5;have W:=BN X G B V o6;have o15:=BP X G B a23 o7 o8;have o17:=oM X G B A a;have aq:=pW X G B L a;have o34:=sI X G B a26 a;have o27:=nD X G B x a o10;have ao:=sK X G B T a;have o36:=nC X G B a29 a;have c:=sF X G B a30 o11 g0;have o23:=oI X G B a31 o4 o12 d;have o28:=Fc X G B a32 o14 o15 W;have o25:=lO X G B a33 o17 a;have o24:=pX X G B y aq;have o31:=BS X G B a35 o4 c;have o38:=oH X G B a36 j f d u o23;have o32:=oN X G B a37 o24 o25 a;have o35:=pV X G B au ao o27 o28 n q;have o37:=BO X G B a39 o31 j f c;exact IJ (P:=l.prog) (w:=w) (base:=base) X G B (CQ lL cL kL) o32 o33 o34 o35 o36 o37 o38
variable{T S:Sto}{o:Ob}{n m i j a b r:Nat}{Q:D×Sto->Prop}{E:jt}{e:E4}{rs ks ws cs:List Nat}{F:List (TK×D)}{met:List (Nat×Nat)}{L:List Rw}
noncomputable def hnd(g m c:Int):Ob:=.lst [.int g,.int m,.int c]
noncomputable def I9(m c:Int):Int:=(m+9973*c*c+17)*69621%2305843009213693921
def Ca(m c:Int):Int:=I9 m c*(I9 m c%999983+7919*c)%2305843009213693907
theorem Mg{a b c:D}:wG [a,b,c] 0=Z a:=by rfl
theorem NM{a b c:D}:wG [a,b,c] 1=Z b:=by rfl
theorem NL{a b c:D}:wG [a,b,c] 2=Z c:=by rfl
theorem HI{g m c k:Int}(hg:0<g)(hk:0<k)(a:k<1073741824):
  dM [.ref 0,.int k] (hnd g m c::T)=Z (.int (g%k),hnd (g/k) m c::T):=by
 simp[dM,gM,hB,jX,dP,fr,mB,m2,b2,jj,mV,mC,dL,mQ,D2,dZ,hnd,hg,hk,a,dS,gN,lZ,nK,gS,b3,jp,nj,lh,eg,Mg,zy]
theorem HH{g m c k:Int}(hg:¬ 0<g)(hk:0<k)(a:k<1073741824)(hc:0<=c)(e:c<2^60):
  dM [.ref 0,.int k] (hnd g m c::T)=Z (.int ((Ca m (c+1)/101+Ca m (c+1)/1000003)%k),hnd g m (c+1)::T):=by
 have d:e9 9973 (c+1)=M:=uz (by decide) (by decide);have i:e9 (9973*(c+1)) (c+1)=M:=xH (by omega) (by omega);have h:e9 (m+9973*(c+1)*(c+1)+17) 69621=M:=xH (by decide) (by decide);have b:e9 7919 (c+1)=M:=uz (by decide) (by decide);have q:=RR ((m+9973*(c+1)*(c+1)+17)*69621) (show(0:Int)<2305843009213693921 by decide);have j:=RQ ((m+9973*(c+1)*(c+1)+17)*69621) (show(2305843009213693921:Int)≠0 by decide);have f:e9 ((m+9973*(c+1)*(c+1)+17)*69621%2305843009213693921) ((m+9973*(c+1)*(c+1)+17)*69621%2305843009213693921%999983+7919*(c+1))=M:=uz (by omega) (by omega);simp[dM,gM,hB,jX,dP,fr,mB,m2,b2,jj,mV,mC,dL,mQ,D2,dZ,hnd,hg,hk,a,dS,gN,lZ,nK,gS,b3,jp,nj,lh,eg,Mg,NM,NL,zy,kT,fY,mP,d,i,h,b,f,I9,Ca]
def fw(o:Ob)(n:Nat):Prop:=∃g m c:Int,o=hnd g m c/\0<=c/\c<=n
theorem fw.und{k:Nat}(h:fw o n):o.und k=M:=by
 obtain⟨g,m,c,rfl,_⟩:=h;rfl
theorem fw.more{k:Nat}(h:fw o n)(hk:n<=k):fw o k:=by
 obtain⟨g,m,c,e,a,h1⟩:=h;exact⟨g,m,c,e,a,by lia⟩
theorem fD{k:Int}(ho:fw o n)(hn:n<=2^50)(hk:0<k)(a:k<1073741824)(h:∀(d:Nat) o',fw o' (n+1)->(d:Int)<k->Q (.int d,o'::T)):W (dI 2 dM [.ref 0,.int k] (o::T)) Q:=by
 obtain⟨g,m,c,rfl,i,h1⟩:=ho;have call:∀d o',dM [.ref 0,.int k] (hnd g m c::T)=Z (d,o'::T)->dI 2 dM [.ref 0,.int k] (hnd g m c::T)=Z (d,o'::T):=λd o e=>Ab e O (by simp[D.unds,D.und]) (by simp);by_cases f:0<g
 ·have b:=RQ g (show k≠0 by lia);obtain⟨d,e⟩:=Int.eq_ofNat_of_zero_le b;refine⟨_,call _ _ (HI f hk a),?_⟩;rw[e];exact h d _ ⟨_,_,_,O,i,by lia⟩ (by rw[<- e];exact RR _ hk)
 ·have b:=RQ (Ca m (c+1)/101+Ca m (c+1)/1000003) (show k≠0 by lia);obtain⟨d,e⟩:=Int.eq_ofNat_of_zero_le b;refine⟨_,call _ _ (HH f hk a i (by lia)),?_⟩;rw[e];exact h d _ ⟨_,_,_,O,by lia,by push_cast;lia⟩ (by rw[<- e];exact RR _ hk)
theorem Gc(ns:List Int)(k:Int)(l:0<=k)(hk:k<63):∃o,dI 2 fP [.rol (ns.map D.int),.int k] []=Z (.ref 0,[o])/\fw o 0:=by
 have i:∃g m,fP [.rol (ns.map D.int),.int k] []=Z (.ref 0,[hnd g m 0]):=by
  have j:e9 (10^60) (10^30)=M:=by decide+kernel
  have d:e9 7919 k=M:=uz (by decide) (by decide);have a:e9 0 0=M:=uz (by decide) (by decide);have f:∀(x:Int) (b:Prop) [Decidable b],e9 x (if b then 1 else 0)=M:=λx b _=>by
   split
   ·exact xH (by decide) (by decide)
   ·exact xH (by decide) (by decide)
  have lt:gLt (.int k) (.int ns.length) []=Z (.bl (decide (k<ns.length)),[]):=by rfl
  by_cases h:k<ns.length
  ·have c:wG (ns.map D.int) k=some (.int (ns[k.toNat]'(by lia))):=by
    unfold wG zy;rw[ak l,ak (by simpa using h)];simp[show k.toNat<ns.length by lia]
   generalize p:ns[k.toNat]'(by lia)=x at c
   simp[fP,gM,hB,jZ,dP,fr,mB,m2,b2,b1,mN,dG,dH,jj,mV,mC,dL,mQ,D2,eD,dZ,dS,gN,lZ,mP,fY,wl,pf,eg,g6,lt,h,c,d,f,dy,hnd,kT];simp[show e9 1000000000000000000000000000000000000000000000000000000000000 1000000000000000000000000000000=M from j,a,d,f]
  ·simp[fP,gM,hB,jZ,dP,fr,mB,m2,b2,b1,mN,dG,dH,jj,mV,mC,dL,mQ,D2,eD,dZ,dS,gN,lZ,mP,fY,wl,pf,eg,g6,lt,h,d,f,dy,hnd,kT];simp[show e9 1000000000000000000000000000000000000000000000000000000000000 1000000000000000000000000000000=M from j,a,d,f]
 obtain⟨g,m,e⟩:=i;refine⟨hnd g m 0,?_,_,_,_,O,Int.le_refl _,Int.le_refl _⟩;rw[pB (n:=2) e O (by rw[D.unds,D.und,mw];rfl) (by simp[D.und])];simp[D.sh,Ob.sh,D.shs,hnd]
abbrev jt:=List (List Nat)
structure WN (t m:Nat)(T:Sto)(E:jt)(U:Sto):Prop where
 tl:T.length=t
 low:U.take t=T
 el:E.length=m
 row:∀(i:Nat) (row:List Nat),E[i]?=some row->U[t+i]?=some (.lst (nmD row))
 ends:U[t+m]?=some (.lst (jG (t+1) m))
 cl:∀o∈U,o.und (U.length+1)=true
theorem G6{xs:List Nat}:(Ob.lst (nmD xs)).und n=M:=iQ (fx xs)
theorem WN.app{t:Nat}{U G:Sto}(w:WN t m T E U)(c:∀o∈G,o.und 0=M):WN t m T E (U++G):=by
 have b:t+m<U.length:=(R1 w.ends).1;refine⟨w.tl,?_,w.el,λi row h=>?_,?_,λo a=>?_⟩
 ·rw[List.take_append_of_le_length (by lia)];exact w.low
 ·have:=w.row i row h;rw[gL1 (R1 this).1];exact this
 ·rw[gL1 b];exact w.ends
 ·rcases aG.mp a with a|a
  ·exact gW (by rw[lA1];lia) (w.cl o a)
  ·exact gW (bi _) (c o a)
theorem WN.setRow{t:Nat}{U:Sto}{row:List Nat}(w:WN t m T E U)(hi:i<m):WN t m T (E.set i row) (U.set (t+i) (.lst (nmD row))):=by
 have b:t+m<U.length:=(R1 w.ends).1;refine⟨w.tl,?_,by rw[aV];exact w.el,λj r h=>?_,?_,λo a=>?_⟩
 ·rw[List.take_set_of_le (by lia)];exact w.low
 ·by_cases e:i=j
  ·subst e;rw[aJ (by rw[w.el];exact hi)]at h;cases h;rw[aJ (by lia)]
  ·rw[gS1 e]at h;rw[gS1 (by lia)];exact w.row j r h
 ·rw[gS1 (by lia)];exact w.ends
 ·rw[aV];rcases List.mem_or_eq_of_mem_set a with a|rfl
  ·exact w.cl o a
  ·exact G6
theorem WN.split{t:Nat}{U:Sto}(w:WN t m T E U):U=T++U.drop t:=by
 conv=>lhs;rw[<- cm t U,w.low]
theorem qt:∀(k n:Nat),jG n (k+1)=jG n k++[.ref (n+k)]
 |0,n=>rfl
 |k+1,n=>by
  rw[jG,qt k (n+1),jG,bj,show n+1+k=n+(k+1) by lia]
theorem ui:∀(k n N:Nat),n+k<=N->D.unds N (jG n k)=M
 |0,_,_,_=>rfl
 |k+1,n,N,h=>by
  rw[jG,D.unds,ui k (n+1) N (by lia),D.und,bJ,am];lia
theorem Ay{t:Nat}(tl:T.length=t)(b:T.all (Ob.und (T.length+1))=M):WN t m T (aP m []) (T++(aP m (.lst [])++[.lst (jG (t+1) m)])):=by
 refine⟨tl,by rw[<- tl,List.take_left],by simp,λi row h=>?_,?_,λo a=>?_⟩
 ·have hi:i<m:=by have:=(R1 h).1;simpa using this
  rw[aS,ak hi]at h;cases h;rw[<- tl,eO,gL1 (by simpa using hi),aS,ak hi];rfl
 ·rw[<- tl,eO,gR1 (by simp)];simp
 ·rw[aG,aG,bC,cv]at a;rcases a with a|⟨_,rfl⟩|rfl
  ·exact gW (by rw[lA1];lia) (bA.mp b o a)
  ·rfl
  ·rw[Ob.und];exact ui _ _ _ (by simp;lia)
theorem n0{t:Nat}{U:Sto}(w:WN t m T E U)(hi:i<m)(q:Q (.ref (t+i+1),o::U)):W (dL (.ref (t+m+1)) (.int i) (o::U)) Q:=
 j1 (xs:=jG (t+1) m) (x:=.ref (t+i+1)) (by rw[gC1];exact w.ends) (by rw[sw hi];congr 2;lia) q
theorem pk{v k:Nat}:∀{E:jt} {i:Nat} {row:List Nat},E[i]?=Z row->(E.set i (row++[k])).flatten.count v=E.flatten.count v+if k=v then 1 else 0
 |[],i,row,h=>by simp at h
 |r::E,0,row,h=>by
  rw[cS]at h;cases h;simp only[cT,cW,List.count_append,List.count_cons,List.count_nil,RO];lia
 |r::E,i+1,row,h=>by
  rw[gC1]at h;simp only[cD,cW,List.count_append,pk h];lia
theorem pj{k:Nat}:∀{E:jt} {i:Nat} {row:List Nat},E[i]?=Z row->(E.set i (row++[k])).flatten.length=E.flatten.length+1
 |[],i,row,h=>by simp at h
 |r::E,0,row,h=>by
  rw[cS]at h;cases h;simp only[cT,cW,lA1,lC1,bf];lia
 |r::E,i+1,row,h=>by
  rw[gC1]at h;simp only[cD,cW,lA1,pj h];lia
theorem yf:∀{E:jt} {k:Nat},k<=E.length->(∀(i:Nat) (row:List Nat),i<k->E[i]?=Z row->4<=row.length)->4*k<=E.flatten.length
 |E,0,_,_=>by lia
 |[],k+1,h,_=>by simp at h
 |r::E,k+1,h,a=>by
  have h1:=a 0 r (by lia) O;have h2:=yf (E:=E) (k:=k) (by simpa using h) λi row hi b=>a (i+1) row (by lia) b;rw[cW,lA1];lia
structure WE (m:Nat)(E:jt)(k i:Nat):Prop where
 len:E.length=m
 le:∀(i:Nat) (row:List Nat),E[i]?=some row->row.length<=4
 fl:E.flatten.length=2*k
 ct:∀v,E.flatten.count v=if v<k then 2 else 0
 jn:∀j,1<=j->j<=i -> ∃a ra rb v,a<j/\E[a]?=some ra/\E[j]?=some rb/\v∈ra/\v∈rb
theorem AB(m:Nat):WE m (aP m []) 0 0:=by
 have e:(aP m ([]:List Nat)).flatten=[]:=by
  rw[List.flatten_eq_nil_iff];intro l a;exact(bC.mp a).2
 refine⟨by simp,λi row h=>?_,by rw[e];rfl,λv=>by rw[e,aj (by lia)];rfl,λj h1 h2=>by lia⟩;rw[aS]at h;split at h
 ·cases h;simp
 ·cases h
theorem lD{k:Nat}{row:List Nat}(h:E[i]?=Z row){r:List Nat}(b:E[j]?=Z r):∃r',(E.set i (row++[k]))[j]?=Z r' /\ ∀x∈r,x∈r':=by
 by_cases z:i=j
 ·subst z;rw[h]at b;cases b;exact⟨_,aJ (R1 h).1,λx a=>aH _ a⟩
 ·exact⟨r,by rw[gS1 z];exact b,λx a=>a⟩
theorem WE.tie{k i':Nat}{ra e:List Nat}(w:WE m E k i)(ha:E[a]? = some ra)(H:ra.length<4)(hb:(E.set a (ra++[k]))[b]? = some e)(I:e.length<4)(hi:i'<=i\/(i'=i+1/\b<a/\a=i')):
  WE m ((E.set a (ra++[k])).set b (e++[k])) (k+1) i':=by
 have a1:(E.set a (ra++[k]))[a]?=Z (ra++[k]):=aJ (R1 ha).1;refine⟨by rw[aV,aV];exact w.len,λj row d=>?_,?_,λv=>?_,λj h1 h2=>?_⟩
 ·by_cases z:b=j
  ·subst z;rw[aJ (R1 hb).1]at d;cases d;rw[lA1,aY];lia
  ·rw[gS1 z]at d;by_cases t:a=j
   ·subst t;rw[a1]at d;cases d;rw[lA1,aY];lia
   ·rw[gS1 t]at d;exact w.le j row d
 ·rw[pj hb,pj ha,w.fl];lia
 ·rw[pk hb,pk ha,w.ct v];split<;>split<;>split<;>lia
 ·rcases(show j<=i\/(j=a/\b<a) by lia)with f|⟨rfl,o⟩
  ·obtain⟨c,G,D,v,x,F,y,C,A⟩:=w.jn j h1 f;obtain⟨ao,B,u⟩:=lD (k:=k) ha F;obtain⟨l,g,p⟩:=lD (k:=k) hb B;obtain⟨r2,q,r⟩:=lD (k:=k) ha y;obtain⟨h,n,s⟩:=lD (k:=k) hb q;exact⟨c,l,h,v,x,g,n,p _ (u _ C),s _ (r _ A)⟩
  ·obtain⟨r2,q,r⟩:=lD (k:=k) hb a1;exact⟨b,e++[k],r2,k,o,aJ (R1 hb).1,q,by simp,r _ (by simp)⟩
theorem GU{t k:Nat}{U:Sto}{ra:List Nat}{r:Ev}{f g:FE}{Q:Fl×Ev×Sto->Prop}(w:WN t m T E U)(ha:a<m)(hb:b<m)(l:E[a]? = some ra)(G:ra.length<100)(A:∀ rb,E[b]? = some rb->rb.length<100)(hf:∀S,f r S=some (.int a,S))(hg:∀S,g r S=some (.int b,S))(B:mV 4 r=fun S=>some (.ref (t+m+1),S))(v:mV 3 r=fun S=>some (.int k,S))(h:∀rb y,(E.set a (ra++[k]))[b]?=some rb->WN t m T ((E.set a (ra++[k])).set b (rb++[k])) y->Q (.nx,r.set 3 (some (.int ((k+1:Nat):Int))),o::y)):
  W (dP (fG (oS (b2 iJ) (m2 (b2 dL) (mV 4) f) (dG (mV 3) dH))) (dP (fG (oS (b2 iJ) (m2 (b2 dL) (mV 4) g) (dG (mV 3) dH))) (dS (m2 (b2 fY) (mV 3) (mC (D.int (1)))) (gN 3))) r (o::U)) Q:=by
 have ap:∀(xs:List Nat),nmD xs++[D.int (k:Int)]=nmD (xs++[k]):=λxs=>by simp[nmD]
 have i:∀ {x:Nat} {d:List Nat} {E:jt} {U:Sto} {e:FE} {P:Fl×Ev×Sto->Prop} (w:WN t m T E U),x<m->E[x]? = some d->d.length<200->(∀ S,e r S=some (.int x,S))->P (.nx,r,o::U.set (t+x) (.lst (nmD (d++[k])))) ->
   W (fG (oS (b2 iJ) (m2 (b2 dL) (mV 4) e) (dG (mV 3) dH)) r (o::U)) P:=by
  intro x d E U e P w F u H C q;have z:(o::U)[t+x+1]?=Z (.lst (nmD d)):=by rw[gC1];exact w.row x d u
  unfold fG;rw[dN];refine i9 ?_;unfold m2;rw[B];simp only[oS1,C,b2];refine n0 w F ?_;refine⟨t+x+1,nmD d,O,z,?_⟩;unfold dG dH;rw[v];simp only[oS1,oP1];rw[dV];refine(k7 z).mpr ⟨dR (by rw[ej];lia),?_⟩;rw[ap,cD];exact dV.mpr q
 have p:=w.setRow (row:=ra++[k]) ha;obtain⟨rb,c⟩:∃rb,(E.set a (ra++[k]))[b]?=some rb:=⟨_,gG1 (by rw[p.el];exact hb)⟩;have n:rb.length<200:=by
  by_cases e:a=b
  ·subst e;rw[aJ (by rw[w.el];exact ha)]at c;cases c;rw[lA1,aY];lia
  ·rw[gS1 e]at c;have:=A rb c;lia
 refine d4 (λs S=>s=r/\S=o::U.set (t+a) (.lst (nmD (ra++[k])))) (i w ha l (by lia) hf ⟨O,O,O⟩) ?_;rintro s S ⟨rfl,rfl⟩;refine d4 (λj S=>j=s/\S=o::(U.set (t+a) (.lst (nmD (ra++[k])))).set (t+b) (.lst (nmD (rb++[k])))) (i p hb c n hg ⟨O,O,O⟩) ?_;rintro j S ⟨rfl,rfl⟩;unfold dS m2 mC gN;rw[v];simp only[oS1,b2];rw[dN,DS];exact dV.mpr (h rb _ c (p.setRow hb))
theorem HF{t:Nat}{U:Sto}{av x6 x7 N P:Option D}{Q:Fl×Ev×Sto->Prop}(w:WN t m T E U)(v:WE m E i i)(ho:fw o n)(hn:n<=2^44)(hi:i+1<m)(hm:m<=8)(he:∀j row,i+1<=j->E[j]?=some row->row=[])(h:∀R o' U' V wq,WN t m T R U'->WE m R (i+1) (i+1)->fw o' (n+1)->(∀j row,i+2<=j->R[j]?=some row->row=[]) ->
   Q (.nx,[Z (.ref 0),av,Z (.int m),Z (.int ((i+1:Nat):Int)),Z (.ref (t+m+1)),Z (.int ((i+1:Nat):Int)),V,wq,N,P],o'::U')):
  W (gj [Z (.ref 0),av,Z (.int m),Z (.int (i:Nat)),Z (.ref (t+m+1)),Z (.int ((i+1:Nat):Int)),x6,x7,N,P] (o::U)) Q:=by
 have e:∀j,j<m -> ∃row,E[j]?=Z row:=λj l=>⟨_,gG1 (by rw[v.len];exact l)⟩
 let k:Nat->Bool:=λj=>decide ((E.getD j []).length<4)
 unfold gj;have C:(af (i+1)).filter k≠[]:=by
  intro z;have F:∀j row,j<i+1->E[j]?=Z row->4<=row.length:=λj row l hr=>by
   have:=List.filter_eq_nil_iff.mp z j (aC.mpr l);simp only[k,bH,hr,b0,am]at this;lia
  have:=yf (E:=E) (k:=i+1) (by rw[v.len];lia) F;have:=v.fl;lia
 generalize X:(af (i+1)).filter k=L at C;have au:∀j∈L,j<i+1/\k j=M:=λj l=>by
  rw[<- X,aB]at l;exact⟨aC.mp l.1,l.2⟩
 have hLl:L.length<=8:=by
  rw[<- X];have:=cX k (af (i+1));simp at this;lia
 refine d4 (λr S=>r=[Z (.ref 0),av,Z (.int m),Z (.int (i:Nat)),Z (.ref (t+m+1)),Z (.int ((i+1:Nat):Int)),Z (.ref (U.length+1)),x7,N,P]/\S=o::(U++[.lst (nmD L)])) ?_ ?_
 ·walk_at"w";rw[kR,Qr];refine⟨eL (by lia),?_⟩;refine iH k (λj:Nat=>.int j) (λr=>∃x,r=[x,Z (.ref (t+m+1))]) O (af (i+1)) _ ⟨_,O⟩ ?_ ?_
  ·rintro j l r ⟨x,rfl⟩;have s:j<m:=by have:=aC.mp l;lia
   obtain⟨row,c⟩:=e j s;walk_at"w";refine n0 w s ?_;walk_at"w";refine ei (xs:=nmD row) (by rw[gC1];exact w.row j row c) ?_;walk_at"w";refine⟨?_,⟨_,O⟩,λ_=>trivial⟩;simp only[k,bH,c,b0,ej];rw[bO,am,am];lia
  ·rintro r' _;walk_at"w";rw[X];exact⟨dR (by rw[lM1];lia),O⟩
 rintro r S ⟨rfl,rfl⟩;have hL0:0<L.length:=List.length_pos_iff.mpr C;have gL:∀o:Ob,(o::(U++[Ob.lst (nmD L)]))[U.length+1]?=Z (.lst (nmD L)):=λo=>by rw[gC1,dQ];rfl
 refine d4 (λr S=>∃j u,j<i+1/\k j=M/\fw u (n+1)/\r=[Z (.ref 0),av,Z (.int m),Z (.int (i:Nat)),Z (.ref (t+m+1)),Z (.int ((i+1:Nat):Int)),Z (.ref (U.length+1)),Z (.int (j:Nat)),N,P]/\S=u::(U++[.lst (nmD L)])) ?_ ?_
 ·walk_at"w";refine ei (gL _) ?_;walk_at"w";rw[ej];refine fD ho (by lia) (by lia) (by lia) λd u q hd=>?_;have B:d<L.length:=by lia
  refine j1 (i:=d) (xs:=nmD L) (x:=.int (L[d]:Nat)) (gL _) (by rw[nmD,gP1,gG1 B];rfl) ?_;obtain⟨y,g⟩:=au L[d] (bQ B);exact⟨L[d],u,y,g,q,O,O⟩
 rintro r S ⟨j,u,y,g,q,rfl,rfl⟩;obtain⟨row,c⟩:=e j (by lia);have hrl:row.length<4:=by
  simp only[k,bH,c,b0,am]at g;exact g
 obtain⟨aq,p⟩:=e (i+1) hi;have ao:=he (i+1) aq (nR1 _) p;subst ao;have w':=w.app (G:=[Ob.lst (nmD L)]) λo ho=>by rw[cv]at ho;subst ho;exact G6
 refine GU (a:=i+1) (b:=j) (ra:=[]) w' hi (by lia) p (by simp) (λaq hb=>by rw[c]at hb;cases hb;lia) (λ_=>rfl) (λ_=>rfl) O O λaq U2 f w2=>?_;have H:i+1≠j:=by lia
 have K:aq=row:=by
  rw[gS1 H,c]at f;cases f;rfl
 subst K;refine h _ u U2 _ _ w2 (v.tie p (by simp) f hrl (.inr ⟨O,by lia,O⟩)) q λj' I s A=>?_;rw[gS1 (by lia),gS1 (by lia)]at A;exact he j' I (by lia) A
theorem I7{t k:Nat}{U:Sto}{ao aq C x7 G x9:Option D}{Q:Fl×Ev×Sto->Prop}(w:WN t m T E U)(v:WE m E k i)(ho:fw o n)(hn:n<=2^44)(hm0:0<m)(hm:m<=8)(h:∀E' k' o' U' au P,WN t m T E' U'->WE m E' k' i->fw o' (n+2) ->
   Q (.nx,[Z (.ref 0),ao,Z (.int m),Z (.int (k':Nat)),Z (.ref (t+m+1)),aq,C,au,G,P],o'::U')):
  W (gi [Z (.ref 0),ao,Z (.int m),Z (.int (k:Nat)),Z (.ref (t+m+1)),aq,C,x7,G,x9] (o::U)) Q:=by
 have l:∀j,j<m -> ∃row,E[j]?=Z row:=λj hj=>⟨_,gG1 (by rw[v.len];exact hj)⟩;unfold gi;refine d4 (λr S=>∃a b g,a<m/\b<m/\fw g (n+2)/\r=[Z (.ref 0),ao,Z (.int m),Z (.int (k:Nat)),Z (.ref (t+m+1)),aq,C,Z (.int (b:Nat)),G,Z (.int (a:Nat))]/\S=g::U) ?_ ?_
 ·walk_at"w";refine fD ho (by lia) (by lia) (by lia) λa o1 V B=>?_;walk_at"w";refine fD V (by lia) (by lia) (by lia) λb g q av=>?_;walk_at"w";exact⟨a,b,g,by lia,by lia,q,O,O⟩
 rintro r S ⟨a,b,g,B,av,q,rfl,rfl⟩;obtain⟨ra,s⟩:=l a B;obtain⟨N,u⟩:=l b av;have L:Q (.nx,[Z (.ref 0),ao,Z (.int m),Z (.int (k:Nat)),Z (.ref (t+m+1)),aq,C,Z (.int (b:Nat)),G,Z (.int (a:Nat))],g::U):=
  h E k g U _ _ w v q
 unfold fr;rw[dN];have F:W (p0 (mB (m2 (b2 gLt) (m2 (b2 fY) (mN (b1 eD) (dG (m2 (b2 dL) (mV 4) (mV 9)) dH)) (mN (b1 pf) (dG (m2 (b2 gEq) (mV 9) (mV 7)) dH))) (mC (D.int (4))))) (mB (m2 (b2 gLt) (mN (b1 eD) (dG (m2 (b2 dL) (mV 4) (mV 7)) dH)) (mC (D.int (4))))) [Z (.ref 0),ao,Z (.int m),Z (.int (k:Nat)),Z (.ref (t+m+1)),aq,C,Z (.int (b:Nat)),G,Z (.int (a:Nat))] (g::U)) λp=>p.2=g::U/\(p.1=M->ra.length+(if a=b then 1 else 0)<4/\N.length<4):=by
  walk_at"w";refine n0 w B ?_;walk_at"w";refine ei (xs:=nmD ra) (by rw[gC1];exact w.row a ra s) ?_;walk_at"w";rw[ej];have e1:((a:Int) == (b:Int))=decide (a=b):=by
   rw[bO,RO,am];lia
  rw[e1];have rest:W (dL (D.ref (t+m+1)) (D.int (b:Int)) (g::U)) λx=>W (eD x.fst x.snd) λx=>W (gLt x.fst (D.int 4) x.snd) λx=>W (match x.fst with|D.bl b=>some (b,x.snd)|x=>none) λp=>p.snd=g::U/\(p.fst=true->N.length<4):=by
   refine n0 w av ?_;walk_at"w";refine ei (xs:=nmD N) (by rw[gC1];exact w.row b N u) ?_;walk_at"w";rw[ej];intro wq;rw[am]at wq;lia
  by_cases f:a=b
  ·rw[ah f];walk_at"w";split
   ·rename_i A;rw[am]at A;refine rest.mono λx hx=>hx.mono λy X=>X.mono λz R=>R.mono λp H=>⟨H.1,λe=>⟨by first|lia|(rw[ak f];lia),H.2 e⟩⟩
   ·first|(intro z;cases z;done)|(refine⟨_,rfl,?_,λz=>?_⟩<;>first|rfl|cases z)|walk_at"w"
  ·rw[ai f];walk_at"w";split
   ·rename_i A;rw[am]at A;refine rest.mono λx hx=>hx.mono λy X=>X.mono λz R=>R.mono λp H=>⟨H.1,λe=>⟨by first|lia|(rw[aj f];lia),H.2 e⟩⟩
   ·first|(intro z;cases z;done)|(refine⟨_,rfl,?_,λz=>?_⟩<;>first|rfl|cases z)|walk_at"w"
 obtain⟨⟨c,S1⟩,ec,hS,hc⟩:=F;dsimp only at hS hc;subst hS;refine⟨_,ec,?_⟩;dsimp only;cases c with
 |false=>rw[aj (by decide)];exact dV.mpr L
 |true=>
  rw[ak O];obtain⟨h1,h2⟩:=hc O;refine GU (a:=a) (b:=b) w B av s (by lia) (λK I=>by rw[u]at I;cases I;lia) (λ_=>rfl) (λ_=>rfl) O O λK U2 d w2=>?_;have hl:K.length<4:=by
   by_cases f:a=b
   ·subst f;rw[aJ (by rw[v.len];exact B)]at d;cases d;rw[ak O]at h1;rw[lA1,aY];lia
   ·rw[gS1 f,u]at d;cases d;exact h2
  exact h _ (k+1) g U2 _ _ w2 (v.tie s (by lia) d hl (.inl (nR1 _))) q
abbrev Pl:=List ((Nat×Nat)×Nat)
noncomputable def im(i:Nat)(row:List Nat):Pl:=row.zipIdx.map λp=>((i,p.2),p.1)
def fj:Nat->jt->Pl
 |_,[]=>[]
 |i,row::R=>im i row++fj (i+1) R
noncomputable def ps(A:Pl)(v:Nat):List (Nat×Nat):=(A.filter λx=>x.2 == v).map (·.1)
theorem Bx{v:Nat}{row:List Nat}(h:row[j]?=Z v):im i (row.take (j+1))=im i (row.take j)++[((i,j),v)]:=by
 have a:=(R1 h).1;unfold im;rw[cg,h,Option.toList_some,List.zipIdx_append,cc];simp;lia
theorem mS:∀{R:jt} {i k:Nat} {row:List Nat},R[i]?=Z row->fj k (R.take (i+1))=fj k (R.take i)++im (k+i) row
 |[],i,k,row,h=>by simp at h
 |r::R,0,k,row,h=>by
  rw[cS]at h;cases h;simp[fj]
 |r::R,i+1,k,row,h=>by
  rw[gC1]at h;rw[List.take_succ_cons,List.take_succ_cons,fj,fj,mS h,bE,show k+1+i=k+(i+1) by lia]
theorem xI{row:List Nat}{x:(Nat×Nat)×Nat}:x∈im i row↔x.1.1=i/\row[x.1.2]?=Z x.2:=by
 obtain⟨⟨a,b⟩,c⟩:=x;unfold im;rw[cf];constructor
 ·rintro⟨⟨v,j⟩,h,e⟩;cases e;exact⟨O,cQ.mp h⟩
 ·rintro⟨rfl,h⟩;exact⟨(c,b),cQ.mpr h,O⟩
theorem oQ:∀{R:jt} {k:Nat} {x:(Nat×Nat)×Nat},x∈fj k R ↔ ∃i row,x.1.1=k+i/\R[i]?=Z row/\row[x.1.2]?=Z x.2
 |[],k,x=>by simp[fj]
 |r::R,k,x=>by
  rw[fj,aG,xI,oQ (R:=R)];constructor
  ·rintro(⟨h1,h2⟩|⟨i,row,h1,h2,a⟩)
   ·exact⟨0,r,by lia,O,h2⟩
   ·exact⟨i+1,row,by lia,h2,a⟩
  ·rintro⟨i,row,h1,h2,a⟩;cases i with
   |zero=>cases h2;exact .inl ⟨by lia,a⟩
   |succ i=>exact .inr ⟨i,row,by lia,h2,a⟩
theorem ER{row:List Nat}:(im i row).map (·.2)=row:=by
 unfold im;rw[bu];exact List.zipIdx_map_fst 0 row
theorem uW:∀{R:jt} {k:Nat},(fj k R).map (·.2)=R.flatten
 |[],_=>rfl
 |r::R,k=>by rw[fj,cc,ER,uW (R:=R),cW]
theorem Ii{row:List Nat}:((im i row).map (·.1)).Nodup:=by
 unfold im;rw[bu];have e:(row.zipIdx.map ((λx:(Nat×Nat)×Nat=>x.1)∘λp=>((i,p.2),p.1)))=(row.zipIdx.map (·.2)).map λj=>(i,j):=by rw[bu];rfl
 rw[e,List.zipIdx_map_snd,<- List.range_eq_range'];exact cR.mpr (List.nodup_range.imp λh z=>h (Prod.mk.inj z).2)
theorem tm:∀{R:jt} {k:Nat},((fj k R).map (·.1)).Nodup
 |[],_=>bp
 |r::R,k=>by
  rw[fj,cc,bx];refine⟨Ii,tm,λa d b f e=>?_⟩;obtain⟨x,g,rfl⟩:=cf.mp d;obtain⟨y,c,rfl⟩:=cf.mp f;have h1:=(xI.mp g).1;obtain⟨i,row,h2,_⟩:=oQ.mp c;rw[e]at h1;lia
theorem Ic{A:Pl}{v:Nat}:(ps A v).length=(A.map (·.2)).count v:=by
 unfold ps;rw[lM1,List.count,List.countP_map,List.countP_eq_length_filter];rfl
theorem nQ{A:Pl}{p:Nat×Nat}{v u:Nat}:ps (A++[(p,v)]) u=if v=u then ps A u++[p]else ps A u:=by
 unfold ps;rw[cY,cc];by_cases h:v=u
 ·simp[h]
 ·simp[h]
theorem Jg{A:Pl}{p:Nat×Nat}{v:Nat}:p∈ps A v↔(p,v)∈A:=by
 unfold ps;rw[cf];constructor
 ·rintro⟨⟨q,u⟩,h,e⟩;obtain⟨h1,h2⟩:=aB.mp h;have h2:u=v:=by simpa using h2
  cases e;cases h2;exact h1
 ·intro h;exact⟨(p,v),aB.mpr ⟨h,by simp⟩,O⟩
theorem Lg{A:Pl}{v:Nat}(h:(A.map (·.1)).Nodup):(ps A v).Nodup:=h.sublist (List.filter_sublist.map _)
structure PL (b:Nat)(A:Pl)(kv:List (Key×D))(H:Sto):Prop where
 no:∀v:Nat,ps A v=[]->dU kv (Sum.inl (v:Int))=none
 yes:∀v:Nat,ps A v≠[] -> ∃h,dU kv (Sum.inl (v:Int))=some (.ref (b+h))/\H[h]?=some (.lst ((ps A v).map pD))
 inj:∀v u h:Nat,dU kv (Sum.inl (v:Int))=some (.ref (b+h))->dU kv (Sum.inl (u:Int))=some (.ref (b+h))->v=u
 few:kv.length<=A.length
theorem pb{v u:Nat}(h:v≠u):(Sum.inl (v:Int):Key)≠Sum.inl (u:Int):=λe=>h (by injection e with e;lia)
theorem PL.old{v h:Nat}{A:Pl}{kv:List (Key×D)}{H:Sto}{p:Nat×Nat}(P:PL b A kv H)(hv:ps A v≠[])(e:dU kv (Sum.inl (v:Int))=some (.ref (b+h)))(g:H[h]? = some (.lst ((ps A v).map pD))):
  PL b (A++[(p,v)]) kv ((H++[Ob.lst []]).set h (.lst ((ps A v).map pD++[pD p]))):=by
 have i:=(R1 g).1;refine⟨λu a=>?_,λu a=>?_,P.inj,by rw[lA1];have:=P.few;lia⟩
 ·rw[nQ]at a;split at a
  ·simp at a
  ·exact P.no u a
 ·rw[nQ]at a ⊢;by_cases c:v=u
  ·subst c;rw[ak O,cc];exact⟨h,e,aJ (by rw[lA1];lia)⟩
  ·rw[aj c]at a ⊢;obtain⟨h',d,f⟩:=P.yes u a;refine⟨h',d,?_⟩;rw[gS1 (λz=>c (P.inj v u h e (by rw[z];exact d))),gL1 (R1 f).1];exact f
theorem PL.new{v:Nat}{A:Pl}{kv:List (Key×D)}{H:Sto}{p:Nat×Nat}(P:PL b A kv H)(hv:ps A v=[]):
  PL b (A++[(p,v)]) (gU kv (Sum.inl (v:Int)) (.ref (b+H.length))) (H++[.lst [pD p]]):=by
 refine⟨λu f=>?_,λu f=>?_,λu j h d c=>?_,by rw[lA1,aY];have:=P.few;have:=sy (k:=(Sum.inl (v:Int):Key)) (v:=D.ref (b+H.length)) (a:=kv);lia⟩
 ·rw[nQ]at f;split at f
  ·simp at f
  ·rename_i l;rw[ft,aj (pb (Pr l))];exact P.no u f
 ·rw[nQ]at f ⊢;by_cases g:v=u
  ·subst g;rw[ak O,hv,ft,ak O];exact⟨H.length,O,by rw[gR1 (nR1 _),cF];rfl⟩
  ·rw[aj g]at f ⊢;obtain⟨h',d,c⟩:=P.yes u f;refine⟨h',by rw[ft,aj (pb (Pr g))];exact d,?_⟩;rw[gL1 (R1 c).1];exact c
 ·have old:∀ w:Nat,w≠v->dU kv (Sum.inl (w:Int))=some (.ref (b+h))->h<H.length:=fun w o e=>by
   by_cases m:ps A w=[]
   ·rw[P.no w m]at e;cases e
   ·obtain⟨h',i,n⟩:=P.yes w m;rw[e]at i;have:h=h':=by injection i with i;injection i with i;lia
    rw[this];exact(R1 n).1
  rw[ft]at d c;by_cases h1:u=v
  ·by_cases h2:j=v
   ·rw[h1,h2]
   ·rw[ak (by rw[h1])]at d;rw[aj (pb h2)]at c;have:=old j h2 c;have:h=H.length:=by injection d with d;injection d with d;lia
    lia
  ·rw[aj (pb h1)]at d;by_cases h2:j=v
   ·rw[ak (by rw[h2])]at c;have:=old u h1 d;have:h=H.length:=by injection c with c;injection c with c;lia
    lia
   ·rw[aj (pb h2)]at c;exact P.inj u j h d c
def jr(A:Pl)(v:Nat)(e:Nat×Nat):Nat×Nat:=let l:=ps A v;if l.getD 0 (0,0)=e then l.getD 1 (0,0)else l.getD 0 (0,0)
theorem AG{A:Pl}{v:Nat}(h2:(ps A v).length=2):∃p q,ps A v=[p,q]:=by
 match hp:ps A v,h2 with
 |[p,q],_=>exact⟨p,q,O⟩
theorem xA{A:Pl}{v:Nat}{e:Nat×Nat}(nd:(A.map (·.1)).Nodup)(h2:(ps A v).length=2)(he:(e,v)∈A):(jr A v e,v)∈A/\jr A v e≠e/\jr A v (jr A v e)=e /\ ∀x,(x,v)∈A->x=e\/x=jr A v e:=by
 obtain⟨p,q,f⟩:=AG h2;have g:=Lg (v:=v) nd;rw[f]at g;have a:p≠q:=by simpa using g
 have m:∀x,(x,v)∈A↔x=p\/x=q:=λx=>by rw[<- Jg,f];simp
 have d:∀x,jr A v x=if p=x then q else p:=λx=>by simp[jr,f]
 rcases(m e).mp he with rfl|rfl
 ·have b:jr A v e=q:=by rw[d,ak O]
  rw[b];exact⟨(m q).mpr (.inr O),Pr a,by rw[d,aj a],λx c=>(m x).mp c⟩
 ·have b:jr A v e=p:=by rw[d,aj a]
  rw[b];exact⟨(m p).mpr (.inl O),a,by rw[d,ak O],λx c=>((m x).mp c).symm⟩
theorem tU{c:FT}{b:FS}{Q:Fl×Ev×Sto->Prop}(I:Nat->Ev->Sto->Prop)(N:Nat)(step:∀k r S,I k r S->W (c r S) fun p=>if p.1=true then k<N/\W (b r p.2) fun q=>q.1 = .nx/\I (k+1) q.2.1 q.2.2 else Q (.nx,r,p.2)):
  ∀(a k:Nat) (r:Ev) (S:Sto),N-k<a->I k r S->W (ql c b a r S) Q
 |0,k,r,S,hf,_=>by lia
 |a+1,k,r,S,hf,hi=>by
  rw[ql];dsimp only;rw[dN];obtain⟨⟨t,n⟩,e,h⟩:=step k r S hi;refine⟨_,e,?_⟩;dsimp only at h ⊢;cases t with
  |true=>
   rw[ak O]at h ⊢;obtain⟨m,⟨f,i,j⟩,l,d,g⟩:=h;dsimp only at d g;subst d;rw[l,oS1];exact tU I N step a (k+1) i j (by lia) g
  |false=>
   rw[aj (by decide)]at h ⊢;exact dV.mpr h
theorem yD{m:FA}{r:Ev}{xs:List D}{Q:Ah×Sto->Prop}(hm:m r S=Z ([.ref n],S))(hn:S[n]?=Z (.lst xs))(q:Q (⟨u5 0 xs,[(n,xs)]⟩,S)):W (p7 m r S) Q:=by
 refine W.of (x:=(⟨u5 0 xs,[(n,xs)]⟩,S)) ?_ q;simp only[p7,hm,oS1,fS hn,nY hn]
theorem pp:∀{xs:List Nat} {i:Nat} (h:i<xs.length),(xs[i]::xs.eraseIdx i).Perm xs
 |x::xs,0,h=>.refl _
 |x::xs,i+1,h=>by
  rw[List.eraseIdx_cons_succ,List.getElem_cons_succ];exact(List.Perm.swap x _ _).trans ((pp (by simpa using h)).cons x)
theorem ul{xs row:List Nat}{x:Nat}(h:(rs++xs).Perm row)(hx:xs[i]?=Z x):((rs++[x])++xs.eraseIdx i).Perm row:=by
 refine List.Perm.trans ?_ h;rw[bE];refine List.Perm.append_left rs ?_;obtain⟨hi,rfl⟩:=R1 hx;exact pp hi
theorem B0{xs:List Nat}{x:Nat}(h:xs[i]?=Z x):(nmD xs)[i]?=Z (.int x):=by rw[nmD,gP1,h];rfl
theorem uy{xs:List Nat}:(nmD xs).eraseIdx i=nmD (xs.eraseIdx i):=by
 rw[nmD,nmD,cq,cq,cc,List.map_take,List.map_drop]
theorem nT{xs:List Nat}{x:Nat}:nmD xs++[D.int (x:Int)]=nmD (xs++[x]):=by simp[nmD]
theorem HQ{V:Sto}{row:List Nat}{t u p h i s m:Option D}{Q:Fl×Ev×Sto->Prop}(ho:fw o n)(hn:n<=2^44)(hr:row.length<=4)(q:∀o' rs G,fw o' (n+4)->rs.Perm row->Q (.nx,[some (.ref 0),t,u,p,some (.ref (V.length+1)),some (.ref (V.length+2)),h,i,s,m],o'::(V ++ .lst [] :: .lst (nmD rs)::G))):
  W (ql hI hH 100000 [Z (.ref 0),t,u,p,Z (.ref (V.length+1)),Z (.ref (V.length+2)),h,i,s,m] (o::(V++[.lst (nmD row),.lst []]))) Q:=by
 refine tU (λk r S=>∃o' a rs G,fw o' (n+k)/\(rs++a).Perm row/\rs.length=k/\S=o'::(V ++ .lst (nmD a) :: .lst (nmD rs)::G)/\r=[Z (.ref 0),t,u,p,Z (.ref (V.length+1)),Z (.ref (V.length+2)),h,i,s,m]) 4 ?_ 100000 0 _ _ (by lia) ⟨o,row,[],[],ho,.refl _,O,O,O⟩;rintro k r S ⟨o',a,rs,G,c,f,A,rfl,rfl⟩;have b:=f.length_eq;rw[lA1]at b;have g:∀(o:Ob) (X:Ob) (au:Sto),(o::(V++X::au))[V.length+1]?=Z X:=λo X au=>by rw[gC1,dQ];rfl
 have y:∀(o:Ob) (X wq:Ob) (au:Sto),(o::(V++X::wq::au))[V.length+2]?=Z wq:=λo X wq au=>by rw[gC1,eO];rfl
 refine W.of (x:=(!(nmD a).isEmpty,o'::(V ++ .lst (nmD a) :: .lst (nmD rs)::(G++[.lst []])))) ?_ ?_
 ·have e:(o'::(V++Ob.lst (nmD a)::Ob.lst (nmD rs)::G))++[Ob.lst []]=o'::(V ++ .lst (nmD a) :: .lst (nmD rs)::(G++[.lst []])):=by simp
  unfold hI mB m2 mV g6 dH b2;simp only[gC1,cS,cV,oP1,oS1];rw[ak (show([]:List D).length<=dy by decide),oS1,e,x2 (xs:=nmD a) (g _ _ _) (by rw[<- e,dQ];rfl)];rfl
 dsimp only;cases a with
 |nil=>
  rw[show(nmD ([]:List Nat)).isEmpty=M from rfl,aj (by decide)];rw[aN]at f;exact q o' rs _ (c.more (by simp at b;lia)) f
 |cons l a=>
  rw[show(!(nmD (l::a)).isEmpty)=M from rfl,ak O];refine⟨by rw[lC1]at b;lia,?_⟩;unfold hH;walk_at"w";refine i9 ?_;walk_at"w";refine⟨V.length+2,nmD rs,O,y _ _ _ _,?_⟩;refine i9 ?_;walk_at"w";refine⟨V.length+1,nmD (l::a),O,g _ _ _,?_⟩;refine ei (g _ _ _) ?_;walk_at"w";rw[ej];rw[lC1]at b;refine fD c (by lia) (by rw[lC1];lia) (by rw[lC1];lia) λd v j z=>?_;obtain⟨x,w⟩:∃x,(l::a)[d]?=some x:=⟨_,gG1 (by lia)⟩;walk_at"w";refine DN (g _ _ _) (B0 w) (by rw[lC1]at z;lia) ?_;have es:∀X,(v::(V++Ob.lst (nmD (l::a))::Ob.lst (nmD rs)::(G++[Ob.lst []]))).set (V.length+1) X=v::(V++X :: .lst (nmD rs)::(G++[.lst []])):=λX=>by
   rw[cD,cZ _ _ (nR1 _),cF];rfl
  rw[es];walk_at"w";refine(k7 (y _ _ _ _)).mpr ⟨dR (by rw[ej];lia),?_⟩;refine⟨v,(l::a).eraseIdx d,rs++[x],G++[.lst []],j.more (by lia),ul f w,by rw[lA1,A];rfl,?_,trivial⟩;rw[cD,cZ _ _ (by lia),show V.length+1-V.length=1 by lia,nT,uy];rfl
noncomputable def rk(u:Nat)(ks:List Nat):List D:=ks.map λk=>D.ref (u+2+k)
structure RS (R:jt)(ks:List Nat)(G:Sto):Prop where
 len:ks.length=R.length
 row:∀(j k:Nat) (row:List Nat),ks[j]?=some k->R[j]?=some row->G[k]?=some (.lst (nmD row))
theorem RS.app{R:jt}{G H:Sto}(r:RS R ks G):RS R ks (G++H):=
 ⟨r.len,λj k row h1 h2=>by have:=r.row j k row h1 h2;rw[gL1 (R1 this).1];exact this⟩
theorem RS.snoc{R:jt}{G:Sto}{k:Nat}{row:List Nat}(r:RS R ks G)(h:G[k]?=Z (.lst (nmD row))):RS (R++[row]) (ks++[k]) G:=by
 refine⟨by rw[lA1,lA1,r.len];rfl,λj c a h1 h2=>?_⟩;by_cases b:j<ks.length
 ·rw[gL1 b]at h1;rw[gL1 (by rw[<- r.len];exact b)]at h2;exact r.row j c a h1 h2
 ·have:=(R1 h1).1;rw[lA1,aY]at this;have e:j=ks.length:=by lia
  subst e;rw[c5]at h1;rw[r.len,c5]at h2;cases h1;cases h2;exact h
theorem Hx{U G:Sto}{e:Nat}{row:List Nat}{z y b c f d:Option D}{Q:Fl×Ev×Sto->Prop}(hi:U[i]? = some (.lst (nmD row)))(ho:fw o n)(hn:n<=2^44)(hr:row.length<=4)(hk:ks.length<=100)(q:∀o' rs u k s l,fw o' (n+4)->rs.Perm row->(G++u)[k]?=some (.lst (nmD rs))->Q (.nx,[some (.ref 0),some (.ref e),some (.ref (U.length+1)),some (.ref (i+1)),s,l,b,c,f,d],o'::(U ++ .lst (rk U.length (ks++[k]))::(G++u)))):
  W (hE [Z (.ref 0),Z (.ref e),Z (.ref (U.length+1)),Z (.ref (i+1)),z,y,b,c,f,d] (o::(U ++ .lst (rk U.length ks)::G))) Q:=by
 generalize g:U ++ .lst (rk U.length ks)::G=V;have t:V.length=U.length+1+G.length:=by rw[<- g];simp;lia
 have j:V[i]?=Z (.lst (nmD row)):=by rw[<- g,gL1 (R1 hi).1];exact hi
 have p:V[U.length]?=Z (.lst (rk U.length ks)):=by rw[<- g,dQ];rfl
 unfold hE;refine d4 (λr S=>S=o::(V++[.lst (nmD row),.lst []])/\r=[Z (.ref 0),Z (.ref e),Z (.ref (U.length+1)),Z (.ref (i+1)),Z (.ref (V.length+1)),Z (.ref (V.length+2)),b,c,f,d]) ?_ ?_
 ·have w:∀S:Sto,S[i+1]?=Z (.lst (nmD row))->Gi (.ref (i+1)) S=Z (.ref S.length,S++[.lst (nmD row)]):=λS h=>by unfold Gi;rw[fS h];rfl
  ((try walk_at"w");repeat(simp only[w (o::V) (by rw[gC1];exact j)];try walk_at"w"))
 rintro r S ⟨rfl,rfl⟩;refine d4 (λr S=>∃o' rs G2,fw o' (n+4)/\rs.Perm row/\S=o'::(V ++ .lst [] :: .lst (nmD rs)::G2)/\r=[Z (.ref 0),Z (.ref e),Z (.ref (U.length+1)),Z (.ref (i+1)),Z (.ref (V.length+1)),Z (.ref (V.length+2)),b,c,f,d]) ?_ ?_
 ·refine HQ ho hn hr λo' rs G2 h1 h2=>⟨O,o',rs,G2,h1,h2,O,O⟩
 rintro r S ⟨o',rs,G2,m,v,rfl,rfl⟩;have a:(o'::(V++Ob.lst []::Ob.lst (nmD rs)::G2))[U.length+1]?=Z (.lst (rk U.length ks)):=by
  rw[gC1,gL1 (by lia)];exact p
 walk_at"w";refine i9 ?_;walk_at"w";refine⟨U.length+1,_,O,a,?_⟩;refine(k7 a).mpr ⟨dR (by unfold rk;rw[lM1];lia),?_⟩;have es:(o'::(V++Ob.lst []::Ob.lst (nmD rs)::G2)).set (U.length+1) (.lst (rk U.length ks++[.ref (V.length+2)]))=o'::(U ++ .lst (rk U.length (ks++[G.length+1]))::(G++Ob.lst []::Ob.lst (nmD rs)::G2)):=by
  have x:rk U.length ks++[.ref (V.length+2)]=rk U.length (ks++[G.length+1]):=by
   unfold rk;rw[cc,t,show U.length+1+G.length+2=U.length+2+(G.length+1) by lia];rfl
  rw[x,<- g,cD,bE,cZ _ _ (nR1 _),cF];rfl
 rw[es];exact q o' rs _ (G.length+1) _ _ m v (by rw[eO];rfl)
theorem Mn{m a b:FE}{r:Ev}{v:Nat}{kv:List (Key×D)}(hm:m r S=Z (.ref n,S))(ha:a r S=Z (.int v,S))(hb:b r S=Z (.ref S.length,S++[.lst []]))(hn:S[n]? = Z (.dct kv))(e:kv.length<1000)(h1:∀z,dU kv (Sum.inl (v:Int))=Z z->Q (z,S++[.lst []]))(h2:dU kv (Sum.inl (v:Int))=Y->Q (.ref S.length,(S++[Ob.lst []]).set n (.dct (gU kv (Sum.inl (v:Int)) (.ref S.length))))):W (oU m a b r S) Q:=by
 have c:(S++[Ob.lst []])[n]?=Z (.dct kv):=by rw[gL1 (R1 hn).1];exact hn
 have d:kv.length<dy:=nL1 e (by decide);cases hk:dU kv (Sum.inl (v:Int))with
 |some z=>
  refine W.of ?_ (h1 z hk);simp only[oU,hm,oS1,hn,ha,hb,c,nH,ak d,hk]
 |none=>
  refine W.of ?_ (h2 hk);simp only[oU,hm,oS1,hn,ha,hb,c,nH,ak d,hk]
theorem EV{X H:Sto}{A:Pl}{kv:List (Key×D)}{v:Nat}{s t m k u:Option D}{Q:Fl×Ev×Sto->Prop}(P:PL (X.length+2) A kv H)(I:A.length<100)(q:∀a H',PL (X.length+2) (A++[((i,j),v)]) a H'->Q (.nx,[some (.ref 0),s,t,m,k,u,some (.ref (X.length+1)),some (.int (i:Nat)),some (.int (j:Nat)),some (.int (v:Nat))],o::(X ++ .dct a::H'))):
  W (hD [Z (.ref 0),s,t,m,k,u,Z (.ref (X.length+1)),Z (.int (i:Nat)),Z (.int (j:Nat)),Z (.int (v:Nat))] (o::(X ++ .dct kv::H))) Q:=by
 have G:=P.few;have C:∀(o:Ob) (wq:Ob) (au:Sto),(o::(X++wq::au))[X.length+1]?=Z wq:=λo wq au=>by rw[gC1,dQ];rfl
 have B:∀(o:Ob) (wq:Ob) (au:Sto) (h:Nat),(o::(X++wq::au))[X.length+2+h]?=au[h]?:=λo wq au h=>by rw[show X.length+2+h=X.length+(h+1)+1 by lia,gC1,eO];rfl
 have E:(o::(X++Ob.dct kv::H)).length=X.length+2+H.length:=by simp;lia
 have w:(o::(X++Ob.dct kv::H))++[Ob.lst []]=o::(X ++ .dct kv::(H++[.lst []])):=by simp
 have st:∀(wq:Ob) (au:Sto) (h:Nat) (V:Ob),(o::(X++wq::au)).set (X.length+2+h) V=o::(X++wq::au.set h V):=λwq au h V=>by
  rw[show X.length+2+h=X.length+(h+1)+1 by lia,cD,cZ _ _ (by lia),show X.length+(h+1)-X.length=h+1 by lia];rfl
 have g:∀ (a:List (Key×D)) (H1:Sto) (h:Nat) (ys:List (Nat×Nat)) (l:Sto),l=o::(X ++ .dct a::H1)->H1[h]? = some (.lst (ys.map pD))->ys.length<200->PL (X.length+2) (A++[((i,j),v)]) a (H1.set h (.lst (ys.map pD++[pD (i,j)]))) ->
   ∃n xs,D.ref (X.length+2+h) = .ref n/\l[n]?=Z (.lst xs)/\W (dG (eH (dG (mV 7) (dG (mV 8) dH))) dH [Z (.ref 0),s,t,m,k,u,Z (.ref (X.length+1)),Z (.int (i:Nat)),Z (.int (j:Nat)),Z (.int (v:Nat))] l) λq=>W (b2 iJ (.ref n::q.1) q.2) λp=>W (Z (Fl.nx,[Z (.ref 0),s,t,m,k,u,Z (.ref (X.length+1)),Z (.int (i:Nat)),Z (.int (j:Nat)),Z (.int (v:Nat))],p.2)) Q:=by
  rintro a H1 h ys l rfl e y F;have b:=B o (.dct a) H1 h;rw[e]at b;refine⟨X.length+2+h,_,O,b,?_⟩;walk_at"w";refine(k7 b).mpr ⟨dR (by rw[lM1];lia),?_⟩;have:=q a _ F;rw[<- st]at this;exact this
 unfold hD;unfold fG;rw[dN];refine i9 ?_;refine Mn (n:=X.length+1) (v:=v) (kv:=kv) O O ?_ (C _ _ _) (by lia) (λz c=>?_) (λc=>?_)
 ·unfold g6 dH;rw[oS1];rfl
 ·by_cases d:ps A v=[]
  ·rw[P.no v d]at c;cases c
  ·obtain⟨h,r,b⟩:=P.yes v d;rw[r]at c;cases c;have y:=(R1 b).1;refine g kv (H++[.lst []]) h (ps A v) _ w (by rw[gL1 y];exact b) ?_ (P.old d r b);unfold ps;rw[lM1];have:=cX (λx=>x.2 == v) A;lia
 ·by_cases d:ps A v=[]
  ·have f:=P.new (p:=(i,j)) d;rw[E];refine g (gU kv (Sum.inl (v:Int)) (.ref (X.length+2+H.length))) (H++[.lst []]) H.length [] _ ?_ (by rw[gR1 (nR1 _),cF];rfl) (by simp) ?_
   ·rw[w,cD,cZ _ _ (nR1 _),cF];rfl
   ·rw[cZ _ _ (nR1 _),cF];exact f
  ·obtain⟨h,r,b⟩:=P.yes v d;rw[r]at c;cases c
abbrev dJ:=List (List (Nat×Nat))
def webD(w:dJ):D:=.tup (w.map λrow=>.tup (row.map pD))
theorem eB(w:dJ):(webD w).und 0=M:=by
 unfold webD;rw[D.und];exact eE λrow _=>by rw[D.und];exact eE λ_ _=>rfl
def vT(A:Pl)(i:Nat)(row:List Nat):List (Nat×Nat):=row.zipIdx.map λq=>jr A q.1 (i,q.2)
def lf(R:jt):dJ:=R.zipIdx.map λp=>vT (fj 0 R) p.2 p.1
theorem rW{R:jt}:(lf R)[i]?=(R[i]?).map (vT (fj 0 R) i):=by
 unfold lf;rw[gP1,c6];cases R[i]? <;> simp
structure vv (E R:jt):Prop where
 len:R.length=E.length
 row:∀(i:Nat) (r e:List Nat),R[i]?=some r->E[i]?=some e->r.Perm e
theorem vv.snoc{R:jt}{r e:List Nat}(h:vv (E.take i) R)(he:E[i]?=Z e)(p:r.Perm e):vv (E.take (i+1)) (R++[r]):=by
 have hi:=(R1 he).1;have a:R.length=i:=by have:=h.len;rw[aR]at this;lia
 refine⟨by rw[lA1,aR,a,aY];lia,λj b c h1 h2=>?_⟩;by_cases d:j<i
 ·rw[gL1 (by lia)]at h1;rw[aT (by lia)]at h2;exact h.row j b c h1 (by rw[aT d];exact h2)
 ·have:=(R1 h1).1;rw[lA1,aY]at this;have e:j=i:=by lia
  subst e;rw[aT (by lia),he]at h2;rw[<- a,c5]at h1;cases h1;cases h2;exact p
theorem mE:∀{E R:jt},vv E R->R.flatten.Perm E.flatten
 |[],[],_=>.refl _
 |[],_::_,h=>by have:=h.len;simp at this
 |_::_,[],h=>by have:=h.len;simp at this
 |e::E,r::R,h=>(h.row 0 r e O O).append (mE ⟨by simpa using h.len,λi a b h1 h2=>h.row (i+1) a b h1 h2⟩)
theorem vW{k l:Nat}{R:jt}{row:List Nat}(v:WE m E k l)(sh:vv E R)(hr:R[i]?=Z row)(ha:row[j]?=Z a):(ps (fj 0 R) a).length=2:=by
 rw[Ic,uW,(mE sh).count_eq,v.ct a];have b:a∈R.flatten:=List.mem_flatten.mpr ⟨row,gM1 hr,gM1 ha⟩;have:=List.count_pos_iff.mpr b;rw[(mE sh).count_eq,v.ct a]at this;split at this
 ·rename_i h;rw[ak h]
 ·lia
theorem GX{u k:Nat}(h:ks[j]?=Z k):(rk u ks)[j]?=Z (.ref (u+2+k)):=by unfold rk;rw[gP1,h];rfl
theorem sv{u:Nat}:(rk u ks).length=ks.length:=by unfold rk;rw[lM1]
theorem yb{v:Nat}{F:List (Key×D)}{d:D}(h:S[n]?=Z (.dct F))(a:dU F (Sum.inl (v:Int))=Z d)(q:Q (d,S)):W (dL (.ref n) (.int (v:Nat)) S) Q:=by
 refine W.of ?_ q;simp only[dL,mQ,h,nH,oS1,a,oP1]
theorem L0{a:Nat×Nat}:gEq (pD a) (.tup [.int i,.int j]) S=Z (.bl (a == (i,j)),S):=by
 have:=wx (S:=S) (n:=58) (a:=a) (b:=(i,j));show(i7 S d8 (pD a) (pD (i,j))).map _=_;unfold d8;rw[this];rfl
inductive DI (E:jt)(U:Sto)(t m n:Nat):Nat->Ev->Sto->Prop
 |mk (i:Nat) (R:jt) (ks:List Nat) (G:Sto) (o':Ob) (x3 x4 x5:Option D) (hi:i<=m) (sh:vv (E.take i) R) (rs:RS R ks G) (ho:fw o' (n+4*i)):DI E U t m n i [some (.ref 0),some (.ref (t+m+1)),some (.ref (U.length+1)),x3,x4,x5,none,none,none,none] (o'::(U ++ .lst (rk U.length ks)::G))
inductive DJ (R:jt)(X:Sto)(o':Ob)(a b:Nat)(x3 x4:Option D)(m:Nat):Nat->Ev->Sto->Prop
 |mk (i:Nat) (kv:List (Key×D)) (H:Sto) (x5 x7 x8 x9:Option D) (hi:i<=m) (P:PL (X.length+2) (fj 0 (R.take i)) kv H):DJ R X o' a b x3 x4 m i [some (.ref 0),some (.ref a),some (.ref b),x3,x4,x5,some (.ref (X.length+1)),x7,x8,x9] (o'::(X ++ .dct kv::H))
inductive DK (R:jt)(X:Sto)(o':Ob)(a b:Nat)(x3 x4:Option D)(x5:Nat)(i:Nat)(row:List Nat):Nat->Ev->Sto->Prop
 |mk (j:Nat) (kv:List (Key×D)) (H:Sto) (x8 x9:Option D) (hj:j<=row.length) (P:PL (X.length+2) (fj 0 (R.take i)++im i (row.take j)) kv H):DK R X o' a b x3 x4 x5 i row j [some (.ref 0),some (.ref a),some (.ref b),x3,x4,some (.ref x5),some (.ref (X.length+1)),some (.int (i:Nat)),x8,x9] (o'::(X ++ .dct kv::H))
theorem C6{t k:Nat}{U:Sto}(w:WN t m T E U)(v:WE m E k (m-1))(ho:fw o n)(hn:n<=2^43)(hm:m<=8)(q:∀R o',vv E R->fw o' (n+40)->Q (webD (lf R),o'::U)):W (dI 2 ge [.ref 0,.ref (t+m+1)] (o::U)) Q:=by
 refine ma O O (bA.mpr w.cl) ?_;unfold ge;refine i6 ?_;unfold k0;have hlE:=w.el;refine d4 (λr S=>S=o::(U ++ .lst (rk U.length [])::[])/\r=[Z (.ref 0),Z (.ref (t+m+1)),Z (.ref (U.length+1)),Y,Y,Y,Y,Y,Y,Y]) ?_ ?_
 ·walk_at"w";exact⟨O,trivial⟩
 rintro r S ⟨rfl,rfl⟩;refine d4 (DI E U t m n m) ?_ ?_
 ·have y:∀(o:Ob) (au:Sto),(o::(U++au))[t+m+1]?=Z (.lst (jG (t+1) m)):=λo au=>by rw[gC1,gL1 (R1 w.ends).1];exact w.ends
  walk_at"w";refine ei (y _ _) ?_;refine eN (DI E U t m n) _ 0 _ _ (.mk 0 [] [] [] o Y Y Y (bi _) ⟨O,λi r e h=>by simp at h⟩ ⟨O,λj k row h=>by simp at h⟩ ho) ?_ ?_ ?_
  ·rintro i r S ⟨R,ks,G,o',av,L,x5,_,_,_,_⟩;exact fF (y _ _)
  ·rintro i d g r S ⟨R,ks,G,o',av,L,x5,hi,sh,rs,C⟩;have c:=(R1 g).1;dsimp only at c g;rw[lI]at c;rw[bL]at *
   rw[sw c]at g;cases g;obtain⟨row,b⟩:∃row,E[i]?=some row:=⟨_,gG1 (by lia)⟩;have hks:ks.length=i:=by rw[rs.len,sh.len,aR];lia
   walk_at"w";rw[show t+1+i=t+i+1 by lia];refine Hx (i:=t+i) (w.row i row b) C (by lia) (v.le i row b) (by lia) λo2 rs2 G2 k2 x4' x5' h1 h2 h3=>?_;exact⟨O,.mk _ (R++[rs2]) (ks++[k2]) (G++G2) o2 _ _ _ c (sh.snoc b h2) (rs.app.snoc h3) (h1.more (nR1 _))⟩
  ·intro r S h;rw[lI,bL]at h;exact⟨O,h⟩
 rintro r S ⟨R,ks,G,o',av,L,x5,_,sh,rs,C⟩;rw[ca (Nat.le_of_eq hlE)]at sh;generalize hX:U ++ .lst (rk U.length ks)::G=X;have F:R.length=m:=by rw[sh.len];exact hlE
 have K:∀(i:Nat) (row:List Nat),R[i]?=Z row->row.length<=4:=λi row h=>by
  obtain⟨e,he⟩:∃e,E[i]?=some e:=⟨_,gG1 (by have:=(R1 h).1;lia)⟩;rw[(sh.row i row e h he).length_eq];exact v.le i e he
 have gk:∀(o:Ob) (au:Sto),(o::(X++au))[U.length+1]?=Z (.lst (rk U.length ks)):=λo au=>by
  rw[<- hX,gC1,bE,dQ];rfl
 have s:∀(o:Ob) (au:Sto) (i k:Nat) (row:List Nat),ks[i]?=Z k->R[i]?=Z row->(o::(X++au))[U.length+2+k]?=Z (.lst (nmD row)):=λo au i k row h1 h2=>by
  have e:=rs.row i k row h1 h2;rw[<- hX,show U.length+2+k=U.length+(k+1)+1 by lia,gC1,bE,eO,bj,gC1,gL1 (R1 e).1];exact e
 refine d4 (λr S=>S=o'::(X ++ .dct []::[])/\r=[Z (.ref 0),Z (.ref (t+m+1)),Z (.ref (U.length+1)),av,L,x5,Z (.ref (X.length+1)),Y,Y,Y]) ?_ ?_
 ·wp_walk using oT
 rintro r S ⟨rfl,rfl⟩;have lenA:∀i,i<=m->(fj 0 (R.take i)).length<=4*i:=by
  intro i
  induction i with
  |zero=>intro _;simp[fj]
  |succ i ih=>
   intro hi;obtain⟨row,b⟩:∃row,R[i]?=some row:=⟨_,gG1 (by lia)⟩;rw[mS b,lA1];have:=ih (by lia);have:=K i row b;simp[im];lia
 refine d4 (DJ R X o' (t+m+1) (U.length+1) av L m m) ?_ ?_
 ·unfold fE;rw[dN];refine yD (n:=U.length+1) O (gk _ _) ?_;refine eN (DJ R X o' (t+m+1) (U.length+1) av L m) _ 0 _ _ (.mk 0 [] [] _ _ _ _ (bi _) ⟨λv _=>rfl,λv h=>(h O).elim,λv u h e=>by simp[dU]at e,by simp⟩) ?_ ?_ ?_
  ·rintro i r S ⟨B,H,x5,x7,x8,x9,_,_⟩;exact fF (gk _ _)
  ·rintro i d g r S ⟨B,H,x5,x7,x8,x9,hi,P⟩;dsimp only at g;rw[gD]at g;obtain⟨z,A,rfl⟩:=R4 g;have c:=(R1 A).1;rw[sv]at c;obtain⟨k2,l⟩:∃k2,ks[i]?=some k2:=⟨_,gG1 c⟩;rw[GX l]at A;cases A;have hil:i<m:=by rw[<- F,<- rs.len];exact c
   obtain⟨row,b⟩:∃row,R[i]?=some row:=⟨_,gG1 (by lia)⟩;rw[bL]at *
   walk_at"w";unfold jl fE;rw[dN];refine yD (n:=U.length+2+k2) O (s _ _ i k2 row l b) ?_;refine eN (DK R X o' (t+m+1) (U.length+1) av L (U.length+2+k2) i row) _ 0 _ _ (.mk 0 B H _ _ (bi _) (by simpa[im]using P)) ?_ ?_ ?_
   ·rintro j r S ⟨B,H,x8,x9,_,_⟩;exact fF (s _ _ i k2 row l b)
   ·rintro j d g r S ⟨B,H,x8,x9,hj,P⟩;dsimp only at g;rw[gD]at g;obtain⟨z,A,rfl⟩:=R4 g;rw[nmD,gP1]at A;obtain⟨way,I,rfl⟩:=R4 A;have hjl:=(R1 I).1;rw[bL]at *
    have:=lenA i (by lia);have:=K i row b;walk_at"w";refine EV P (by rw[lA1];simp[im];lia) λkv' H' P'=>?_;rw[bE,<- Bx I]at P';exact⟨O,.mk _ kv' H' _ _ hjl P'⟩
   ·rintro r S ⟨B,H,x8,x9,hj,P⟩;rw[gO,ej,bL,bU]at P;refine⟨O,.mk _ B H _ _ _ _ hil ?_⟩;rw[mS b,bL];exact P
  ·intro r S h;rw[gO,sv,rs.len,bL,F]at h;exact⟨O,h⟩
 rintro r S ⟨B,H,x5,x7,x8,x9,_,P⟩;rw[ca (Nat.le_of_eq F)]at P;obtain⟨au,hY⟩:∃au,au=Ob.dct B::H:=⟨_,O⟩;rw[<- hY];have cnt:∀(i j a:Nat) (row:List Nat),R[i]?=Z row->row[j]?=Z a -> ∃p aq h,ps (fj 0 R) a=[p,aq]/\dU B (Sum.inl (a:Int))=Z (.ref (X.length+2+h))/\H[h]?=Z (.lst [pD p,pD aq]):=by
  intro i j a row hr ha;have h2:=vW v sh hr ha;obtain⟨p,aq,e⟩:=AG h2;obtain⟨h,e1,e2⟩:=P.yes a (by rw[e];simp);rw[e]at e2;exact⟨p,aq,h,e,e1,e2⟩
 have gY:∀(o:Ob) (wq:Sto) (h:Nat) (x:Ob),H[h]?=Z x->(o::(X++(au++wq)))[X.length+2+h]?=Z x:=λo wq h x e=>by
  rw[hY,show X.length+2+h=X.length+(h+1)+1 by lia,gC1,eO,bj,gC1,gL1 (R1 e).1];exact e
 have gd:∀(o:Ob) (wq:Sto),(o::(X++(au++wq)))[X.length+1]?=Z (.dct B):=λo wq=>by rw[hY,gC1,dQ];rfl
 walk_at"w";refine yD (n:=U.length+1) O (gk _ _) ?_;refine iE (λi ao r S=>∃wq N V,S=o'::(X++(au++wq))/\r=[N,V,Z (.ref (X.length+1))]/\ao=(((lf R).take i).map λrow=>.tup (row.map pD))) _ 0 [] _ _ ⟨[],Y,Y,by rw[aN],O,O⟩ ?_ ?_ ?_
 ·rintro i ao r S ⟨wq,N,V,rfl,_⟩;exact fF (gk _ _)
 ·rintro i d g ao r S ⟨wq,N,V,rfl,rfl,rfl⟩;dsimp only at g;rw[gD]at g;obtain⟨z,A,rfl⟩:=R4 g;have c:=(R1 A).1;rw[sv]at c;obtain⟨k2,l⟩:∃k2,ks[i]?=some k2:=⟨_,gG1 c⟩;rw[GX l]at A;cases A;obtain⟨row,b⟩:∃row,R[i]?=some row:=⟨_,gG1 (by rw[<- rs.len];exact c)⟩;rw[bL]at *
  have hl:=K i row b;walk_at"w";refine yD (n:=U.length+2+k2) O (s _ _ i k2 row l b) ?_;dsimp only;rw[nmD,wA];refine js (f:=λp:Nat×Nat=>D.tup [.int p.2,.int p.1]) (λp=>pD (jr (fj 0 R) p.1 (i,p.2))) (λr=>∃N V,r=[N,V,Z (.ref (X.length+1)),Z (.int (i:Nat))]) (fF (s _ _ i k2 row l b)) row.zipIdx _ ⟨_,_,O⟩ ?_ ?_
  ·rintro⟨a,j⟩ ha r ⟨y0,y1,rfl⟩;obtain⟨p,aq,h,c1,c2,c3⟩:=cnt i j a row b (qi ha);have c4:=gY o' wq h _ c3;walk_at"w";refine yb (gd _ _) c2 ?_;refine yb (gd _ _) c2 ?_;refine j1 (i:=0) (x:=pD p) c4 O ?_
   wp_walk using L0
   by_cases hp:p=(i,j)
   ·rw[show(p == (i,j))=M by rw[hp];simp];walk_at"w";refine j1 (i:=1) (x:=pD aq) c4 O ?_;refine⟨?_,O,_,_,O⟩;simp[jr,c1,hp]
   ·rw[show(p == (i,j))=J by simp[hp]];walk_at"w";refine j1 (i:=0) (x:=pD p) c4 O ?_;refine⟨?_,O,_,_,O⟩;simp[jr,c1,hp]
  ·rintro r' _;walk_at"w";refine⟨dR (by rw[lM1,List.length_zipIdx];lia),?_⟩;refine ei (xs:=row.zipIdx.map λp=>pD (jr (fj 0 R) p.1 (i,p.2))) (by rw[gC1];simp only[<- lA1,<- bm,<- bE];rw[dQ];rfl) ?_;refine⟨wq++[Ob.lst (row.zipIdx.map λp=>pD (jr (fj 0 R) p.1 (i,p.2)))],_,_,O,O,?_⟩;rw[cg,rW,b];simp[vT,Function.comp_def]
 ·rintro xs r S ⟨wq,N,V,rfl,rfl,e⟩;dsimp only at e;have hwl:(lf R).length=m:=by unfold lf;simp[F]
  rw[cP,bL,gO,sv,rs.len,ca (by lia)]at e;subst e;walk_at"w";refine⟨dR (by rw[lM1];lia),?_⟩;refine ei (xs:=(lf R).map λrow=>.tup (row.map pD)) (by rw[gC1];simp only[<- lA1,<- bm,<- bE];rw[dQ];rfl) ?_;refine⟨webD (lf R),o',(.lst (rk U.length ks)::G)++(au++(wq++[Ob.lst ((lf R).map λrow=>.tup (row.map pD))])),?_,eB _,C.und,q R o' sh (C.more (by lia))⟩;rw[<- hX];simp only[bE];rfl
def At(w:dJ)(r d:Nat)(e:Nat×Nat):Prop:=∃row,w[r]?=Z row/\row[d]?=Z e
structure WebJ (m:Nat)(w:dJ):Prop where
 len:w.length=m
 le:∀(i:Nat) (row:List (Nat×Nat)),w[i]?=some row->row.length<=4
 to:∀(r d:Nat) (e:Nat×Nat),At w r d e->e.1<m
 jn:∀j,1<=j->j<m -> ∃a d e,a<j/\At w a d e/\e.1=j
structure DG (m:Nat)(w:dJ):Prop extends WebJ m w where
 bk:∀(r d:Nat) (e:Nat×Nat),At w r d e->At w e.1 e.2 (r,d)
theorem j0{w:dJ}{d:Nat}{e e':Nat×Nat}(h:At w r d e)(h':At w r d e'):e=e':=by
 obtain⟨g,f,c⟩:=h;obtain⟨r2,b,a⟩:=h';rw[f]at b;cases b;rw[c]at a;cases a;rfl
structure tK (m:Nat)(w:dJ):Prop extends WebJ m w where
 back:∀(r d:Nat) (e:Nat×Nat),At w r d e->At w e.1 e.2 (r,d)/\e≠(r,d)
theorem Kk{R:jt}{e:Nat×Nat}:At (lf R) i j e ↔ ∃row a,R[i]?=Z row/\row[j]?=Z a/\e=jr (fj 0 R) a (i,j):=by
 unfold At;rw[rW];constructor
 ·rintro⟨row,h1,h2⟩;obtain⟨b,d,rfl⟩:=R4 h1;unfold vT at h2;rw[gP1,c6]at h2;obtain⟨x,c,rfl⟩:=R4 h2;obtain⟨a,f,rfl⟩:=R4 c;exact⟨b,a,d,f,by simp⟩
 ·rintro⟨row,a,h1,h2,rfl⟩;refine⟨vT (fj 0 R) i row,by rw[h1];rfl,?_⟩;unfold vT;rw[gP1,c6,h2];simp
theorem nW{R:jt}:((i,j),a)∈fj 0 R ↔ ∃row,R[i]?=Z row/\row[j]?=Z a:=by
 rw[oQ];constructor
 ·rintro⟨c,row,h1,h2,b⟩;rw[bL]at h1;dsimp only at h1;subst h1;exact⟨row,h2,b⟩
 ·rintro⟨row,h2,b⟩;exact⟨i,row,(bL i).symm,h2,b⟩
theorem Ei{k:Nat}{R:jt}(v:WE m E k (m-1))(sh:vv E R):tK m (lf R):=by
 have w:R.length=m:=by rw[sh.len];exact v.len
 have K:∀(i:Nat) (row:List Nat),R[i]?=Z row -> ∃e,E[i]?=Z e/\row.Perm e:=λi row h=>by
  obtain⟨e,o⟩:∃e,E[i]?=some e:=⟨_,gG1 (by have:=(R1 h).1;rw[v.len];lia)⟩;exact⟨e,o,sh.row i row e h o⟩
 have f:∀(r d:Nat) (e:Nat×Nat),At (lf R) r d e->At (lf R) e.1 e.2 (r,d)/\e≠(r,d)/\e.1<m:=λr d e h=>by
  obtain⟨row,a,h1,h2,rfl⟩:=Kk.mp h;obtain⟨B,p2,A,_⟩:=xA tm (vW v sh h1 h2) (nW.mpr ⟨row,h1,h2⟩);generalize jr (fj 0 R) a (r,d)=g at *
  obtain⟨b,n,ao⟩:=(nW (i:=g.1) (j:=g.2)).mp B;refine⟨Kk.mpr ⟨b,a,n,ao,A.symm⟩,p2,?_⟩;have:=(R1 n).1;lia
 refine⟨⟨by unfold lf;simp[w],λi row h=>?_,λr d e h=>(f r d e h).2.2,λj h1 h2=>?_⟩,λr d e h=>⟨(f r d e h).1,(f r d e h).2.1⟩⟩
 ·rw[rW]at h;obtain⟨b,n,rfl⟩:=R4 h;obtain⟨e,o,p⟩:=K i b n;unfold vT;rw[lM1,List.length_zipIdx,p.length_eq];exact v.le i e o
 ·obtain⟨a,N,C,x,F,D,aq,H,G⟩:=v.jn j h1 (by lia);obtain⟨t,c⟩:∃s,R[a]?=some s:=⟨_,gG1 (by lia)⟩;obtain⟨y,l⟩:∃s,R[j]?=some s:=⟨_,gG1 (by lia)⟩;obtain⟨d,q⟩:=bq ((sh.row a t N c D).mem_iff.mpr H);obtain⟨I,u⟩:=bq ((sh.row j y C l aq).mem_iff.mpr G);obtain⟨_,_,_,L⟩:=xA tm (vW v sh c q) (nW.mpr ⟨t,c,q⟩);rcases L (j,I) (nW.mpr ⟨y,l,u⟩)with z|z
  ·injection z with av P;lia
  ·exact⟨a,d,_,F,Kk.mpr ⟨t,x,c,q,O⟩,by rw[<- z]⟩
theorem EU(ho:fw o n)(hn:n<=2^40)(V:T.all (Ob.und (T.length+1))=M)(h0:1<=a)(h8:a<=8)(h:∀m w o',0<m->m<=a->tK m w->fw o' (n+100)->Q (webD w,o'::T)):W (dI 2 fq [.ref 0,.int a] (o::T)) Q:=by
 refine ma O O V ?_;unfold fq;refine i6 ?_;unfold i8;generalize K:T.length=t;refine d4 (λr S=>∃(m:Nat) (u:Ob),0<m/\m<=a/\fw u (n+1)/\r=[Z (.ref 0),Z (.int a),Z (.int m),Z (.int ((0:Nat):Int)),Y,Y,Y,Y,Y,Y]/\S=u::T) ?_ ?_
 ·walk_at"w";refine fD ho (by lia) (by lia) (by lia) λc u z hc=>?_;walk_at"w";exact⟨c+1,u,by lia,by lia,z,by simp[Int.add_comm],O⟩
 rintro r S ⟨m,u,F,wq,z,rfl,rfl⟩;refine d4 (λr S=>∃U,WN t m T (aP m []) U/\r=[Z (.ref 0),Z (.int a),Z (.int m),Z (.int ((0:Nat):Int)),Z (.ref (t+m+1)),Y,Y,Y,Y,Y]/\S=u::U) ?_ ?_
 ·walk_at"w";refine⟨eL (by lia),?_⟩;rw[Qr];refine iE (λi C r S=>C=jG (t+1) i/\S=u::(T++aP i (.lst [])) /\ ∃x,r=[x]) (fX 0 m) 0 [] _ _ ⟨O,by simp,_,O⟩ (λ_ _ _ _ _=>rfl) ?_ ?_
  ·rintro i d y C r S ⟨rfl,rfl,x,rfl⟩;walk_at"w";rw[bL];refine⟨?_,?_,_,O⟩
   ·rw[qt,K,lR1]
    congr 3
    lia
   ·rw[List.replicate_succ']
  ·rintro xs r S ⟨e,rfl,_⟩;rw[cP,bL,et]at e;subst e;rw[bL,et];walk_at"w";rw[lI];refine⟨dR (by lia),_,Ay K V,?_,O⟩;simp[K]
 rintro r S ⟨U0,w0,rfl,rfl⟩;refine d4 (λr S=>∃E k f U p g l,WN t m T E U/\WE m E k (m-1)/\fw f (n+20)/\r=[Z (.ref 0),Z (.int a),Z (.int m),Z (.int (k:Nat)),Z (.ref (t+m+1)),p,g,l,Y,Y]/\S=f::U) ?_ ?_
 ·walk_at"w";refine⟨Dq (by decide) (by decide),eL (by lia),?_⟩;refine eN (λi r S=>i<=m-1 /\ ∃E f U p g l,WN t m T E U/\WE m E i i/\(∀j row,i+1<=j->E[j]?=Z row->row=[])/\fw f (n+1+i)/\r=[Z (.ref 0),Z (.int a),Z (.int m),Z (.int (i:Nat)),Z (.ref (t+m+1)),p,g,l,Y,Y]/\S=f::U) _ 0 _ _ ?_ (λ_ _ _ _=>rfl) ?_ ?_
  ·refine⟨by lia,_,u,U0,Y,Y,Y,w0,AB m,λj row _ G=>?_,z,O,O⟩;rw[aS]at G;split at G
   ·cases G;rfl
   ·cases G
  ·rintro i d y r S ⟨hi,E,f,U,p,g,l,w,v,X,b,rfl,rfl⟩;have q:=(R1 y).1;rw [et] at q;have N:d = .int ((i+1:Nat):Int):=by
    rw[nS,gP1,cr q]at y;simp at y;rw[<- y]
    push_cast
    congr 1
    lia
   subst N;rw[bL]at *
   walk_at"w";refine HF w v b (by lia) (by lia) (by lia) X λH o' av au P ao aq s L=>?_;exact⟨O,by lia,H,o',av,_,_,_,ao,aq,L,s.more (by lia),O,O⟩
  ·rintro r S ⟨hi,E,f,U,p,g,l,w,v,X,b,rfl,rfl⟩;rw[et,bL]at *
   have e:((m:Int)-1).toNat=m-1:=by lia
   rw[e]at v b ⊢;exact⟨O,E,m-1,f,U,p,g,l,w,v,b.more (by lia),O,O⟩
 rintro r S ⟨E,k,f,U,p,g,l,w,v,b,rfl,rfl⟩;refine d4 (λr S=>∃E k f U p g l A B,WN t m T E U/\WE m E k (m-1)/\fw f (n+50)/\r=[Z (.ref 0),Z (.int a),Z (.int m),Z (.int (k:Nat)),Z (.ref (t+m+1)),p,g,l,A,B]/\S=f::U) ?_ ?_
 ·walk_at"w";refine fD b (by lia) (by lia) (by lia) λc o3 I hc=>?_;walk_at"w";refine⟨eL (by lia),?_⟩;rw[Qr];refine eN (λi r S=>i<=c /\ ∃E k f U p g l A B,WN t m T E U/\WE m E k (m-1)/\fw f (n+21+2*i)/\r=[Z (.ref 0),Z (.int a),Z (.int m),Z (.int (k:Nat)),Z (.ref (t+m+1)),p,g,l,A,B]/\S=f::U) _ 0 _ _ ⟨by lia,E,k,o3,U,p,g,l,Y,Y,w,v,I,O,O⟩ (λ_ _ _ _=>rfl) ?_ ?_
  ·rintro i d y r S ⟨hi,E,k,f,U,p,g,l,A,B,w,v,b,rfl,rfl⟩;have q:=(R1 y).1;rw[et]at q;rw[bL]at *
   walk_at"w";refine I7 w v b (by lia) F (by lia) λH k' o' av P x9' ao aq s=>?_;exact⟨O,by lia,H,k',o',av,_,_,_,_,_,ao,aq,s.more (by lia),O,O⟩
  ·rintro r S ⟨hi,E,k,f,U,p,g,l,A,B,w,v,b,rfl,rfl⟩;rw[et,bL]at b;exact⟨O,E,k,f,U,_,_,_,_,_,w,v,b.more (by lia),O,O⟩
 rintro r S ⟨E,k,f,U,p,g,l,A,B,w,v,b,rfl,rfl⟩;walk_at"w";refine C6 w v b (by lia) (by lia) λR o' sh s=>?_;exact⟨webD (lf R),o',U.drop t,by rw[<- w.split],eB _,s.und,h m _ o' F wq (Ei v sh) (s.more (by lia))⟩
theorem Mp{m:FA}{r:Ev}{S1:Sto}{k:Nat}(h:m r S=Z ([.int k],S1))(hk:k<=1000)(q:Q (.ref S1.length,S1++[.lst (fX 0 k)])):W (zr m r S) Q:=by
 refine W.of ?_ q;unfold zr;rw[h,oS1];dsimp only;have:ug 0 (k:Int)=M:=by
  unfold ug;simp only[bA1,am];lia
 rw[ak this,Qr]
theorem E7(ho:fw o n)(hn:n<=2^42)(hc:a<=8)(q:∀t o',t.Perm (af a)->fw o' (n+a)->Q (.ref (T.length+2),o'::(T++[.lst [],.lst (nmD t)]))):W (dI 2 fU [.ref 0,.int a] (o::T)) Q:=by
 refine vk O O ?_;unfold fU;refine i6 ?_;unfold mf;have m:∀(o:Ob) (X:Ob) (au:Sto),(o::(T++X::au))[T.length+1]?=Z X:=λo X au=>by rw[gC1,dQ];rfl
 refine d4 (λr S=>S=o::(T++[.lst (nmD (af a))])/\r=[Z (.ref 0),Z (.int a),Z (.ref (T.length+1))]) ?_ ?_
 ·unfold dS;rw[dN];refine Mp (k:=a) (S1:=o::T) O (by lia) ?_;rw[kR];walk_at"w";exact⟨O,trivial⟩
 rintro r S ⟨rfl,rfl⟩;walk_at"w";refine⟨eL (by lia),?_⟩;rw[Qr];refine iE (λi h r S=>∃o' rs c x,i<=a/\(rs++c).Perm (af a)/\rs.length=i/\h=nmD rs/\fw o' (n+i)/\S=o'::(T++[.lst (nmD c)])/\r=[x,Z (.ref (T.length+1)),Z (.ref 0)]) (fX 0 a) 0 [] _ _ ⟨o,[],af a,_,by lia,.refl _,O,O,ho,O,O⟩ (λ_ _ _ _ _=>rfl) ?_ ?_
 ·rintro i d p h r S ⟨o',rs,c,x,hi,g,u,rfl,f,rfl,rfl⟩;have l:=(R1 p).1;rw[et]at l;have b:=g.length_eq;rw[lA1,cB]at b;rw[bL]at *
  walk_at"w";refine i9 ?_;walk_at"w";refine⟨T.length+1,nmD c,O,m _ _ _,?_⟩;refine ei (m _ _ _) ?_;walk_at"w";rw[ej];refine fD f (by lia) (by lia) (by lia) λd v j p=>?_;obtain⟨y,s⟩:∃y,c[d]?=some y:=⟨_,gG1 (by lia)⟩;walk_at"w";refine DN (m _ _ _) (B0 s) (by lia) ?_;refine⟨v,rs++[y],c.eraseIdx d,_,by lia,ul g s,by rw[lA1,u];rfl,nT,j.more (by lia),?_,O⟩;rw[cD,cZ _ _ (nR1 _),cF,uy];rfl
 ·rintro xs r S ⟨o',rs,c,x,hi,g,u,e,f,rfl,rfl⟩;rw[et,bL]at *
  rw[cP]at e;subst e;have b:=g.length_eq;rw[lA1,cB]at b;have:c=[]:=List.eq_nil_of_length_eq_zero (by lia);subst this;rw[aN]at g;walk_at"w";refine⟨dR (by rw[ej];lia),?_⟩;unfold gc;rw[aj (by simp[D.und])];exact q rs o' g f
noncomputable def tk3(r k d:Nat):TK:=.tup [.int r,.int k,.int d]
noncomputable def r0(r k d:Nat):D:=.tup [.int r,.int k,.int d]
theorem JJ{k d:Nat}:keyT (r0 r k d)=Z (tk3 r k d):=rfl
theorem lA{k d k' d':Nat}(h:tk3 r k d=tk3 a k' d'):r=a/\k=k'/\d=d':=by
 simp[tk3]at h;lia
def DX(w:dJ)(cp:Nat)(F:List (TK×D))(r k d:Nat):Prop:=∃e k',At w r d e/\k'<cp/\dU F (tk3 r k d)=Z (r0 e.1 k' e.2)/\dU F (tk3 e.1 k' e.2)=Z (r0 r k d)
def GQ(F F':List (TK×D))(p e:Nat×Nat):Prop:=∀a k b,(a,b)≠p->(a,b)≠e->dU F' (tk3 a k b)=dU F (tk3 a k b)
theorem DX.keep{w:dJ}{g k d:Nat}{p e:Nat×Nat}{i:List (TK×D)}(h:DX w g F r k d)(hk:GQ F i p e)(h1:(r,d)≠p)(h2:(r,d)≠e)(l:∀f,At w r d f->f≠p/\f≠e):DX w g i r k d:=by
 obtain⟨f,j,a,b,c,m⟩:=h;have:=l f a;exact⟨f,j,a,b,by rw[hk r k d h1 h2];exact c,by rw[hk f.1 j f.2 this.1 this.2];exact m⟩
theorem Mm{m:FA}{r:Ev}{Q:Ah×Sto->Prop}(h:W (m r S) λp=>∃n xs,p.1=[.ref n]/\p.2[n]?=Z (.lst xs)/\Q (⟨u5 0 xs,[(n,xs)]⟩,p.2)):W (p7 m r S) Q:=by
 obtain⟨⟨a,b⟩,e,n,xs,h1,h2,q⟩:=h;dsimp only at h1 h2 q;subst h1;refine W.of (x:=(⟨u5 0 xs,[(n,xs)]⟩,b)) ?_ q;simp only[p7,e,oS1,fS h2,nY h2]
theorem Es{G:Sto}{cp d:Nat}{w:dJ}{e:Nat×Nat}{P R x9 x10 m j l p:Option D}{Q:Fl×Ev×Sto->Prop}(ho:fw o n)(hn:n<=2^42)(hc:cp<=4)(ha:At w r d e)(hb:At w e.1 e.2 (r,d))(hne:e≠(r,d))(hF:F.length<900)(q:∀f G' o' X K,fw o' (n+4)->GQ F f (r,d) e->(∀k,k<cp->DX w cp f r k d/\DX w cp f e.1 k e.2)->f.length<=F.length+8 ->
   Q (.nx,[Z (.ref 0),P,Z (.int cp),Z (.ref (T.length+1)),Z (.int r),R,Z (.int d),Z (.int e.1),Z (.int e.2),X,K,m,j,l,p],o'::(T++dO f::G'))):
  W (fE (p7 (dG (mN (dI 2 fU) (dG (mV 0) (dG (mV 2) dH))) dH)) (gT 2 (gCs (gN 9) (gCs (gN 10) gNl))) iw [Z (.ref 0),P,Z (.int cp),Z (.ref (T.length+1)),Z (.int r),R,Z (.int d),Z (.int e.1),Z (.int e.2),x9,x10,m,j,l,p] (o::(T++dO F::G))) Q:=by
 unfold fE;rw[dN];refine Mm ?_;simp(implicitDefEqProofs:=J) only[dG,mN,mV,cS,gC1,dH,oS1,dN,dV];refine E7 ho hn (by lia) λg o' aq ho'=>?_;have I:=aq.length_eq;rw[cB]at I;have E:∀c x:Nat,g[c]?=Z x->x<cp:=λc x h=>aC.mp (aq.mem_iff.mp (gM1 h));walk_at"w";have eS:o'::(T++dO F::(G++[Ob.lst [],Ob.lst (nmD g)]))=o'::((T++dO F::G)++[Ob.lst [],Ob.lst (nmD g)]):=by simp
 have U:∀(f:List (TK×D)),(o'::(T++dO f::(G++[Ob.lst [],Ob.lst (nmD g)])))[T.length+(G.length+1)+2]?=Z (.lst (nmD g)):=λf=>by
  rw[show T.length+(G.length+1)+2=T.length+(G.length+1+1)+1 by lia,gC1,eO,gC1,eO];rfl
 refine⟨T.length+(G.length+1)+2,nmD g,by first|rfl|(congr 3;lia),by first|exact U F|(rw[<- U F];congr 1;lia),?_⟩;have gd:∀(wq:Ob) (au:Sto),(o'::(T++wq::au))[T.length+1]?=Z wq:=λwq au=>by rw[gC1,dQ];rfl
 have sd:∀(wq V:Ob) (au:Sto),(o'::(T++wq::au)).set (T.length+1) V=o'::(T++V::au):=λwq V au=>by
  rw[cD,cZ _ _ (nR1 _),cF];rfl
 refine eN (λi t S=>∃f L s,i<=cp/\GQ F f (r,d) e/\(∀c x:Nat,c<i->g[c]?=Z x->dU f (tk3 r c d)=Z (r0 e.1 x e.2)/\dU f (tk3 e.1 x e.2)=Z (r0 r c d))/\f.length<=F.length+2*i/\S=o'::(T++dO f::(G++[Ob.lst [],Ob.lst (nmD g)]))/\t=[Z (.ref 0),P,Z (.int cp),Z (.ref (T.length+1)),Z (.int r),R,Z (.int d),Z (.int e.1),Z (.int e.2),L,s,m,j,l,p]) _ 0 _ _ ⟨F,_,_,by lia,λ_ _ _ _ _=>rfl,λc x h=>by lia,by lia,O,O⟩ ?_ ?_ ?_
 ·rintro i t S ⟨f,L,s,_,_,_,_,rfl,_⟩;exact fF (U f)
 ·rintro i dd hd t S ⟨f,L,s,hi,kp,av,hl,rfl,rfl⟩;rw[gD,nmD,gP1,Option.map_map]at hd;obtain⟨x,A,rfl⟩:=R4 hd;have hlt:=(R1 A).1;have hxc:=E i x A;rw[bL]at *
  unfold Function.comp;walk_at"w";unfold iw;refine d4 (λt S=>S=o'::(T++dO (gU f (tk3 r i d) (r0 e.1 x e.2))::(G++[Ob.lst [],Ob.lst (nmD g)]))/\t=[Z (.ref 0),P,Z (.int cp),Z (.ref (T.length+1)),Z (.int r),R,Z (.int d),Z (.int e.1),Z (.int e.2),Z (.int (i:Nat)),Z (.int (x:Nat)),m,j,l,p]) ?_ ?_
  ·walk_at"w";refine wL (key:=r0 r i d) (v:=r0 e.1 x e.2) (F:=f) (gd _ _) JJ (by lia) ?_;walk_at"w";exact⟨sd _ _ _,trivial⟩
  rintro t S ⟨rfl,rfl⟩;have pl:=sy (k:=tk3 r i d) (v:=r0 e.1 x e.2) (a:=f);have pl2:=sy (k:=tk3 e.1 x e.2) (v:=r0 r i d) (a:=gU f (tk3 r i d) (r0 e.1 x e.2));walk_at"w";refine wL (key:=r0 e.1 x e.2) (v:=r0 r i d) (F:=gU f (tk3 r i d) (r0 e.1 x e.2)) (gd _ _) JJ (by lia) ?_;have u:∀a b:Nat,tk3 r a d≠tk3 e.1 b e.2:=λa b z=>by
   obtain⟨C,_,ao⟩:=lA z;exact hne (by rw[C,ao])
  refine⟨_,_,_,by lia,λa k b h h'=>?_,λc y h N=>?_,by lia,sd _ _ _,O⟩
  ·rw[ft,ft,aj,aj]
   ·exact kp a k b h h'
   ·intro z;obtain⟨C,_,ao⟩:=lA z;exact h (by rw[C,ao])
   ·intro z;obtain⟨C,_,ao⟩:=lA z;exact h' (by rw[C,ao])
  ·rcases c7.mp h with h|rfl
   ·have nx:y≠x:=fun z=>by
     subst z;have nd:=aq.nodup_iff.mpr cA;obtain⟨l1,g1⟩:=R1 N;obtain⟨l2,g2⟩:=R1 A;have:=(aI nd).mp (g1.trans g2.symm);lia
    obtain⟨H,B⟩:=av c y h N;refine⟨?_,?_⟩
    ·rw[ft,ft,aj (u c x),aj,H];intro z;have:=(lA z).2.1;lia
    ·rw[ft,ft,aj,aj (Pr (u i y)),B];intro z;exact nx (lA z).2.1
   ·rw[A]at N;cases N;refine⟨?_,?_⟩
    ·rw[ft,ft,aj (u c x),ak O]
    ·rw[ft,ak O]
 ·rintro t S ⟨f,L,s,hi,kp,av,hl,rfl,rfl⟩;rw[gO,ej,bL]at *
  refine q f _ o' _ _ (ho'.more (by lia)) kp (λk hk=>⟨?_,?_⟩) (by lia)
  ·obtain⟨x,A⟩:∃x,g[k]?=some x:=⟨_,gG1 (by lia)⟩;obtain⟨H,B⟩:=av k x (by lia) A;exact⟨e,x,ha,E k x A,H,B⟩
  ·obtain⟨c,hc⟩:=bq (aq.mem_iff.mpr (aC.mpr hk));have hcl:=(R1 hc).1;obtain⟨H,B⟩:=av c k hcl hc;exact⟨(r,d),c,hb,by lia,B,H⟩
noncomputable def zu(a b:Nat×Nat):Bool:=decide (a.1<b.1)||(decide (a.1=b.1)&&decide (a.2<b.2))
theorem JV{a b:Nat×Nat}:gLt (pD a) (pD b) S=Z (.bl (zu a b),S):=by
 have d:∀(n x y:Nat),i7 S (n+1) (.int x) (.int y)=Z (decide (x=y)):=λn x y=>by
  show Z ((x:Int) == (y:Int))=_
  congr 1
  rw[bO,RO,am];lia
 have c:∀(n x y:Nat),G8 S (n+1) (.int x) (.int y)=Z (decide (x<y)):=λn x y=>by
  show Z (decide ((x:Int)<(y:Int)))=_
  congr 1
  rw[bO,am,am];lia
 unfold gLt d8;rw[show(60:Nat)=58+1+1 from rfl,G8];simp only[pD,Nt,dZ,Qv,LI,d,c,oS1];unfold zu;by_cases h1:a.1=b.1
 ·by_cases h2:a.2=b.2
  ·simp[h1,h2]
  ·simp[h1,h2]
 ·simp[h1]
theorem FQ{a b:Nat×Nat}(h:zu a b=J)(c:b≠a):zu b a=M:=by
 unfold zu at *
 obtain⟨a1,a2⟩:=a;obtain⟨b1,b2⟩:=b;simp at *
 lia
theorem few:∀{N:Nat} {l:List Nat},l.Nodup->(∀x∈l,x<N)->l.length<=N
 |0,l,_,h=>by
  cases l with
  |nil=>simp
  |cons a l=>have:=h a mS1;lia
 |N+1,l,n,h=>by
  by_cases d:N∈l
  ·have h1:=few (N:=N) (l:=l.erase N) (n.erase N) fun x c=>by
    have b:=(List.Nodup.mem_erase_iff n).mp c;have:=h x b.2;have:=b.1;lia
   have:=List.length_erase_of_mem d;lia
  ·have:=few (N:=N) (l:=l) n fun x c=>by
    have h1:=h x c;have:x≠N:=λz=>d (z ▸ c);lia
   lia
theorem NG{A B:Nat}{l:List (Nat×Nat)}(n:l.Nodup)(h:∀x∈l,x.1<A/\x.2<B):l.length<=A*B:=by
 have h1:=few (N:=A*B) (l:=l.map λx=>x.1*B+x.2) ?_ ?_
 ·simpa using h1
 ·rw[List.nodup_iff_pairwise_ne,cR];refine List.Pairwise.imp_of_mem ?_ n;intro x y a f b e;apply b;have h1:=h x a;have h2:=h y f;have ex:x.1=(x.1*B+x.2)/B:=by rw[Nat.mul_comm,Nat.mul_add_div (by lia),Nat.div_eq_of_lt h1.2,Nat.add_zero]
  have d:y.1=(y.1*B+y.2)/B:=by rw[Nat.mul_comm,Nat.mul_add_div (by lia),Nat.div_eq_of_lt h2.2,Nat.add_zero]
  have c:x.1=y.1:=by rw[ex,d,e]
  rw[c]at e;exact Prod.ext c (by lia)
 ·intro z g;obtain⟨x,a,rfl⟩:=cf.mp g;have h1:=h x a;have:(x.1+1)*B<=A*B:=c8 B h1.1;rw[Nat.add_mul]at this;lia
theorem zK{α:Type}[BEq α][LawfulBEq α]{l:List α}{x:α}(h:x∈l):∃j,l.findIdx? (· == x)=Z j/\l[j]?=Z x:=by
 cases e:l.findIdx? (· == x)with
 |none=>
  rw[List.findIdx?_eq_none_iff]at e;have:=e x h;simp at this
 |some j=>
  obtain⟨a,h1,_⟩:=bZ.mp e;exact⟨j,O,by rw[gG1 a];simp at h1;rw[h1]⟩
theorem CB{S:Sto}{n:Nat}{x:Nat×Nat}:∀row:List (Nat×Nat),D0 (i7 S (n+2)) (pD x) (row.map pD)=Z (row.contains x)
 |[]=>rfl
 |y::row=>by
  rw[mP1,D0,wx,CB row,b5,show(y == x)=(x == y)from Bool.beq_comm];rfl
theorem GM{row:List (Nat×Nat)}{x:Nat×Nat}(h:S[n]?=Z (.lst (row.map pD)))(q:Q (.bl (!row.contains x),S)):W (fW (pD x) (.ref n) S) Q:=by
 refine W.of ?_ q;simp only[fW,h,ji,mO,fS h,oS1,d8,show(60:Nat)=58+2 from rfl,CB,oP1]
theorem Hl{m:FE}{lo hi:FO}{r:Ev}{xs:List D}{a b:Option Int}(hm:m r S=Z (.tup xs,S))(c:lo r S=Z (a,S))(d:hi r S=Z (b,S))(q:Q (.tup (Mi.l8 xs a b),S)):W (kB m lo hi r S) Q:=by
 refine W.of ?_ q;unfold kB;rw[hm,oS1];dsimp only;rw[c,oS1];dsimp only;rw[d,oS1];simp only[sf,iC,oP1,bF1,Qt]
def MR(w:dJ)(cp i j:Nat)(F:List (TK×D)):Prop:=∀r d e,At w r d e->zu (r,d) e=M->(r<i\/(r=i/\d<j)) -> ∀k,k<cp->DX w cp F r k d/\DX w cp F e.1 k e.2
inductive AI (w:dJ)(cp m n:Nat)(T:Sto):Nat->Ev->Sto->Prop
 |mk (i:Nat) (F:List (TK×D)) (G:Sto) (o':Ob) (x4 x5 x6 x7 x8 x9 x10:Option D) (hi:i<=m) (don:MR w cp i 0 F) (hF:F.length<=32*i) (ho:fw o' (n+16*i)):AI w cp m n T i [some (.ref 0),some (webD w),some (.int cp),some (.ref (T.length+1)),x4,x5,x6,x7,x8,x9,x10,none,none,none,none] (o'::(T++dO F::G))
inductive AJ (w:dJ)(cp n:Nat)(T:Sto)(i:Nat)(row:List (Nat×Nat)):Nat->Ev->Sto->Prop
 |mk (j:Nat) (F:List (TK×D)) (G:Sto) (o':Ob) (x6 x7 x8 x9 x10:Option D) (hj:j<=row.length) (don:MR w cp i j F) (hF:F.length<=32*i+8*j) (ho:fw o' (n+16*i+4*j)):AJ w cp n T i row j [some (.ref 0),some (webD w),some (.int cp),some (.ref (T.length+1)),some (.int (i:Nat)),some (.tup (row.map pD)),x6,x7,x8,x9,x10,none,none,none,none] (o'::(T++dO F::G))
theorem wH{l:Nat}{w:dJ}{Q:Fl×Ev×Sto->Prop}(hw:tK m w)(hm:m<=8)(hc:l<=4)(ho:fw o n)(hn:n<=2^41)(q:∀F G o' P au C K H L p,fw o' (n+128)->(∀r d e k,At w r d e->k<l->DX w l F r k d) ->
   Q (.nx,[Z (.ref 0),Z (webD w),Z (.int l),Z (.ref (T.length+1)),P,au,C,K,H,L,p,Y,Y,Y,Y],o'::(T++dO F::G))):
  W (fE (p7 (dG (mV 1) dH)) (gT 2 (gCs (gN 4) (gCs (gN 5) gNl))) iu [Z (.ref 0),Z (webD w),Z (.int l),Z (.ref (T.length+1)),Y,Y,Y,Y,Y,Y,Y,Y,Y,Y,Y] (o::(T++dO []::[]))) Q:=by
 unfold fE;rw[dN];refine rR (xs:=w.map λrow=>.tup (row.map pD)) O ?_;refine eN (AI w l m n T) _ 0 _ _ (.mk 0 [] [] o _ _ _ _ _ _ _ (bi _) (λr d e h1 h2 B=>by lia) (by simp) ho) (λ_ _ _ _=>rfl) ?_ ?_
 ·rintro i dd y r S ⟨F,G,o',P,au,C,K,H,L,p,hi,c,V,f⟩;rw[gD,gP1,Option.map_map]at y;obtain⟨row,g,rfl⟩:=R4 y;have E:=(R1 g).1;rw[hw.len]at E;have hr4:=hw.le i row g;rw[bL]at *
  unfold Function.comp;walk_at"w";unfold iu fE;rw[dN];refine rR (xs:=row.map pD) O ?_;refine eN (AJ w l n T i row) _ 0 _ _ (.mk 0 F G o' _ _ _ _ _ (bi _) c (by lia) (f.more (by lia))) (λ_ _ _ _=>rfl) ?_ ?_
  ·rintro j dd y r S ⟨F,G,o',C,K,H,L,p,hj,c,V,f⟩;rw[gD,gP1,Option.map_map]at y;obtain⟨e,he,rfl⟩:=R4 y;have I:=(R1 he).1;have A:At w i j e:=⟨row,g,he⟩;have t:=hw.back i j e A;rw[bL]at *
   unfold Function.comp pD;walk_at"w";unfold jJ;have el:∀S,gLt (D.tup [D.int (i:Int),D.int (j:Int)]) (D.tup [D.int (e.1:Int),D.int (e.2:Int)]) S=Z (.bl (zu (i,j) e),S):=λS=>JV (a:=(i,j)) (b:=e);unfold fr;rw[dN];refine W.of (x:=(zu (i,j) e,o'::(T++dO F::G))) ?_ ?_
   ·simp only[mB,m2,eH,dG,dH,mV,gC1,cS,cV,oP1,oS1,lC1,bf,b2,el,cU,ak (show 2<=dy by decide)]
   dsimp only;have up:∀F',zu (i,j) e=M->GQ F F' (i,j) e->(∀k,k<l->DX w l F' i k j/\DX w l F' e.1 k e.2)->MR w l i (j+1) F':=λF' s kp new r d v h1 h2 B k u=>by
    by_cases U:r=i/\d=j
    ·obtain⟨rfl,rfl⟩:=U;obtain rfl:=j0 A h1;exact new k u
    ·have X:r<i\/(r=i/\d<j):=by lia
     have N:(r,d)≠(i,j):=λz=>by injection z with z1 z2;lia
     have R:(r,d)≠e:=λz=>by
      rw[<- z]at s;unfold zu at s;simp at s;lia
     have b1:=(hw.back r d v h1).1;have n3:v≠(i,j):=λz=>by
      rw[z]at b1;exact R (j0 b1 A)
     have wq:v≠e:=λz=>by
      rw[z]at b1;exact N (j0 b1 t.1)
     have:=c r d v h1 h2 X k u;refine⟨this.1.keep kp N R λe2 h=>?_,this.2.keep kp n3 wq λe2 h=>?_⟩
     ·rw[<- j0 h1 h];exact⟨n3,wq⟩
     ·rw[<- j0 b1 h];exact⟨N,R⟩
   have av:zu (i,j) e=J->MR w l i (j+1) F:=λs r d v h1 h2 B k u=>by
    by_cases U:r=i/\d=j
    ·obtain⟨rfl,rfl⟩:=U;obtain rfl:=j0 A h1;rw[s]at h2;cases h2
    ·exact c r d v h1 h2 (by lia) k u
   cases hl:zu (i,j) e with
   |false=>
    rw[aj (by decide)];exact dV.mpr ⟨O,.mk _ F G o' _ _ _ _ _ I (av hl) (by lia) (f.more (by lia))⟩
   |true=>
    rw[ak O];refine Es (w:=w) f (by lia) hc A t.1 t.2 (by lia) λF' G' o2 x9' x10' h1 h2 B h4=>?_;exact⟨O,.mk _ F' G' o2 _ _ _ _ _ I (up F' hl h2 B) (by lia) (h1.more (by lia))⟩
  ·rintro r S ⟨F,G,o',C,K,H,L,p,hj,c,V,f⟩;rw[gO,lM1,bL]at *
   refine⟨O,.mk _ F G o' _ _ _ _ _ _ _ E (λr d e h1 h2 B=>c r d e h1 h2 ?_) (by lia) (f.more (by lia))⟩;rcases(show r<i\/r=i by lia)with h|rfl
   ·exact .inl h
   ·obtain⟨row',aq,g2⟩:=h1;rw[g]at aq;cases aq;exact .inr ⟨O,(R1 g2).1⟩
 ·rintro r S ⟨F,G,o',P,au,C,K,H,L,p,hi,c,V,f⟩;rw[gO,lM1,bL,hw.len]at *
  refine q F G o' _ _ _ _ _ _ _ (f.more (by lia)) λr d e k h u=>?_;have ao:∀r d e,At w r d e->r<m:=λr d e h=>by
   obtain⟨row,aq,_⟩:=h;rw[<- hw.len];exact(R1 aq).1
  have t:=hw.back r d e h;cases hl:zu (r,d) e with
  |true=>exact(c r d e h hl (.inl (ao r d e h)) k u).1
  |false=>exact(c e.1 e.2 (r,d) t.1 (FQ hl t.2) (.inl (ao _ _ _ t.1)) k u).2
def gK(F:List (TK×D))(x:Nat×Nat)(d:Nat):(Nat×Nat)×Nat:=match dU F (tk3 x.1 x.2 d)with
 |some (.tup [.int a,.int b,.int c])=>((a.toNat,b.toNat),c.toNat)
 |_=>((0,0),0)
noncomputable def deg(w:dJ)(r:Nat):Nat:=(w.getD r []).length
def Fj(p:(Nat×Nat)×Nat):D:=r0 p.1.1 p.1.2 p.2
structure MI (m cp:Nat)(met:List (Nat×Nat)):Prop where
 nd:met.Nodup
 inn:∀x∈met,x.1<m/\x.2<cp
theorem MI.few(i:MI m a met)(h:m*a<=8):met.length<=8:=aD (NG i.nd i.inn) h
def All(w:dJ)(cp:Nat)(F:List (TK×D)):Prop:=∀r d e k,At w r d e->k<cp->DX w cp F r k d
theorem wc{w:dJ}{d:Nat}{x:Nat×Nat}(hw:tK m w)(all:All w b F)(hx:x.1<m/\x.2<b)(hd:d<deg w x.1):
  dU F (tk3 x.1 x.2 d)=Z (Fj (gK F x d))/\((gK F x d).1.1<m/\(gK F x d).1.2<b)/\gK F (gK F x d).1 (gK F x d).2=(x,d)/\(gK F x d).2<deg w (gK F x d).1.1:=by
 obtain⟨row,a⟩:∃row,w[x.1]?=some row:=⟨_,gG1 (by rw[hw.len];exact hx.1)⟩;have c:d<row.length:=by
  unfold deg at hd;rw[bH,a,b0]at hd;exact hd
 obtain⟨e,h,h1,h2,f,i⟩:=all x.1 d row[d] x.2 ⟨row,a,gG1 c⟩ hx.2;have k:gK F x d=((e.1,h),e.2):=by
  unfold gK;rw[f];simp[r0]
 rw[k];have eb:gK F (e.1,h) e.2=(x,d):=by
  unfold gK;rw[i];simp[r0]
 refine⟨f,⟨hw.to x.1 d e h1,h2⟩,eb,?_⟩;obtain⟨g,l,j⟩:=(hw.back x.1 d e h1).1;unfold deg;rw[bH,l];exact(R1 j).1
def Cl(w:dJ)(F:List (TK×D))(met:List (Nat×Nat))(i j:Nat):Prop:=∀a d x,met[a]?=Z x->d<deg w x.1->(a<i\/(a=i/\d<j))->(gK F x d).1∈met
def Jn(w:dJ)(F:List (TK×D))(met:List (Nat×Nat)):Prop:=∀b y,1<=b->met[b]?=Z y -> ∃a d x,a<b/\met[a]?=Z x/\d<deg w x.1/\(gK F x d).1=y
theorem Jn.snoc{w:dJ}{d:Nat}{x:Nat×Nat}(j:Jn w F met)(ha:met[a]?=Z x)(hd:d<deg w x.1):Jn w F (met++[(gK F x d).1]):=by
 have f:=(R1 ha).1;intro b y n c;by_cases g:b<met.length
 ·rw[gL1 g]at c;obtain⟨i,h,l,m,k,p,o⟩:=j b y n c;exact⟨i,h,l,m,by rw[gL1 (by lia)];exact k,p,o⟩
 ·have:=(R1 c).1;rw[lA1,aY]at this;have e:b=met.length:=by lia
  subst e;rw[c5]at c;cases c;exact⟨a,d,x,f,by rw[gL1 f];exact ha,hd,O⟩
theorem LS{x:Nat×Nat}{d:Nat}(h:S[n]?=Z (dO F))(a:dU F (tk3 x.1 x.2 d)=Z (Fj (gK F x d))):dL (.ref n) (r0 x.1 x.2 d) S=Z (Fj (gK F x d),S):=by
 obtain⟨p,e,rfl⟩:=DQ (Q:=λp=>p=(Fj (gK F x d),S)) h JJ a O;exact e
theorem NU{f:FN}{a b:FE}{r:Ev}(h:W (a r S) λp=>W (b r p.2) λq=>W (f [p.1,q.1] q.2) Q):W (m2 f a b r S) Q:=by
 unfold m2;rw[dN];exact h.mono λp c=>by rw[dN];exact c
theorem NK{p:(Nat×Nat)×Nat}:D.tup (Mi.l8 [.int p.1.1,.int p.1.2,.int p.2] Y (Z 2))=pD p.1:=rfl
theorem LA{V:Sto}{t:Nat}{w:dJ}{x4 N x6 L ao x9 v u A:Option D}{Q:Fl×Ev×Sto->Prop}(hw:tK m w)(hm0:0<m)(hc0:0<t)(h8:m*t<=8)(all:All w t F)(hV:V[n]? = some (dO F))(q:∀met T G U y12,MI m t met->0<met.length->Cl w F met met.length 0->Jn w F met->Q (.nx,[some (.ref 0),some (webD w),some (.int t),some (.ref (n+1)),T,N,G,L,ao,U,v,some (.ref (V.length+1)),y12,u,A],o::(V++[.lst (met.map pD)]))):
  W (ql iq ip 100000 [Z (.ref 0),Z (webD w),Z (.int t),Z (.ref (n+1)),x4,N,x6,L,ao,x9,v,Z (.ref (V.length+1)),Z (.int ((0:Nat):Int)),u,A] (o::(V++[.lst ([(0,0)].map pD)]))) Q:=by
 have av:∀(X:Ob),(o::(V++[X]))[V.length+1]?=Z X:=λX=>by rw[gC1,dQ];rfl
 have gs:∀(au:Sto),(o::(V++au))[n+1]?=Z (dO F):=λau=>by rw[gC1,gL1 (R1 hV).1];exact hV
 refine tU (λk r S=>∃met T G U,MI m t met/\k<=met.length/\0<met.length/\Cl w F met k 0/\Jn w F met/\S=o::(V++[.lst (met.map pD)])/\r=[Z (.ref 0),Z (webD w),Z (.int t),Z (.ref (n+1)),T,N,G,L,ao,U,v,Z (.ref (V.length+1)),Z (.int (k:Nat)),u,A]) 8 ?_ 100000 0 _ _ (by lia) ⟨[(0,0)],_,_,_,⟨by simp,λx aq=>by simp at aq;subst aq;exact⟨hm0,hc0⟩⟩,by lia,by simp,λa d x _ _ h=>by lia,λb y h1 h2=>by have:=(R1 h2).1;simp at this;lia,O,O⟩;rintro k r S ⟨met,T,G,U,wq,hk,hp,cl,jn,rfl,rfl⟩;have hf:=wq.few h8;unfold iq;walk_at"w";refine ei (av _) ?_;walk_at"w";rw[lM1];by_cases hlt:k<met.length
 ·rw[ak (by rw[am];lia)];refine⟨by lia,?_⟩;obtain⟨x,aq⟩:∃x,met[k]?=some x:=⟨_,gG1 hlt⟩;have R:=wq.inn x (gM1 aq);obtain⟨row,C⟩:∃row,w[x.1]?=some row:=⟨_,gG1 (by rw[hw.len];exact R.1)⟩;have B:deg w x.1=row.length:=by unfold deg;rw[bH,C];rfl
  have hr4:=hw.le _ row C;unfold ip;refine d4 (λr S=>S=o::(V++[.lst (met.map pD)])/\r=[Z (.ref 0),Z (webD w),Z (.int t),Z (.ref (n+1)),Z (.int (x.1:Nat)),N,G,L,ao,Z (.int (x.2:Nat)),v,Z (.ref (V.length+1)),Z (.int (k:Nat)),u,A]) ?_ ?_
  ·walk_at"w";refine j1 (i:=k) (xs:=met.map pD) (x:=pD x) (av _) (by rw[gP1,aq];rfl) ?_;rw[pD];walk_at"w"
  rintro r S ⟨rfl,rfl⟩;refine d4 (λr S=>∃c G,c[k]?=Z x/\MI m t c/\Cl w F c k row.length/\Jn w F c/\S=o::(V++[.lst (c.map pD)])/\r=[Z (.ref 0),Z (webD w),Z (.int t),Z (.ref (n+1)),Z (.int (x.1:Nat)),N,G,L,ao,Z (.int (x.2:Nat)),v,Z (.ref (V.length+1)),Z (.int (k:Nat)),u,A]) ?_ ?_
  ·walk_at"w";unfold webD;refine hP (i:=x.1) (x:=.tup (row.map pD)) (by rw[gP1,C];rfl) ?_;walk_at"w";rw[lM1];refine⟨eL (by lia),?_⟩;rw[kR,Qr];refine eN (λj r S=>∃c G,j<=row.length/\c[k]?=Z x/\MI m t c/\Cl w F c k j/\Jn w F c/\S=o::(V++[.lst (c.map pD)])/\r=[Z (.ref 0),Z (webD w),Z (.int t),Z (.ref (n+1)),Z (.int (x.1:Nat)),N,G,L,ao,Z (.int (x.2:Nat)),v,Z (.ref (V.length+1)),Z (.int (k:Nat)),u,A]) _ 0 _ _ ⟨met,_,by lia,aq,wq,cl,jn,O,O⟩ (λ_ _ _ _=>rfl) ?_ ?_
   ·rintro j dd hd r S ⟨c,z6,hj,f,l,E,s,rfl,rfl⟩;have H:=(R1 hd).1;rw[lM1,cB]at H;rw[gP1,cr H]at hd;cases hd;rw[bL]at *
    have hf':=l.few h8;obtain⟨n1,⟨n2,n3⟩,_⟩:=wc hw all R (d:=j) (by rw[B];exact H);have sl:∀(r:Ev) (S:Sto) (P:D×Sto->Prop),S[n+1]?=Z (dO F)->r[3]?=Z (Z (.ref (n+1)))->r[4]?=Z (Z (.int (x.1:Nat)))->r[9]?=Z (Z (.int (x.2:Nat)))->r[6]?=Z (Z (.int (j:Nat)))->P (pD (gK F x j).1,S)->W (kB (m2 (b2 dL) (mV 3) (eH (dG (mV 4) (dG (mV 9) (dG (mV 6) dH))))) iY (jm (mC (D.int (2)))) r S) P:=by
     intro r S P hS h3 h4 h9 h6 p;refine Hl (xs:=[.int (gK F x j).1.1,.int (gK F x j).1.2,.int (gK F x j).2]) (a:=Y) (b:=Z 2) ?_ O O p;have:=LS hS n1;simp only[m2,eH,dG,dH,mV,h3,h4,h9,h6,cV,oP1,oS1,lC1,bf,b2,cU,ak (show 3<=dy by decide)];exact this
    walk_at"w";unfold jI fr mB;rw[dN,dN];refine NU ?_;refine sl _ _ _ (gs _) O O O O ?_;walk_at"w";refine GM (av _) ?_;walk_at"w";have step:∀g:List (Nat×Nat),(∀a,a<=k->g[a]?=c[a]?)->(∀z∈c,z∈g)->(gK F x j).1∈g->Cl w F g k (j+1):=λg hg hs hm a d y h1 h2 h3=>by
     rw[hg a (by lia)]at h1;by_cases hz:a=k/\d=j
     ·obtain⟨rfl,rfl⟩:=hz;rw[f]at h1;cases h1;exact hm
     ·exact hs _ (E a d y h1 h2 (by lia))
    have hkl:=(R1 f).1;by_cases I:(gK F x j).1∈c
    ·rw[aj (by simpa using I)];exact⟨c,_,by lia,f,l,step c (λ_ _=>rfl) (λ_ h=>h) I,s,O,O⟩
    ·rw[ak (by simpa using I)];refine i9 ?_;walk_at"w";refine⟨V.length+1,c.map pD,O,av _,?_⟩;refine sl _ _ _ (gs _) O O O O ?_;walk_at"w";refine(k7 (av _)).mpr ⟨dR (by rw[lM1];lia),?_⟩;refine⟨c++[(gK F x j).1],_,by lia,by rw[gL1 hkl];exact f,⟨?_,?_⟩,step _ (λa ha=>gL1 (by lia)) (λz h=>aH _ h) (by simp),s.snoc f (by rw[B];exact H),?_,O⟩
     ·refine bx.mpr ⟨l.nd,by simp,λa ha b hb e=>?_⟩;rw[cv]at hb;exact I (by rw[<- hb,<- e];exact ha)
     ·intro y K;rcases aG.mp K with K|K
      ·exact l.inn y K
      ·rw[cv]at K;subst K;exact⟨n2,n3⟩
     ·rw[cD,cZ _ _ (nR1 _),cF,cc];rfl
   ·rintro r S ⟨c,z6,hj,f,l,E,s,rfl,rfl⟩;rw[lM1,cB,bL]at *
    exact⟨O,c,_,f,l,E,s,O,O⟩
  rintro r S ⟨c,z6,f,l,E,s,rfl,rfl⟩;have hlt':=(R1 f).1;walk_at"w";refine⟨c,_,_,_,l,by lia,by lia,λa d y h1 h2 h3=>E a d y h1 h2 ?_,s,O,by push_cast;rfl⟩;rcases(show a<k\/a=k by lia)with h|rfl
  ·exact .inl h
  ·rw[f]at h1;cases h1;exact .inr ⟨O,by rw[<- B];exact h2⟩
 ·rw[aj (by rw[am];lia)];have e:k=met.length:=by lia
  subst e;exact q met _ _ _ _ wq hp cl jn
noncomputable def D1(met:List (Nat×Nat))(y:Nat×Nat):Nat:=(met.findIdx? (· == y)).getD 0
def su(w:dJ)(F:List (TK×D))(met:List (Nat×Nat))(x:Nat×Nat):List (Nat×Nat):=(af (deg w x.1)).map λd=>(D1 met (gK F x d).1,(gK F x d).2)
def tS(w:dJ)(F:List (TK×D))(met:List (Nat×Nat)):dJ:=met.map (su w F met)
theorem mM{y:Nat×Nat}(h:y∈met):met.findIdx? (· == y)=Z (D1 met y)/\met[D1 met y]?=Z y:=by
 obtain⟨j,h1,h2⟩:=zK h;unfold D1;rw[h1];exact⟨O,h2⟩
theorem pJ{w:dJ}{d:Nat}{e:Nat×Nat}:At (tS w F met) r d e ↔ ∃x,met[r]?=Z x/\d<deg w x.1/\e=(D1 met (gK F x d).1,(gK F x d).2):=by
 unfold At tS;rw[gP1];constructor
 ·rintro⟨row,h1,h2⟩;obtain⟨x,c,rfl⟩:=R4 h1;unfold su at h2;rw[gP1]at h2;obtain⟨f,a,rfl⟩:=R4 h2;have b:=(R1 a).1;rw[cB]at b;rw[cr b]at a;cases a;exact⟨x,c,b,O⟩
 ·rintro⟨x,h1,h2,rfl⟩;refine⟨su w F met x,by rw[h1];rfl,?_⟩;unfold su;rw[gP1,cr h2];rfl
theorem J4{w:dJ}(hw:tK m w)(r:Nat):deg w r<=4:=by
 unfold deg;rw[bH];cases h:w[r]? with
 |none=>simp
 |some row=>exact hw.le r row h
theorem AA{k:Nat}{w:dJ}(hw:tK m w)(all:All w k F)(B:MI m k met)(nd:met.Nodup)(l:Cl w F met met.length 0)(s:Jn w F met):DG met.length (tS w F met):=by
 refine⟨⟨by unfold tS;rw[lM1],λi row h=>?_,λr d e h=>?_,λj h1 h2=>?_⟩,λr d e h=>?_⟩
 ·unfold tS at h;rw[gP1]at h;obtain⟨x,_,rfl⟩:=R4 h;unfold su;rw[lM1,cB];exact J4 hw _
 ·obtain⟨x,h1,h2,rfl⟩:=pJ.mp h;have:=(mM (l r d x h1 h2 (.inl (R1 h1).1))).2;exact(R1 this).1
 ·obtain⟨y,c⟩:∃y,met[j]?=some y:=⟨_,gG1 h2⟩;obtain⟨a,d,x,u,q,C,z⟩:=s j y h1 c;refine⟨a,d,_,u,pJ.mpr ⟨x,q,C,O⟩,?_⟩;dsimp only;rw[z];have b:=(mM (gM1 c)).2;obtain⟨n,f⟩:=R1 b;obtain⟨v,g⟩:=R1 c;exact(aI nd).mp (by rw[f,g])
 ·obtain⟨x,h1,h2,rfl⟩:=pJ.mp h;have t:=B.inn x (gM1 h1);obtain⟨_,_,A,p⟩:=wc hw all t h2;have o:=(mM (l r d x h1 h2 (.inl (R1 h1).1))).2;refine pJ.mpr ⟨_,o,p,?_⟩;rw[A];dsimp only;have b:=(mM (gM1 h1)).2;obtain⟨n,f⟩:=R1 b;obtain⟨v,g⟩:=R1 h1;rw[(aI nd).mp (f.trans g.symm)]
structure Fb (w cw:dJ)(rs:List Nat):Prop where
 at_:∀(i d:Nat) (e:Nat×Nat),At cw i d e->At w (rs.getD i 0) d (rs.getD e.1 0,e.2)
 deg:∀(i:Nat) (row:List (Nat×Nat)),cw[i]?=some row -> ∃row0,w[rs.getD i 0]?=some row0/\row0.length=row.length
theorem JW{w:dJ}(hw:tK m w)(all:All w j F)(l:MI m j met)(o:Cl w F met met.length 0):Fb w (tS w F met) (met.map (·.1)):=by
 have b:∀{i:Nat} {x:Nat×Nat},met[i]?=Z x->(met.map (·.1)).getD i 0=x.1:=λ{i x} h=>by
  rw[bH,gP1,h];rfl
 refine⟨λi d e h=>?_,λi row h=>?_⟩
 ·obtain ⟨x,h1,h2,rfl⟩:=pJ.mp h;have f:=l.inn x (gM1 h1);have g:=(mM (o i d x h1 h2 (.inl (R1 h1).1))).2;obtain ⟨row,a⟩:∃ row,w[x.1]? = some row:=⟨_,gG1 (by rw [hw.len];exact f.1)⟩;have c:d<row.length:=by
   unfold deg at h2;rw[bH,a,b0]at h2;exact h2
  obtain⟨e,n,k,t,q,u⟩:=all x.1 d row[d] x.2 ⟨row,a,gG1 c⟩ f.2;have p:gK F x d=((e.1,n),e.2):=by
   unfold gK;rw[q];simp[r0]
  have s:e=row[d]:=by
   obtain⟨r,a1,a2⟩:=k;rw[a]at a1;cases a1;rw[gG1 c]at a2;exact(Option.some.inj a2).symm
  rw[p]at g ⊢;dsimp only at g ⊢;rw[b h1,b g];exact k
 ·unfold tS at h;rw[gP1]at h;obtain⟨x,h1,rfl⟩:=R4 h;have f:=l.inn x (gM1 h1);obtain⟨row,a⟩:∃row,w[x.1]?=some row:=⟨_,gG1 (by rw[hw.len];exact f.1)⟩;refine⟨row,by rw[b h1];exact a,?_⟩;unfold su Law.deg;rw[lM1,cB,bH,a];rfl
theorem xG{a b X:Ob}{V G:Sto}:(o::(V++a::b::(G++[X])))[V.length+(G.length+2)+1]?=Z X:=by
 rw[gC1,eO,gC1,gC1,dQ];rfl
inductive CI (w:dJ)(cp n:Nat)(T:Sto):Ev->Sto->Prop
 |mk (F:List (TK×D)) (G:Sto) (o':Ob) (x4 x5 x6 x7 x8 x9 x10:Option D) (ho:fw o' (n+128)) (all:All w cp F):CI w cp n T [some (.ref 0),some (webD w),some (.int cp),some (.ref (T.length+1)),x4,x5,x6,x7,x8,x9,x10,none,none,none,none] (o'::(T++dO F::G))
inductive CJ (w:dJ)(m cp:Nat)(T V:Sto)(F:List (TK×D))(o':Ob)(x5 x7 x8 x10:Option D):Ev->Sto->Prop
 |mk (met:List (Nat×Nat)) (y4 y6 y9 y12:Option D) (mi:MI m cp met) (hp:0<met.length) (cl:Cl w F met met.length 0) (jn:Jn w F met):CJ w m cp T V F o' x5 x7 x8 x10 [some (.ref 0),some (webD w),some (.int cp),some (.ref (T.length+1)),y4,x5,y6,x7,x8,y9,x10,some (.ref (V.length+1)),y12,none,none] (o'::(V++[.lst (met.map pD)]))
theorem Gu{g:Nat}{w:dJ}(hw:tK m w)(hm0:0<m)(E:0<g)(hc:g<=4)(h8:m*g<=8)(ho:fw o n)(hn:n<=2^40)(hT:T.all (Ob.und (T.length+1))=M)(q:∀N cw rs o',0<N->N<=8->DG N cw->rs.length=N->Fb w cw rs->fw o' (n+128)->Q (.tup [webD cw,.tup (nmD rs)],o'::T)):W (dI 3 gC [.ref 0,webD w,.int g] (o::T)) Q:=by
 have av:m<=8:=aD (Nat.le_mul_of_pos_right m E) h8;refine ma O O hT ?_;unfold gC;refine i6 ?_;unfold mh;refine d4 (λr S=>S=o::(T++dO []::[])/\r=[Z (.ref 0),Z (webD w),Z (.int g),Z (.ref (T.length+1)),Y,Y,Y,Y,Y,Y,Y,Y,Y,Y,Y]) ?_ ?_
 ·have d0:dO [] = .dct []:=ak O;rw[d0]
  wp_walk using oT
 rintro r S ⟨rfl,rfl⟩;refine d4 (CI w g n T) ?_ ?_
 ·exact wH hw av hc ho (by lia) λF G o' x4 v x6 t s x9 c h1 h2=>⟨O,.mk F G o' _ _ _ _ _ _ _ h1 h2⟩
 rintro r S ⟨F,G,o',x4,v,x6,t,s,x9,c,K,all⟩;generalize hV:T++dO F::G=V;have p:V[T.length]?=Z (dO F):=by rw[<- hV,dQ];rfl
 refine d4 (λr S=>S=o'::(V++[.lst ([(0,0)].map pD)])/\r=[Z (.ref 0),Z (webD w),Z (.int g),Z (.ref (T.length+1)),x4,v,x6,t,s,x9,c,Z (.ref (V.length+1)),Z (.int ((0:Nat):Int)),Y,Y]) ?_ ?_
 ·walk_at"w";exact⟨O,O⟩
 rintro r S ⟨rfl,rfl⟩;refine d4 (CJ w m g T V F o' v t s c) ?_ ?_
 ·exact LA hw hm0 E h8 all p λmet A H B h h1 h2 h3 h4=>⟨O,.mk met _ _ _ _ h1 h2 h3 h4⟩
 rintro r S ⟨met,A,H,B,h,I,hp,R,jn⟩;have hf:=I.few h8;refine d4 (λr S=>S=o'::(V ++ .lst (met.map pD) :: .lst []::[])/\r=[Z (.ref 0),Z (webD w),Z (.int g),Z (.ref (T.length+1)),A,v,H,t,s,B,c,Z (.ref (V.length+1)),h,Z (.ref (V.length+2)),Y]) ?_ ?_
 ·walk_at"w"
 rintro r S ⟨rfl,rfl⟩;have z:∀(X:Ob) (au:Sto),(o'::(V++X::au))[V.length+1]?=Z X:=λX au=>by rw[gC1,dQ];rfl
 have P:∀(X wq:Ob) (au:Sto),(o'::(V++X::wq::au))[V.length+2]?=Z wq:=λX wq au=>by rw[gC1,eO];rfl
 have gs:∀(au:Sto),(o'::(V++au))[T.length+1]?=Z (dO F):=λau=>by rw[gC1,gL1 (R1 p).1];exact p
 let rD:List (Nat×Nat)->D:=λrow=>.tup (row.map pD)
 refine d4 (λr S=>∃G2 A B u,S=o'::(V ++ .lst (met.map pD) :: .lst ((tS w F met).map rD)::G2)/\r=[Z (.ref 0),Z (webD w),Z (.int g),Z (.ref (T.length+1)),A,v,H,t,s,B,c,Z (.ref (V.length+1)),h,Z (.ref (V.length+2)),u]) ?_ ?_
 ·walk_at"w";refine ei (z _ _) ?_;refine eN (λi r S=>∃G2 A B u,i<=met.length/\S=o'::(V ++ .lst (met.map pD) :: .lst (((tS w F met).take i).map rD)::G2)/\r=[Z (.ref 0),Z (webD w),Z (.int g),Z (.ref (T.length+1)),A,v,H,t,s,B,c,Z (.ref (V.length+1)),h,Z (.ref (V.length+2)),u]) _ 0 _ _ ⟨[],_,_,_,by lia,O,O⟩ ?_ ?_ ?_
  ·rintro i r S ⟨G2,_,_,_,_,rfl,_⟩;exact fF (z _ _)
  ·rintro i dd l r S ⟨G2,z4,z9,aq,hi,rfl,rfl⟩;dsimp only at l;rw[gP1]at l;obtain⟨x,L,rfl⟩:=R4 l;have U:=(R1 L).1;have ao:=I.inn x (gM1 L);obtain⟨row,k⟩:∃row,w[x.1]?=some row:=⟨_,gG1 (by rw[hw.len];exact ao.1)⟩;have C:deg w x.1=row.length:=by unfold deg;rw[bH,k];rfl
   have hr4:=hw.le _ row k;rw[bL]at *
   rw[pD];walk_at"w";unfold jH;refine d4 (λr S=>S=o'::(V ++ .lst (met.map pD) :: .lst (((tS w F met).take i).map rD)::(G2++[.lst ((af (deg w x.1)).map λd=>Fj (gK F x d))]))/\r=[Z (.ref 0),Z (webD w),Z (.int g),Z (.ref (T.length+1)),Z (.int (x.1:Nat)),v,H,t,s,Z (.int (x.2:Nat)),c,Z (.ref (V.length+1)),h,Z (.ref (V.length+2)),Z (.ref (V.length+(G2.length+2)+1))]) ?_ ?_
   ·walk_at"w";rw[show webD w = .tup (w.map λrow=>.tup (row.map pD))from rfl];refine hP (i:=x.1) (x:=.tup (row.map pD)) (by rw[gP1,k];rfl) ?_;walk_at"w";rw[lM1];refine⟨eL (by lia),?_⟩;rw[kR,Qr,<- C];refine js (f:=λj:Nat=>D.int j) (λd=>Fj (gK F x d)) (λr=>∃y,r=[y,Z (.ref (T.length+1)),Z (.int (x.1:Nat)),Z (.int (x.2:Nat))]) O (af (deg w x.1)) _ ⟨_,O⟩ ?_ ?_
    ·rintro d l r ⟨y,rfl⟩;have n1:=(wc hw all ao (aC.mp l)).1;walk_at"w";refine W.of (LS (gs _) n1) ⟨O,O,_,O⟩
    ·rintro r' _;refine⟨dR (by rw[lM1,cB];lia),?_⟩;walk_at"w"
   rintro r S ⟨rfl,rfl⟩;walk_at"w";refine i9 ?_;walk_at"w";refine⟨V.length+2,_,O,P _ _ _,?_⟩;refine ei xG ?_;refine js (f:=λd=>Fj (gK F x d)) (λd=>pD (D1 met (gK F x d).1,(gK F x d).2)) (λr=>∃y,r=[y,Z (.ref (V.length+1))]) (fF xG) (af (deg w x.1)) _ ⟨_,O⟩ ?_ ?_
   ·rintro d l r ⟨y,rfl⟩;have hin:=R i d x L (aC.mp l) (.inl U);walk_at"w";refine i9 ?_;walk_at"w";refine⟨V.length+1,_,O,z _ _,?_⟩;refine Hl (xs:=[.int (gK F x d).1.1,.int (gK F x d).1.2,.int (gK F x d).2]) (a:=Y) (b:=Z 2) O O O ?_;rw[NK];walk_at"w";refine Kn (e:=(gK F x d).1) (z _ _) (by lia) (mM hin).1 ?_;refine hP (i:=2) (xs:=[.int (gK F x d).1.1,.int (gK F x d).1.2,.int (gK F x d).2]) (x:=.int (gK F x d).2) O ?_;walk_at"w";exact⟨O,_,O⟩
   ·rintro r' _;refine⟨dR (by rw[lM1,cB];lia),?_⟩;walk_at"w";refine ei (xs:=(af (deg w x.1)).map λd=>pD (D1 met (gK F x d).1,(gK F x d).2)) ?_ ?_
    ·rw[show∀(a b:Ob),G2++[a,b]=(G2++[a])++[b]from λa b=>by simp];have:=xG (o:=o') (a:=.lst (met.map pD)) (b:=.lst (((tS w F met).take i).map rD)) (V:=V) (G:=G2++[.lst ((af (deg w x.1)).map λd=>Fj (gK F x d))]) (X:=.lst ((af (deg w x.1)).map λd=>pD (D1 met (gK F x d).1,(gK F x d).2)));rw[<- this]
     congr 1
     simp
     try lia
    refine(k7 (P _ _ _)).mpr ⟨dR (by rw[lM1,aR];lia),?_⟩;refine⟨G2++[.lst ((af (deg w x.1)).map λd=>Fj (gK F x d)),.lst ((af (deg w x.1)).map λd=>pD (D1 met (gK F x d).1,(gK F x d).2))],_,_,_,by lia,?_,O⟩
    ·rw[cD,cZ _ _ (by lia),show V.length+1-V.length=1 by lia,cg];rw[show(tS w F met)[i]?=Z (su w F met x) by unfold tS;rw[gP1,L];rfl];rw[Option.toList_some,cc];rw[show[su w F met x].map rD=[.tup ((af (deg w x.1)).map λd=>pD (D1 met (gK F x d).1,(gK F x d).2))] by simp[rD,su,Function.comp_def]];rfl
  ·rintro r S ⟨G2,z4,z9,aq,hi,rfl,rfl⟩;rw[lM1,bL,ca (by unfold tS;rw[lM1];exact nR1 _)];exact⟨O,G2,_,_,_,O,O⟩
 rintro r S ⟨G2,z4,z9,aq,rfl,rfl⟩;have hcl:(tS w F met).length=met.length:=by unfold tS;rw[lM1]
 walk_at"w";refine ei (P _ _ _) ?_;refine ei (z _ _) ?_;refine js (f:=pD) (λx:Nat×Nat=>D.int (x.1:Nat)) (λr=>∃y0 y1,r=[y0,y1]) (fF (z _ _)) met _ ⟨_,_,O⟩ ?_ ?_
 ·rintro x L r ⟨y0,y1,rfl⟩;rw[pD];walk_at"w";exact⟨_,_,O⟩
 ·rintro r' _;refine⟨dR (by rw[lM1];lia),?_⟩;walk_at"w";refine ei (xs:=met.map λx:Nat×Nat=>D.int (x.1:Nat)) xG ?_;walk_at"w";have e:met.map (λx:Nat×Nat=>D.int (x.1:Nat))=nmD (met.map (·.1)):=by rw[nmD,bu];rfl
  rw[e];refine⟨.tup [webD (tS w F met),.tup (nmD (met.map (·.1)))],o',(dO F::G)++(.lst (met.map pD) :: .lst ((tS w F met).map rD)::(G2++[.lst (nmD (met.map (·.1)))])),?_,?_,K.und,q met.length _ _ o' hp hf (AA hw all I I.nd R jn) (by rw[lM1]) (JW hw all I R) K⟩
  ·rw[<- hV,bE];rfl
  ·rw[D.und,D.unds,eB,D.unds,D.unds,D.und,fx];rfl
theorem NH(h1:1<=a)(b:a<=4):nK (.int 8) (.int a) S=Z (.int ((8/a:Nat):Int),S):=by
 match a,h1,b with
 |1,_,_=>rfl
 |2,_,_=>rfl
 |3,_,_=>rfl
 |4,_,_=>rfl
theorem km{w:dJ}:eD (webD w) S=Z (.int w.length,S):=by
 unfold webD;rw[hU,lM1]
theorem NF{d:Nat}(h:d<4):∃a:Nat,([.int 2,.int 2,.int 3,.int 4]:List D)[d]?=Z (.int a)/\1<=a/\a<=4:=by
 match d,h with
 |0,_=>exact⟨2,O,by decide,by decide⟩
 |1,_=>exact⟨2,O,by decide,by decide⟩
 |2,_=>exact⟨3,O,by decide,by decide⟩
 |3,_=>exact⟨4,O,by decide,by decide⟩
theorem Nq(h:m<=8/a):m*a<=8:=aD (c8 a h) (Nat.div_mul_le_self 8 a)
structure Ao (m:Nat)(w:dJ)(rs:List Nat):Prop where
 web:DG m w
 len:rs.length=m
 fb:∃w0,Fb w0 w rs
theorem Db(ho:fw o n)(hn:n<=2^39)(u:T.all (Ob.und (T.length+1))=M)(q:∀m w rs o',0<m->m<=8->Ao m w rs->fw o' (n+300)->Q (.tup [webD w,.tup (nmD rs)],o'::T)):W (dI 1 gf [.ref 0] (o::T)) Q:=by
 refine ma O O u ?_;unfold gf;refine i6 ?_;unfold k4;generalize j:T++[Ob.lst [.int 2,.int 2,.int 3,.int 4]]=X;have c:X.all (Ob.und (X.length+1))=M:=by rw[<- j];exact Mh u O
 refine d4 (λr S=>∃(cp:Nat) (e:Ob),1<=cp/\cp<=4/\fw e (n+1)/\S=e::X/\r=[Z (.ref 0),Z (.int cp)]) ?_ ?_
 ·walk_at"w";refine fD ho (by lia) (by lia) (by lia) λd e a F=>?_;obtain⟨cp,h1,h2,z⟩:=NF (d:=d) (by lia);walk_at"w";refine j1 (i:=d) (xs:=[.int 2,.int 2,.int 3,.int 4]) (x:=.int cp) (by rw[gC1,dQ];rfl) h1 ?_;exact⟨cp,e,h2,z,a,by rw[j],O⟩
 rintro r S ⟨cp,e,h1,y,a,rfl,rfl⟩
 wp_walk using NH h1 y
 have E:1<=8/cp:=Nat.div_pos (by lia) (by lia);refine EU a (by lia) c E (Nat.div_le_self 8 cp) λm w G h A B g=>?_;walk_at"w";refine Gu B h (by lia) y (Nq A) (g.more (k:=n+101) (by lia)) (by lia) c λC cw rs v f l t p s b=>?_;refine⟨.tup [webD cw,.tup (nmD rs)],v,[Ob.lst [.int 2,.int 2,.int 3,.int 4]],by rw[j],?_,b.und,q C cw rs v f l ⟨t,p,_,s⟩ (b.more (by lia))⟩;rw[D.und,D.unds,eB,D.unds,D.unds,D.und,fx];rfl
open Classical in
def tf(P:Prop):Bool:=decide P
theorem yN{P:Prop}:tf P=M↔P:=by unfold tf;exact @decide_eq_true_iff P (Classical.propDecidable P)
theorem mx{P:Prop}(h:P):tf P=M:=yN.mpr h
theorem yO{P:Prop}{b:Bool}(h:b=M↔P):b=tf P:=by rw[bO,yN];exact h
theorem yM{P:Prop}(h:¬ P):tf P=J:=(yO ⟨λz=>(by cases z),λz=>(h z).elim⟩).symm
theorem MX{P Q:Prop}(h:P↔Q):tf P=tf Q:=yO (yN.trans h)
section
variable{α β:Type}
def isF(k:Nat->α)(r:Nat):Prop:=∀s,s<r->k s≠k r
theorem yc(k:Nat->α)(r:Nat):∃s,s<=r/\k s=k r/\isF k s:=by
 induction r using Nat.strongRecOn with
 |ind r ih=>
  by_cases h:isF k r
  ·exact⟨r,nR1 _,O,h⟩
  ·obtain⟨s,h1,h2⟩:∃s,s<r/\k s=k r:=Ru λz=>h λs a e=>z ⟨s,a,e⟩;obtain⟨u,d,c,b⟩:=ih s h1;exact⟨u,by lia,c.trans h2,b⟩
noncomputable def fs(k:Nat->α)(r:Nat):Nat:=Classical.choose (yc k r)
theorem uT(k:Nat->α)(r:Nat):fs k r<=r:=(RZ (yc k r)).1
theorem uU(k:Nat->α)(r:Nat):k (fs k r)=k r:=(RZ (yc k r)).2.1
theorem wt(k:Nat->α)(r:Nat):isF k (fs k r):=(RZ (yc k r)).2.2
theorem yd{k:Nat->α}{s:Nat}(h:k s=k r)(hf:isF k s):s=fs k r:=by
 rcases b8 s (fs k r)with z|z|z
 ·exact(wt k r s z (h.trans (uU k r).symm)).elim
 ·exact z
 ·exact(hf _ z ((uU k r).trans h.symm)).elim
theorem ph{k:Nat->α}{s:Nat}:fs k r=fs k s↔k r=k s:=by
 constructor
 ·intro h;rw[<- uU k r,h];exact uU k s
 ·intro h;exact yd ((uU k r).trans h) (wt k r)
noncomputable def cnt(k:Nat->α)(n:Nat):Nat:=((af n).filter λs=>tf (isF k s)).length
def cn(k:Nat->α)(r:Nat):Nat:=cnt k (fs k r)
theorem vg{k:Nat->α}:cnt k (n+1)=cnt k n+if tf (isF k n)=M then 1 else 0:=by
 unfold cnt;rw[c9,cY,lA1]
 congr 1
 cases h:tf (isF k n)with
 |true=>rw[da (by exact h)];rfl
 |false=>rw[db (by rw[h];decide)];rfl
theorem vh{k:Nat->α}(h:a<=b):cnt k a<=cnt k b:=by
 induction b with
 |zero=>rw[show a=0 by lia];exact nR1 _
 |succ b ih=>
  rcases c7.mp (Nat.lt_succ_of_le h)with z|z
  ·rw[vg];have:=ih (by lia);lia
  ·rw[z];exact nR1 _
theorem wC{k:Nat->α}(h:a<b)(hf:isF k a):cnt k a<cnt k b:=by
 have h1:=vh (k:=k) (show a+1<=b from h);rw[vg,mx hf,ak O]at h1;lia
theorem Dd{k:Nat->α}{s:Nat}:cn k r=cn k s↔k r=k s:=by
 constructor
 ·intro h;rw[<- ph];rcases b8 (fs k r) (fs k s)with z|z|z
  ·have:=wC z (wt k r);unfold cn at h;lia
  ·exact z
  ·have:=wC z (wt k s);unfold cn at h;lia
 ·intro h;unfold cn;rw[ph.mpr h]
theorem q9{k:Nat->α}{k':Nat->β}(h:∀a b,a<m->b<m->(k a=k b↔k' a=k' b))(hr:r<m):isF k r↔isF k' r:=
 ⟨λf s c e=>f s c ((h s r (by lia) hr).mpr e),λf s c e=>f s c ((h s r (by lia) hr).mp e)⟩
theorem CS{k:Nat->α}{k':Nat->β}(h:∀a b,a<m->b<m->(k a=k b↔k' a=k' b))(hr:r<m):fs k r=fs k' r:=by
 have h1:=uT k r;exact yd ((h _ _ (by lia) hr).mp (uU k r)) ((q9 h (by lia)).mp (wt k r))
theorem zU{k:Nat->α}{k':Nat->β}(h:∀a b,a<m->b<m->(k a=k b↔k' a=k' b))(hn:n<=m):cnt k n=cnt k' n:=by
 unfold cnt
 congr 1
 refine List.filter_congr λs c=>?_;exact MX (q9 h (by have:=aC.mp c;lia))
theorem vi{k:Nat->α}{k':Nat->β}(h:∀a b,a<m->b<m->(k a=k b↔k' a=k' b))(hr:r<m):cn k r=cn k' r:=by
 unfold cn;have h1:=uT k r;rw[<- CS h hr];exact zU h (by lia)
theorem L8{k:Nat->α}:cn (cn k) r=cn k r:=vi (m:=r+1) (λ_ _ _ _=>Dd) (bB r)
end
noncomputable def gG(w:dJ)(r:Nat):List (Nat×Nat):=w[r]?.getD []
theorem ka{w:dJ}{row:List (Nat×Nat)}(h:w[r]?=Z row):gG w r=row:=by unfold gG;rw[h];rfl
noncomputable def iS(sg:List Int)(r:Nat):Int:=sg.getD r 0
noncomputable def IT(c:Nat->Nat)(e:Nat×Nat):Nat×Nat:=(c e.1,e.2)
def lk(w:dJ)(sg:List Int)(c:Nat->Nat)(r:Nat):Nat×Int×List (Nat×Nat):=(c r,iS sg r,(gG w r).map (IT c))
def col(w:dJ)(sg:List Int):Nat->Nat->Nat
 |0=>λ_=>0
 |n+1=>cn (lk w sg (col w sg n))
def Dr(w:dJ)(R:Nat->Nat->Prop)(r s:Nat):Prop:=(gG w r).length=(gG w s).length /\ ∀(d:Nat) (e e':Nat×Nat),(gG w r)[d]?=Z e->(gG w s)[d]?=Z e'->R e.1 e'.1/\e.2=e'.2
theorem Dr.imp{w:dJ}{R c:Nat->Nat->Prop}{s:Nat}(h:Dr w R r s)(i:∀a b,R a b->c a b):Dr w c r s:=⟨h.1,λd e f h1 h2=>⟨i _ _ (h.2 d e f h1 h2).1,(h.2 d e f h1 h2).2⟩⟩
theorem Ju{γ:Type}{w:dJ}{c:Nat->γ}{s:Nat}:(gG w r).map (λe=>(c e.1,e.2))=(gG w s).map (λe=>(c e.1,e.2))↔Dr w (λa b=>c a=c b) r s:=by
 constructor
 ·intro h;refine⟨by have:=congrArg List.length h;rwa [lM1,lM1]at this,λd e e' h1 h2=>?_⟩;have:=congrArg (λl:List (γ×Nat)=>l[d]?) h;simp only[gP1,h1,h2,oP1,Option.some.injEq,R0]at this;exact this
 ·rintro⟨h1,h2⟩;refine bW λd=>?_;rw[gP1,gP1];cases he:(gG w r)[d]? with
  |none=>
   rw[List.getElem?_eq_none_iff]at he;rw[bX (by lia)]
  |some e=>
   have j:=(R1 he).1;obtain⟨e',f⟩:∃e',(gG w s)[d]?=some e':=⟨_,gG1 (by lia)⟩;rw[f];obtain⟨g,i⟩:=h2 d e e' he f;simp only[oP1,g,i]
def RA(w:dJ)(sg:List Int):Nat->Nat->Nat->Prop
 |0=>λ_ _=>True
 |n+1=>λr s=>RA w sg n r s/\iS sg r=iS sg s/\Dr w (RA w sg n) r s
theorem gP{w:dJ}{sg:List Int}:∀{n r s:Nat},col w sg n r=col w sg n s↔RA w sg n r s
 |0,r,s=>⟨λ_=>trivial,λ_=>rfl⟩
 |n+1,r,s=>by
  have ih:=@gP w sg n;rw[col,Dd,lk,lk,R0,R0,RA,ih];refine and_congr_right λ_=>and_congr_right λ_=>?_;exact Ju.trans ⟨λh=>h.imp λa b=>ih.mp,λh=>h.imp λa b=>ih.mpr⟩
theorem Dc{w:dJ}{sg:List Int}:∀{n r:Nat},col w sg n r=cn (col w sg n) r
 |0,r=>by
  have:fs (col w sg 0) r=0:=(yd (k:=col w sg 0) (s:=0) (r:=r) O λs a=>absurd a (bw s)).symm;unfold cn;rw[this];rfl
 |n+1,r=>by rw[col,L8]
def EB(w:dJ)(sg:List Int):Nat->Nat->Nat->Prop
 |0=>λr s=>(gG w r).length=(gG w s).length/\iS sg r=iS sg s
 |n+1=>λr s=>EB w sg n r s/\Dr w (EB w sg n) r s
theorem RA.eb{w:dJ}{sg:List Int}:∀{n r s:Nat},RA w sg (n+1) r s->EB w sg n r s
 |0,r,s,h=>⟨h.2.2.1,h.2.1⟩
 |n+1,r,s,h=>⟨RA.eb h.1,h.2.2.imp λa b=>RA.eb⟩
def Stl(m:Nat)(w:dJ)(sg:List Int)(n:Nat):Prop:=∀r s,r<m->s<m->RA w sg n r s->RA w sg (n+1) r s
theorem Dr.lt{w:dJ}{R j:Nat->Nat->Prop}{s:Nat}(hw:WebJ m w)(h:Dr w R r s)(i:∀a b,a<m->b<m->R a b->j a b):Dr w j r s:=by
 have c:∀{r d:Nat} {e:Nat×Nat},(gG w r)[d]?=Z e->e.1<m:=λ{r d e} f=>by
  unfold gG at f;cases hr:w[r]? with
  |none=>rw[hr]at f;simp at f
  |some row=>rw[hr]at f;exact hw.to r d e ⟨row,hr,f⟩
 exact⟨h.1,λd e g h1 h2=>⟨i _ _ (c h1) (c h2) (h.2 d e g h1 h2).1,(h.2 d e g h1 h2).2⟩⟩
theorem Stl.next{w:dJ}{sg:List Int}(hw:WebJ m w)(h:Stl m w sg n):Stl m w sg (n+1):=λr s b a q=>
 ⟨q,q.2.1,q.2.2.lt hw h⟩
theorem Stl.on{m n:Nat}{w:dJ}{sg:List Int}(hw:WebJ m w)(h:Stl m w sg n):∀k,Stl m w sg (n+k)
 |0=>h
 |k+1=>(h.on hw k).next hw
theorem Stl.up{m n:Nat}{w:dJ}{sg:List Int}(hw:WebJ m w)(h:Stl m w sg n):∀k r s,r<m->s<m->(RA w sg n r s↔RA w sg (n+k) r s)
 |0,r,s,_,_=>Iff.rfl
 |k+1,r,s,hr,hs=>(h.up hw k r s hr hs).trans ⟨λq=>h.on hw k r s hr hs q,λq=>q.1⟩
theorem ve{k:Nat}{w:dJ}{sg:List Int}(h:∀r s,r<m->s<m->(RA w sg n r s↔RA w sg k r s))(hr:r<m):col w sg n r=col w sg k r:=by
 rw[Dc (n:=n),Dc (n:=k)];exact vi (m:=m) (λa b c d=>by rw[gP,gP];exact h a b c d) hr
theorem Ep{w:dJ}{sg:List Int}:(∀r,r<m->col w sg (n+1) r=col w sg n r)↔Stl m w sg n:=by
 constructor
 ·intro h r s a b q;rw[<- gP]at q ⊢;rw[h r a,h s b,q]
 ·intro h r a;exact(ve (λr s a b=>⟨λq=>h r s a b q,λq=>q.1⟩) a).symm
theorem yh{p q:Nat->Bool}(h:∀x,p x=M->q x=M):∀l:List Nat,(l.filter p).length<=(l.filter q).length/\((l.filter p).length=(l.filter q).length -> ∀x∈l,q x=M->p x=M)
 |[]=>⟨nR1 _,λ_ x b=>by cases b⟩
 |a::l=>by
  obtain⟨h1,h2⟩:=yh h l;cases hp:p a with
  |true=>
   rw[da hp,da (h a hp),lC1,lC1];refine⟨by lia,λe x b d=>?_⟩;rcases aF.mp b with rfl|b
   ·exact hp
   ·exact h2 (by lia) x b d
  |false=>
   rw[db (by rw[hp];decide)];cases d:q a with
   |true=>
    rw[da d,lC1];exact⟨by lia,λe=>by lia⟩
   |false=>
    rw[db (by rw[d];decide)];refine⟨h1,λe x b c=>?_⟩;rcases aF.mp b with rfl|b
    ·rw[d]at c;cases c
    ·exact h2 e x b c
theorem more{w:dJ}{sg:List Int}(h:¬ Stl m w sg n):cnt (col w sg n) m<cnt (col w sg (n+1)) m:=by
 have c:∀r,isF (col w sg n) r->isF (col w sg (n+1)) r:=λr b s d e=>b s d (by rw[gP]at e ⊢;exact e.1);obtain⟨h1,h2⟩:=yh (p:=λs=>tf (isF (col w sg n) s)) (q:=λs=>tf (isF (col w sg (n+1)) s)) (λx a=>mx (c x (yN.mp a))) (af m);refine Nat.lt_of_le_of_ne h1 λe=>h λr s f d q=>?_;have back:∀x,x<m->isF (col w sg (n+1)) x->isF (col w sg n) x:=λx a b=>yN.mp (h2 e x (aC.mpr a) (mx b))
 -- both have one first place
 have one:∀x,x<m->fs (col w sg (n+1)) x=fs (col w sg n) x:=λx a=>by
  have g:=uT (col w sg (n+1)) x;refine yd ?_ (back _ (by lia) (wt _ x));have:=uU (col w sg (n+1)) x;rw[gP]at this ⊢;exact this.1
 rw[<- gP]at q ⊢;rw[<- ph,one r f,one s d,ph];exact q
theorem Ka(k:Nat->Nat)(m:Nat):cnt k m<=m:=by
 unfold cnt;exact aD (cX ..) (by rw[cB];exact nR1 _)
theorem vU{w:dJ}{sg:List Int}(hm:0<m)(h:∀k,k<n -> ¬ Stl m w sg k):n<m:=by
 have:∀k,k<=n->k+1<=cnt (col w sg k) m:=λk=>by
  induction k with
  |zero=>
   intro _;have:=wC (k:=col w sg 0) hm (λs b=>by lia);lia
  |succ k ih=>
   intro a;have h1:=ih (by lia);have h2:=more (h k (by lia));lia
 have h1:=this n (nR1 _);have h2:=Ka (col w sg n) m;lia
def gv(m:Nat)(w:dJ)(sg:List Int):List Nat:=(af m).map (col w sg m)
theorem Er{w:dJ}{sg:List Int}(hw:WebJ m w)(h:Stl m w sg n)(hn:n<=m):(af m).map (col w sg n)=gv m w sg:=by
 refine cM λr e=>?_;refine ve (λa b c d=>?_) (aC.mp e);have:=h.up hw (m-n) a b c d
 rwa [show n+(m-n)=m by lia]at this
theorem HM{w:dJ}{sg:List Int}(hm:0<m):∃n,n<m/\Stl m w sg n:=by
 refine Ru λz=>?_;have:=vU (w:=w) (sg:=sg) (n:=m) hm λk a b=>z ⟨k,a,b⟩;lia
theorem sn{w:dJ}(hw:WebJ m w)(hr:r<m):∃row,w[r]?=Z row:=⟨_,gG1 (by rw[hw.len];exact hr)⟩
theorem BU(h:o.und 0=M):o.sh n=o:=by
 have a:∀{κ:Type} (l:List (κ×D)),D.unds 0 (l.map (·.2))=M->(l.map λp=>(p.1,p.2.sh n))=l:=λl=>by
  induction l with
  |nil=>intro _;rfl
  |cons x l ih=>
   intro h;rw[mP1,D.unds,bA1]at h;rw[mP1,ih h.2,Bc h.1]
 cases o with
 |lst xs=>rw[Ob.und]at h;rw[Ob.sh,lC h]
 |dct l=>rw[Ob.und]at h;rw[Ob.sh,a l h]
 |dcT l=>rw[Ob.und]at h;rw[Ob.sh,a l h]
 |dcF l=>rw[Ob.und]at h;rw[Ob.sh,a l h]
 |iset l=>rfl
 |tst l=>rfl
theorem AZ(h:S.all (Ob.und 0)=M):S.map (Ob.sh n)=S:=by
 have:S.map (Ob.sh n)=S.map id:=cM λo a=>BU (bA.mp h o a);rw[this,List.map_id]
theorem Hk{f:FN}{ds:List D}(hn:ds.length=n)(c:D.unds 0 ds=M)(h:W (f ds []) λp=>∃k xs,p.1 = .ref k/\p.2[k]?=Z (.lst xs)/\p.2.all (Ob.und 0)=M /\ ∀G j,(S++G)[j]?=Z (.lst xs)->G.all (Ob.und 0)=M->S.length<=j->Q (.ref j,S++G)):W (dI n f ds S) Q:=by
 obtain⟨⟨d,G⟩,e,k,xs,rfl,b,a,q⟩:=h;refine⟨_,pB e hn c O,?_⟩;dsimp only at b a;rw[AZ a];exact q G _ (by rw[eO];exact b) a (br _ _)
theorem NN(h:S.all (Ob.und 0)=M):S.all (Ob.und S.length)=M:=by
 rw[bA]at *
 exact λo a=>gW (bi _) (h o a)
abbrev iz(sg:List Int):D:=.tup (sg.map D.int)
theorem gA(sg:List Int):(iz sg).und 0=M:=by rw[D.und];exact eE λ_ _=>rfl
abbrev Hj(m:Nat)(c:Nat->Nat):List Nat:=(af m).map c
abbrev tz(m:Nat)(c:Nat->Nat):D:=.tup (nmD (Hj m c))
theorem Mo{c:Nat->Nat}(hr:r<m)(q:Q (.int (c r:Nat),S)):W (dL (tz m c) (.int r) S) Q:=
 hP (i:=r) (x:=.int (c r:Nat)) (by rw[nmD,gP1,gP1,cr hr];rfl) q
theorem DM{sg:List Int}(a:sg.length=m)(hr:r<m)(q:Q (.int (iS sg r),S)):W (dL (iz sg) (.int r) S) Q:=
 hP (i:=r) (x:=.int (iS sg r)) (by rw[gP1,gG1 (by lia)];unfold iS;rw[bH,gG1 (by lia)];rfl) q
abbrev Lk:=Nat×Int×List (Nat×Nat)
def sR(x:Lk):D:=.tup [.int (x.1:Nat),.int x.2.1,.tup (x.2.2.map pD)]
theorem FM(x:Lk):(sR x).und 0=M:=by
 unfold sR;rw[D.und,D.unds,D.unds,D.unds,D.und,eE (λ_ _=>rfl)];rfl
theorem FH{w:dJ}{sg:List Int}{c:Nat->Nat}(hw:WebJ m w)(hm:m<=8)(hs:sg.length=m):W (gB [webD w,iz sg,tz m c] []) λp=>∃k,p.1 = .ref k/\p.2[k]?=Z (.lst ((af m).map λr=>sR (lk w sg c r)))/\p.2.all (Ob.und 0)=M:=by
 unfold gB;refine i6 ?_;unfold tJ;refine d4 (λr V=>V=[.lst []]/\r=[Z (webD w),Z (iz sg),Z (tz m c),Z (.ref 0),Y,Y,Y]) ?_ ?_
 ·walk_at"w"
  try exact⟨O,trivial⟩
 rintro r V ⟨rfl,rfl⟩;refine d4 (λr V=>∃G h g b,G.all (Ob.und 0)=M/\V = .lst ((af m).map λr=>sR (lk w sg c r))::G/\r=[Z (webD w),Z (iz sg),Z (tz m c),Z (.ref 0),h,g,b]) ?_ ?_
 ·unfold fE;rw[dN];refine rR (xs:=w.map λrow=>.tup (row.map pD)) O ?_;refine eN (λi r V=>∃G h g b,i<=m/\G.all (Ob.und 0)=M/\V = .lst ((af i).map λr=>sR (lk w sg c r))::G/\r=[Z (webD w),Z (iz sg),Z (tz m c),Z (.ref 0),h,g,b]) _ 0 _ _ ⟨[],_,_,_,by lia,O,O,O⟩ (λ_ _ _ _=>rfl) ?_ ?_
  ·rintro i A o r V ⟨G,h,g,b,hi,l,rfl,rfl⟩;rw[gD,gP1]at o;obtain⟨z,y,rfl⟩:=R4 o;obtain⟨row,a,rfl⟩:=R4 y;have j:i<m:=by rw[<- hw.len];exact(R1 a).1
   have x:=hw.le i row a;rw[bL]at *
   walk_at"w";unfold mF;refine d4 (λr V=>V = .lst ((af i).map λr=>sR (lk w sg c r))::(G++[.lst (row.map λe=>pD (IT c e))])/\r=[Z (webD w),Z (iz sg),Z (tz m c),Z (.ref 0),Z (.int (i:Nat)),Z (.tup (row.map pD)),Z (.tup (row.map λe=>pD (IT c e)))]) ?_ ?_
   ·walk_at"w";rw[ik];refine js (f:=pD) (λe=>pD (IT c e)) (λq=>∃s t,q=[s,t,Z (tz m c)]) O row _ ⟨_,_,O⟩ ?_ ?_
    ·rintro e v q ⟨s,t,rfl⟩;obtain⟨d,u⟩:=bq v;have:=hw.to i d e ⟨row,a,u⟩;rw[pD];walk_at"w";refine Mo this ?_;walk_at"w";exact⟨O,_,_,O⟩
    ·rintro q _;refine⟨dR (by rw[lM1];lia),?_⟩;walk_at"w";refine ei (xs:=row.map λe=>pD (IT c e)) (by rw[gC1,dQ];rfl) ?_
     first|exact⟨rfl,rfl⟩|exact⟨rfl,trivial⟩|rfl
   rintro r V ⟨rfl,rfl⟩;unfold fG;rw[dN];refine i9 ?_;walk_at"w";refine⟨0,(af i).map λr=>sR (lk w sg c r),O,O,?_⟩;refine Mo j ?_;walk_at"w";refine DM hs j ?_;walk_at"w";refine(k7 (n:=0) (xs:=(af i).map λr=>sR (lk w sg c r)) O).mpr ⟨dR (by rw[lM1,cB];lia),?_⟩;refine⟨G++[.lst (row.map λe=>pD (IT c e))],_,_,_,by lia,?_,?_,O⟩
   ·rw[cN,l,bN,Ob.und,eE (λ_ _=>rfl)];rfl
   ·have e:sR (lk w sg c i)=D.tup [D.int (c i:Nat),D.int (iS sg i),D.tup (row.map fun e=>pD (IT c e))]:=by
     unfold lk;rw[ka a,sR,bu];rfl
    rw[c9,cc,mP1,e];rfl
  ·rintro r V ⟨G,h,g,b,hi,l,rfl,rfl⟩;rw[gO,lM1,bL,hw.len];exact⟨O,G,_,_,_,l,O,O⟩
 rintro r V ⟨G,h,g,b,l,rfl,rfl⟩;walk_at"w";refine⟨0,O,O,?_⟩;rw[bN,l,Ob.und,eE (λ_ _=>FM _)];rfl
def FL(x:Lk):TK:=.tup [.int (x.1:Nat),.int x.2.1,.tup (x.2.2.map KA)]
theorem Ha:∀l:List (Nat×Nat),zx (l.map pD)=Z (l.map KA)
 |[]=>rfl
 |e::l=>by
  rw[mP1,zx,Ha l];rfl
theorem Hi:∀l:List (Nat×Nat),TK.depAll (l.map KA)<=2
 |[]=>by simp[TK.depAll]
 |e::l=>by
  have:=Hi l;rw[mP1,TK.depAll];have:(KA e).dep<=2:=by simp[KA,TK.dep,TK.depAll]
  lia
theorem oY(x:Lk):keyT (sR x)=Z (FL x):=by
 have e:zx [.int (x.1:Nat),.int x.2.1,.tup (x.2.2.map pD)]=Z [.int (x.1:Nat),.int x.2.1,.tup (x.2.2.map KA)]:=by
  simp only[zx,kD,Ha,oP1,oS1]
 unfold sR;rw[keyT,e,oS1,ak]
 ·rfl
 ·have:=Hi x.2.2;simp[TK.dep,TK.depAll];lia
theorem FP{x y:Lk}(h:sR x=sR y):x=y:=by
 obtain⟨a,b,l⟩:=x;obtain⟨g,i,l'⟩:=y;unfold sR at h;injection h with h;injection h with h1 h;injection h with h2 h;injection h with c h;injection h1 with h1;injection h2 with h2;injection c with c;have:l=l':=(List.map_inj_right λx y e=>by
  unfold pD at e;injection e with e;injection e with d e;injection e with f e;injection d with d;injection f with f;exact Prod.ext (by lia) (by lia)).mp c
 dsimp only at h1 h2;rw[this,h2,show a=g by lia]
theorem xO{x y:Lk}(h:FL x=FL y):x=y:=by
 have h1:=(lW (oY x)).1;have h2:=(lW (oY y)).1;exact FP (by rw[<- h1,<- h2,h])
def nF(k:Nat->Lk)(i:Nat):List (TK×D):=((af i).filter λf=>tf (isF k f)).map λf=>(FL (k f),.int (cnt k f:Nat))
theorem nF_len{k:Nat->Lk}:(nF k i).length=cnt k i:=by unfold nF cnt;rw[lM1]
theorem sM{k:Nat->Lk}:nF k (i+1)=nF k i++if tf (isF k i)=M then[(FL (k i),.int (cnt k i:Nat))]else[]:=by
 unfold nF;rw[c9,cY,cc]
 congr 1
 cases h:tf (isF k i)with
 |true=>rw[da (by exact h)];rfl
 |false=>rw[db (by rw[h];decide)];rfl
theorem sN{k:Nat->Lk}:∀{i r:Nat},fs k r<i->dU (nF k i) (FL (k r))=Z (.int (cn k r:Nat))
 |0,r,h=>by lia
 |i+1,r,h=>by
  rw[sM,oW];by_cases hi:fs k r<i
  ·rw[sN hi];rfl
  ·have e:fs k r=i:=by lia
   have a:=wt k r;have c:=uU k r;rw[e]at a c;rw[mx a,ak O];have d:dU (nF k i) (FL (k r))=Y:=by
    refine kl ?_;rw[cO];intro z;obtain⟨p,l,j⟩:=bP.mp z;obtain⟨f,g,rfl⟩:=cf.mp l;have b:=aC.mp (aB.mp g).1;have:=xO (QX j);exact a f b (by rw[c];exact this)
   rw[d,Option.none_or,fV,ak (by rw[c])];unfold cn;rw[e]
theorem B5{k:Nat->Lk}(h:isF k i):((nF k i).any λp=>decide (p.1=FL (k i)))=J:=by
 rw[cO];intro z;obtain⟨p,d,b⟩:=bP.mp z;obtain⟨f,c,rfl⟩:=cf.mp d;have a:=aC.mp (aB.mp c).1;exact h f a (xO (QX b))
theorem IN{d:D}{k:TK}(h:S[n]?=Z (dO F))(hk:keyT d=Z k):kr d (.ref n) S=Z (.bl (!(dU F k).isSome),S):=by
 unfold dO at h;by_cases a:F=[]
 ·subst a;rw[ak O]at h;simp only[kr,h,hk];rfl
 ·rw[aj a]at h;simp only[kr,fW,h,hk,oP1]
theorem Nw(h:S[n]?=Z (dO F)):ri (.ref n) S=Z (.int (F.length:Nat),S):=by
 unfold dO at h;by_cases a:F=[]
 ·subst a;rw[ak O]at h;simp only[ri,pd,h];rfl
 ·rw[aj a]at h;simp only[ri,h]
theorem IM{k:Nat->Lk}(t:S.all (Ob.und 0)=M)(hn:S[n]?=Z (.lst ((af m).map λr=>sR (k r))))(hm:m<=8)(q:Q (tz m (cn k),S)):W (dI 1 gl [.ref n] S) Q:=by
 refine vk O O ?_;unfold gl;refine i6 ?_;unfold pF;have gn:∀(X:Ob),(S++[X])[n]?=Z (.lst ((af m).map λr=>sR (k r))):=λX=>by rw[gL1 (R1 hn).1];exact hn
 have j:∀(X:Ob),(S++[X])[S.length]?=Z X:=λX=>by rw[dQ];rfl
 have st:∀(X au:Ob),(S++[X]).set S.length au=S++[au]:=λX au=>by rw[cZ _ _ (nR1 _),cF];rfl
 refine d4 (λr V=>V=S++[dO (nF k 0)]/\r=[Z (.ref n),Z (.ref S.length),Y]) ?_ ?_
 ·have u:dO (nF k 0) = .dct []:=ak O;rw[u]
  wp_walk using oT
 rintro r V ⟨rfl,rfl⟩;refine d4 (λr V=>∃c,V=S++[dO (nF k m)]/\r=[Z (.ref n),Z (.ref S.length),c]) ?_ ?_
 ·walk_at"w";refine ei (gn _) ?_;refine eN (λi r V=>∃c,i<=m/\V=S++[dO (nF k i)]/\r=[Z (.ref n),Z (.ref S.length),c]) _ 0 _ _ ⟨_,by lia,O,O⟩ ?_ ?_ ?_
  ·rintro i r V ⟨_,_,rfl,_⟩;exact fF (gn _)
  ·rintro i d h r V ⟨c,hi,rfl,rfl⟩;dsimp only at h;have a:=(R1 h).1;rw[lM1,cB]at a;rw[gP1,cr a]at h;cases h;rw[bL]at *
   walk_at"w";unfold lK;have v:=IN (S:=S++[dO (nF k i)]) (d:=sR (k i)) (j _) (oY _)
   wp_walk using v
   by_cases g:isF k i
   ·have b:dU (nF k i) (FL (k i))=Y:=kl (B5 g);rw[b,ak (by rfl)];have w:=Nw (S:=S++[dO (nF k i)]) (j _)
    wp_walk using w
    refine wL (F:=nF k i) (j _) (oY _) (by rw[nF_len];have:=vh (k:=k) hi;have y:cnt k m<=m:=(by unfold cnt;exact aD (cX ..) (by rw[cB];exact nR1 _));lia) ?_;rw[st];refine⟨_,a,?_,O⟩;rw[sM,mx g,ak O,nF_len];unfold gU;rw[B5 g,aj (by decide)]
   ·obtain⟨s,o,l⟩:∃s,s<i/\k s=k i:=Ru λz=>g λs o e=>z ⟨s,o,e⟩;have p:fs k i<i:=bF (by rw[<- ph.mpr l];exact uT k s) o;rw[sN p,aj (by simp)];refine⟨_,a,?_,O⟩;rw[sM,yM g,aj (by decide),aN]
  ·rintro r V ⟨c,hi,rfl,rfl⟩;rw[lM1,cB,bL];exact⟨O,_,O,O⟩
 rintro r V ⟨c,rfl,rfl⟩;walk_at"w";refine ei (gn _) ?_;refine js (f:=λr=>sR (k r)) (λr=>D.int (cn k r:Nat)) (λr=>∃x,r=[x,Z (.ref S.length)]) (fF (gn _)) (af m) _ ⟨_,O⟩ ?_ ?_
 ·rintro i hi r ⟨x,rfl⟩;walk_at"w";refine DQ (j _) (oY _) (sN (by have:=uT k i;have:=aC.mp hi;lia)) ?_;exact⟨O,O,_,O⟩
 ·rintro A _;refine⟨dR (by rw[lM1,cB];lia),?_⟩;walk_at"w";refine ei (xs:=nmD (Hj m (cn k))) (by first|(rw[eO,nmD,bu];rfl)|simp[nmD]) ?_;have:=CN (d:=tz m (cn k)) (S:=S) (G:=[dO (nF k m),.lst ((af m).map λr=>D.int (cn k r:Nat))]) (by rw[D.und];exact fx _) (NN t)
  first|(rw[this];exact q)|(show Q (gc _ _);rw[this];exact q)
theorem C1{S:Sto}{n:Nat}:∀a b:List Nat,wz (i7 S (n+1)) (nmD a) (nmD b)=Z (tf (a=b))
 |[],[]=>by rw[mx O];rfl
 |[],_::_=>by rw[yM (by simp)];rfl
 |_::_,[]=>by rw[yM (by simp)];rfl
 |x::a,y::b=>by
  have c:i7 S (n+1) (.int x) (.int y)=Z ((x:Int) == (y:Int)):=rfl;show wz _ (.int x::nmD a) (.int y::nmD b)=_;rw[wz,c,C1 a b,oS1];refine congrArg Z (yO ?_);rw[bA1,RO,yN,List.cons.injEq];constructor
  ·rintro⟨h1,h2⟩;exact⟨by lia,h2⟩
  ·rintro⟨h1,h2⟩;exact⟨by lia,h2⟩
theorem JY{a b:List Nat}:i7 S (n+2) (.tup (nmD a)) (.tup (nmD b))=Z (tf (a=b)):=by
 rw[show n+2=n+1+1 from rfl,i7];simp only[iC,C1 (S:=S) (n:=n) a b];simp
theorem B3{a b:List Nat}:wm (.tup (nmD a)) (.tup (nmD b)) S=Z (.bl (!tf (a=b)),S):=by
 show(i7 S d8 _ _).map _=_;rw[show d8=58+2 from rfl,JY];rfl
theorem L9{c c':Nat->Nat}:Hj m c=Hj m c' ↔ ∀r,r<m->c r=c' r:=by
 unfold Hj;rw[List.map_inj_left];exact⟨λh r a=>h r (aC.mpr a),λh r a=>h r (aC.mp a)⟩
theorem Km{x:Str}{g:FN}{a:FA}{r:Ev}(h:r[i]?=Z (Z (.fn x)))(q:W (mN g a r S) Q):W (uF i x g a r S) Q:=by
 unfold uF;rw[h];dsimp only;rw[ak O];exact q
theorem xp{n:Nat}{w:dJ}{sg:List Int}{c:Nat->Nat}{h:Option D}(hw:WebJ m w)(hm:m<=8)(hs:sg.length=m)(d:S.all (Ob.und 0)=M)(q:∀G,(S++G).all (Ob.und 0)=M->Q (tz m (cn (lk w sg c)),S++G)):W (uF 2 "numbered" (dI 1 gl) (dG (mN (dI 3 gB) (dG (mV 0) (dG (mV 1) (dG (mV 3) dH)))) dH) [Z (webD w),Z (iz sg),Z (.fn "numbered"),Z (tz m c),h] S) Q:=by
 refine Km O ?_;simp(implicitDefEqProofs:=J) only[mN,dG,mV,dH,cS,gC1,oS1,dN,dV];refine Hk O (by rw[D.unds,eB,D.unds,gA,D.unds,D.und,fx];rfl) ((FH (c:=c) hw hm hs).mono ?_);rintro p ⟨k,h1,h2,b⟩;refine⟨k,_,h1,h2,b,λG j e g f=>?_⟩;have a:(S++G).all (Ob.und 0)=M:=by rw[cN,d,g];rfl
 exact IM a e hm (q G a)
theorem za{w:dJ}{sg:List Int}(hw:WebJ m w)(o:0<m)(hm:m<=8)(hs:sg.length=m)(q:Q (.tup (nmD (gv m w sg)),S)):W (dI 3 i0 [webD w,iz sg,.fn "numbered"] S) Q:=by
 refine fC O (by rw[D.unds,eB,D.unds,gA];rfl) ?_;unfold i0;refine i6 ?_;unfold rL;refine d4 (λr V=>V.all (Ob.und 0)=M/\r=[Z (webD w),Z (iz sg),Z (.fn "numbered"),Z (tz m (col w sg 0)),Y]) ?_ ?_
 ·walk_at"w";rw[show webD w = .tup (w.map λrow=>.tup (row.map pD))from rfl,ik];refine js (f:=λrow:List (Nat×Nat)=>D.tup (row.map pD)) (λ_=>.int 0) (λr=>∃x,r=[x]) O w _ ⟨_,O⟩ ?_ ?_
  ·rintro row z r ⟨x,rfl⟩;walk_at"w";exact⟨_,O⟩
  ·rintro p _;refine ⟨dR (by rw [lM1,hw.len];lia),?_⟩;walk_at"w";refine ei (xs:=w.map fun _=>D.int 0) rfl ?_;have e:(w.map fun _=>D.int 0)=nmD (Hj m (col w sg 0)):=by
    have h1:(w.map λ_=>D.int 0)=aP m (D.int 0):=by rw[List.map_const',hw.len]
    have h2:nmD (Hj m (col w sg 0))=aP m (D.int 0):=by
     unfold nmD Hj;rw[bu];have:((λi:Nat=>D.int i)∘col w sg 0)=λ_=>D.int 0:=rfl;rw[this,List.map_const',cB]
    rw[h1,h2]
   rw[e];refine⟨?_,O⟩;rw[bN,Ob.und,fx];rfl
 rintro r V ⟨l,rfl⟩;refine d4 (λr V=>V.all (Ob.und 0)=M/\r=[Z (webD w),Z (iz sg),Z (.fn "numbered"),Z (tz m (col w sg 0)),Z (tz m (col w sg 1))]) ?_ ?_
 ·unfold dS;rw[dN];refine xp (n:=0) hw hm hs l λG s=>?_;exact W.of O ⟨O,s,O⟩
 rintro r V ⟨l,rfl⟩;refine d4 (λr V=>r[3]?=Z (Z (.tup (nmD (gv m w sg))))) ?_ ?_
 ·refine tU (λk r V=>(∀j,j<k -> ¬ Stl m w sg j)/\V.all (Ob.und 0)=M/\r=[Z (webD w),Z (iz sg),Z (.fn "numbered"),Z (tz m (col w sg k)),Z (tz m (col w sg (k+1)))]) 8 ?_ 100000 0 _ _ (by lia) ⟨λj h=>by lia,l,O⟩;rintro k r V ⟨g,l,rfl⟩;unfold na
  wp_walk using B3
  have d:=(L9 (m:=m) (c:=col w sg (k+1)) (c':=col w sg k)).trans Ep;by_cases a:Stl m w sg k
  ·rw[mx (d.mpr a),aj (by decide)];have y:=vU o g;show Z (Z (tz m (col w sg k)))=_;rw[<- Er hw a (by lia)]
  ·rw [yM (fun h=>a (d.mp h)),if_pos (show (!false)=true from rfl)];have b:∀ j,j<k+1 -> ¬ Stl m w sg j:=fun j v=>by
    rcases c7.mp v with h|rfl
    ·exact g j h
    ·exact a
   have y:=vU o b;refine⟨by lia,?_⟩;unfold m9;refine d4 (λp t=>t=V/\p=[Z (webD w),Z (iz sg),Z (.fn "numbered"),Z (tz m (col w sg (k+1))),Z (tz m (col w sg (k+1)))]) ?_ ?_
   ·walk_at"w"
   rintro p t ⟨rfl,rfl⟩;unfold dS;rw[dN];refine xp (n:=0) hw hm hs l λG s=>?_;exact W.of O ⟨O,b,s,O⟩
 rintro r V u;unfold eg;rw[dN];unfold mV;rw[u,dV];exact dV.mpr ⟨by rw[D.und];exact fx _,q⟩
theorem np{w:dJ}{sg:List Int}(hw:WebJ m w)(a:0<m)(hm:m<=8)(hs:sg.length=m)(q:Q (.tup (nmD (gv m w sg)),S)):W (dI 2 fL [webD w,iz sg] S) Q:=by
 refine fC O (by rw[D.unds,eB,D.unds,gA];rfl) ?_;unfold fL;refine i6 ?_;unfold nr;walk_at"w";refine za hw a hm hs ?_;exact⟨by rw[D.und];exact fx _,q⟩
noncomputable def Be(ws cs:List Nat)(b:Bool)(r:Nat):Int:=(if cs.contains r then 1 else 0)+(if(b&&ws.contains r)=M then 2 else 0)
def sgL(m:Nat)(ws cs:List Nat)(b:Bool):List Int:=(af m).map (Be ws cs b)
theorem nO{b:Bool}:(sgL m ws cs b).length=m:=by unfold sgL;rw[lM1,cB]
def ol(ws cs:List Nat):D:=.tup [.tup (nmD ws),.tup (nmD cs)]
theorem my:(ol ws cs).und 0=M:=by unfold ol;rw[D.und,D.unds,D.unds,D.und,D.und,fx,fx];rfl
theorem tE{w:dJ}(hw:WebJ m w)(hm:m<=8)(q:Q (iz (sgL m ws cs J),S)):W (dI 2 eK [webD w,.tup (nmD cs)] S) Q:=by
 refine fC O (by rw[D.unds,eB,D.unds,D.und,fx];rfl) ?_;unfold eK;refine i6 ?_;unfold kZ
 wp_walk using km
 rw[hw.len];refine⟨eL (by lia),?_⟩;rw[kR,Qr];refine js (f:=λi:Nat=>D.int i) (λr=>D.int (Be ws cs J r)) (λr=>∃x,r=[x,Z (.tup (nmD cs))]) O (af m) _ ⟨_,O⟩ ?_ ?_
 ·rintro r b a ⟨x,rfl⟩
  wp_walk using Cy
  unfold Be;cases cs.contains r with
  |true=>exact⟨O,_,O⟩
  |false=>exact⟨O,_,O⟩
 ·rintro a _;refine⟨dR (by rw[lM1,cB];lia),?_⟩;walk_at"w";have e:((af m).map λr=>D.int (Be ws cs J r))=(sgL m ws cs J).map D.int:=by unfold sgL;rw[bu];rfl
  rw[e];refine ei (xs:=(sgL m ws cs J).map D.int) O ?_;exact⟨gA _,q⟩
theorem Dx{w:dJ}(hw:WebJ m w)(hm:m<=8)(q:Q (iz (sgL m ws cs M),S)):W (dI 2 fM [webD w,ol ws cs] S) Q:=by
 refine fC O (by rw[D.unds,eB,D.unds,my];rfl) ?_;unfold fM;refine i6 ?_;unfold nt;refine d4 (λr V=>V=[]/\r=[Z (webD w),Z (ol ws cs),Z (.tup (nmD ws)),Z (.tup (nmD cs)),Y]) ?_ ?_
 ·unfold ol;walk_at"w"
 rintro r V ⟨rfl,rfl⟩;refine d4 (λr V=>V=[]/\r=[Z (webD w),Z (ol ws cs),Z (.tup (nmD ws)),Z (.tup (nmD cs)),Z (iz (sgL m ws cs J))]) ?_ ?_
 ·walk_at"w";refine tE (ws:=ws) hw hm ?_
  first|exact⟨rfl,rfl⟩|exact⟨rfl,trivial⟩|rfl
 rintro r V ⟨rfl,rfl⟩;walk_at"w";refine rR (xs:=(sgL m ws cs J).map D.int) O ?_;have c:u5 0 ((sgL m ws cs J).map D.int)=(af m).map λr=>D.tup [.int (r:Nat),.int (Be ws cs J r)]:=by
  refine bW λi=>?_;rw[gD,gP1,gP1];unfold sgL;rw[gP1];by_cases h:i<m
  ·rw[cr h,bL];rfl
  ·rw[bX (by rw[cB];lia)];rfl
 rw[c];refine js (f:=λr:Nat=>D.tup [.int (r:Nat),.int (Be ws cs J r)]) (λr=>D.int (Be ws cs M r)) (λr=>∃a b,r=[a,b,Z (.tup (nmD ws))]) O (af m) _ ⟨_,_,O⟩ ?_ ?_
 ·rintro r g d ⟨a,b,rfl⟩
  wp_walk using Cy
  unfold Be;cases ws.contains r with
  |true=>
   cases cs.contains r with
   |true=>exact⟨O,_,_,O⟩
   |false=>exact⟨O,_,_,O⟩
  |false=>exact⟨O,_,_,O⟩
 ·rintro d _;refine⟨dR (by rw[lM1,cB];lia),?_⟩;walk_at"w";have e:((af m).map λr=>D.int (Be ws cs M r))=(sgL m ws cs M).map D.int:=by unfold sgL;rw[bu];rfl
  rw[e];refine ei (xs:=(sgL m ws cs M).map D.int) O ?_;exact⟨gA _,q⟩
theorem pw:∀(ns acc:List Int),acc.Nodup->((ns.foldl Rz acc).length<=acc.length+ns.length/\((ns.foldl Rz acc).length=acc.length+ns.length↔(acc++ns).Nodup))
 |[],acc,h=>by simp[h]
 |n::ns,acc,h=>by
  rw[b4];by_cases c:n∈acc
  ·have e:Rz acc n=acc:=by
    unfold Rz;rw[ak (bP.mpr ⟨n,c,by simp⟩)]
   rw[e];obtain⟨h1,h2⟩:=pw ns acc h;rw[lC1];refine⟨by lia,⟨λz=>by lia,λz=>?_⟩⟩;rw[bx]at z;exact(z.2.2 n c n mS1 O).elim
  ·have e:Rz acc n=acc++[n]:=by
    unfold Rz;rw[aj (by rw[bP];rintro⟨x,i,d⟩;exact c (by rw[<- RO.mp d];exact i))]
   rw[e];have hnd:(acc++[n]).Nodup:=by
    rw[bx];exact⟨h,by simp,λa g b f z=>by rw[cv]at f;subst f;subst z;exact c g⟩
   obtain⟨h1,h2⟩:=pw ns (acc++[n]) hnd;rw[lA1,aY,bE,List.singleton_append]at *
   rw[lC1];refine⟨by lia,?_⟩;rw[<- h2];constructor<;>intro z<;>lia
theorem tW:(rs.map λ(r:Nat)=>(r:Int)).Nodup↔rs.Nodup:=by
 unfold List.Nodup;rw[cR];exact⟨λh=>h.imp λz e=>z (by rw[e]),λh=>h.imp λz e=>z (by lia)⟩
theorem AE(a:rs.length<=100)(q:Q (.bl (tf rs.Nodup),S)):W (dI 1 eU [.tup (nmD rs)] S) Q:=by
 refine fC O (by rw[D.unds,D.und,fx];rfl) ?_;unfold eU;refine i6 ?_;unfold jk;have e:iG (.tup (nmD rs)) []=Z (.ref 0,[.iset (ddI (rs.map λ(r:Nat)=>(r:Int)))]):=by
  unfold iG;rw[iC];dsimp only;rw[xY,oS1,ak (by rw[lM1];unfold RB;lia)];rfl
 wp_walk using e
 refine wM O ?_;walk_at"w";refine⟨O,?_⟩;have:((((ddI (rs.map λ(r:Nat)=>(r:Int))).length:Nat):Int) == (((nmD rs).length:Nat):Int))=tf rs.Nodup:=yO (by
  have:=(pw (rs.map λ(r:Nat)=>(r:Int)) [] bp).2;rw[bf,bL,lM1,cP,tW]at this;rw[RO,ej,<- this];unfold ddI;lia)
 rw[this];exact q
theorem uG{c:List (Nat×List D)}{g:FG}{b:FS}{Q:Fl×Ev×Sto->Prop}(I:Nat->Ev->Sto->Prop):∀ (items:List D) (k:Nat) (r:Ev) (S:Sto),I k r S ->
  (∀i r S,I i r S->pP S c=M) ->
  (∀i d,items[i]?=Z d -> ∀r S,I (k+i) r S->W (g d r S) λp=>W (b p.1 p.2) λq=>(q.1 = .nx/\I (k+i+1) q.2.1 q.2.2) \/ ∃v,q.1 = .rt v/\Q (.rt v,q.2)) ->
  (∀r S,I (k+items.length) r S->Q (.nx,r,S))->W (jo c g b items r S) Q:=by
 intro items
 induction items with
 |nil=>intro k r S hi a _ j;rw[jo];dsimp only;rw[ak (a _ _ _ hi),dV];exact j r S (by simpa using hi)
 |cons d ds ih=>
  intro k r S hi a l j;rw[jo];dsimp only;rw[ak (a _ _ _ hi),dN];obtain⟨p,o,⟨f,n,s⟩,t,h⟩:=l 0 d O r S (by simpa using hi);refine⟨p,o,?_⟩;dsimp only;rw[dN];refine⟨_,t,?_⟩;dsimp only at h ⊢;rcases h with⟨rfl,e⟩|⟨v,rfl,u⟩
  ·exact ih (k+1) n s e a (fun i d m r S e=>by
    have:=l (i+1) d m r S (by rw[show k+(i+1)=k+1+i by lia];exact e);rw[show k+(i+1)+1=k+1+i+1 by lia]at this;exact this) λr S e=>j r S (by rw[lC1,show k+(ds.length+1)=k+1+ds.length by lia];exact e)
  ·exact dV.mpr u
theorem K4{a b:FS}{r:Ev}{Q:Fl×Ev×Sto->Prop}(h:W (a r S) λp=>(p.1 = .nx/\W (b p.2.1 p.2.2) Q) \/ ∃v,p.1 = .rt v/\Q (.rt v,p.2)):W (dP a b r S) Q:=by
 obtain⟨⟨f,c,d⟩,e,h⟩:=h;unfold dP;rw[e];dsimp only at h;rcases h with⟨rfl,h⟩|⟨v,rfl,h⟩
 ·exact h
 ·exact dV.mpr h
theorem JS{c:FT}{m:FE}{b:FS}{r:Ev}{Q:Fl×Ev×Sto->Prop}(C:Bool×Sto->Prop)(h1:W (c r S) C)(h2:∀V,C (M,V)->W (m r V) λp=>Q (.rt p.1,r,p.2))(d:∀V,C (J,V)->W (b r V) Q):W (dP (fr c (eg m) kT) b r S) Q:=by
 obtain⟨⟨t,V⟩,e,a⟩:=h1;unfold dP fr;simp only[e,oS1];cases t with
 |true=>
  rw[ak O];unfold eg;rw[dN,dN];exact(h2 V a).mono λp f=>dV.mpr (dV.mpr f)
 |false=>
  rw[aj (by decide)];exact d V a
theorem tN{T:Ty}{m:FE}{r:Ev}:W (sO T m r S) Q↔W (m r S) λp=>W (uN p.2 T p.1) λb=>Q (.bl b,p.2):=by
 unfold sO;rw[dN];simp only[k6]
theorem Cu{T:Ty}{xs:List D}:uN S T (.tup xs)=Z (decide (T = .tuple)):=rfl
theorem JN{T:Ty}{i:Int}:uN S T (.int i)=Z (decide (T = .int)):=rfl
noncomputable def cw(cl ws:List Nat)(i:Nat):Nat:=cl.getD (ws.getD i 0) 0
def alD(i j:Nat)(cl:List Nat):D:=.tup [.str "alike",.int (i:Nat),.int (j:Nat),.tup (nmD cl)]
inductive Al (cl ws:List Nat):D->Prop
 |yes (i j:Nat) (h1:i<j) (h2:j<ws.length) (h3:cw cl ws i=cw cl ws j) (h4:∀i' j',i'<j'->j'<ws.length->(i'<i\/(i'=i/\j'<j))->cw cl ws i'≠cw cl ws j'):Al cl ws (alD i j cl)
 |no (h:∀i j,i<j->j<ws.length->cw cl ws i≠cw cl ws j):Al cl ws .non
theorem Al.und{a:List Nat}{d:D}(h:Al a ws d):d.und 0=M:=by
 cases h with
 |no _=>rfl
 |yes i j _ _ _ _=>unfold alD;rw[D.und,D.unds,D.unds,D.unds,D.unds,D.und,D.und,D.und,D.und,fx];rfl
theorem vt(hi:i<rs.length)(q:Q (.int (rs.getD i 0:Nat),S)):W (dL (.tup (nmD rs)) (.int i) S) Q:=
 hP (i:=i) (x:=.int (rs.getD i 0:Nat)) (by rw[nmD,gP1,bH,gG1 hi];rfl) q
theorem kq(hm:0<m)(h:∀x∈rs,x<m):rs.getD i 0<m:=by
 rw[bH];cases e:rs[i]? with
 |none=>exact hm
 |some x=>exact h x (gM1 e)
theorem l9{w:dJ}{sg:List Int}:(gv m w sg).length=m:=by unfold gv;rw[lM1,cB]
theorem Ki:((a:Int) == (b:Int))=tf (a=b):=yO (by rw[RO];lia)
theorem GJ{w:dJ}(hw:WebJ m w)(n:0<m)(hm:m<=8)(s:∀x∈ws,x<m)(B:ws.length<=20)(q:∀d,Al (gv m w (sgL m ws cs J)) ws d->Q (d,S)):W (dI 2 lU [webD w,ol ws cs] S) Q:=by
 refine fC O (by rw[D.unds,eB,D.unds,my];rfl) ?_;unfold lU;refine i6 ?_;unfold yx;generalize p:gv m w (sgL m ws cs J)=cl at *
 have f:cl.length=m:=by rw[<- p];exact l9
 refine d4 (λr V=>V=[]/\r=[Z (webD w),Z (ol ws cs),Z (.tup (nmD ws)),Z (.tup (nmD cs)),Y,Y,Y]) ?_ ?_
 ·unfold ol;walk_at"w"
 rintro r V ⟨rfl,rfl⟩;refine d4 (λr V=>V=[]/\r=[Z (webD w),Z (ol ws cs),Z (.tup (nmD ws)),Z (.tup (nmD cs)),Z (.tup (nmD cl)),Y,Y]) ?_ ?_
 ·walk_at"w";refine tE (ws:=ws) hw hm ?_;walk_at"w";refine np hw n hm nO ?_;rw[p]
  first|exact⟨rfl,rfl⟩|exact⟨rfl,trivial⟩|rfl
 rintro r V ⟨rfl,rfl⟩;refine K4 ?_;walk_at"w";rw[ej];refine⟨eL (by lia),?_⟩;rw[Qr];refine uG (λi r V=>∃z l,i<=ws.length/\(∀c a,c<a->a<ws.length->c<i->cw cl ws c≠cw cl ws a)/\V=[]/\r=[Z (webD w),Z (ol ws cs),Z (.tup (nmD ws)),Z (.tup (nmD cs)),Z (.tup (nmD cl)),z,l]) _ 0 _ _ ⟨_,_,by lia,λc a _ _ h=>by lia,O,O⟩ (λ_ _ _ _=>rfl) ?_ ?_
 ·rintro i d g r V ⟨z,l,hi,b,rfl,rfl⟩;have v:=(R1 g).1;rw[et]at v;rw[kR,gP1,cr v]at g;cases g;rw[bL]at *
  walk_at"w";unfold qx;unfold fE;rw[dN];walk_at"w";rw[ej];refine⟨Dq (by lia) (by lia),eL (by lia),?_⟩;have A:fX ((i:Int)+1) (((ws.length:Nat):Int)-((i:Int)+1)).toNat=(af (ws.length-(i+1))).map λk:Nat=>D.int ((i+1+k:Nat):Int):=by
   rw[nS,show(((ws.length:Nat):Int)-((i:Int)+1)).toNat=ws.length-(i+1) by lia];refine cM λk _=>?_
   push_cast;rfl
  rw[A];refine uG (λk r V=>∃l,(∀a,i<a->a<i+1+k->cw cl ws i≠cw cl ws a)/\V=[]/\r=[Z (webD w),Z (ol ws cs),Z (.tup (nmD ws)),Z (.tup (nmD cs)),Z (.tup (nmD cl)),Z (.int (i:Nat)),l]) _ 0 _ _ ⟨_,λa h h'=>by lia,O,O⟩ (λ_ _ _ _=>rfl) ?_ ?_
  ·rintro k d g r V ⟨l,u,rfl,rfl⟩;have t:=(R1 g).1;rw[lM1,cB]at t;rw[gP1,cr t]at g;cases g;rw[bL]at *
   walk_at"w";unfold qy;walk_at"w";refine vt (by lia) ?_;refine vt (by rw[f];exact kq n s) ?_;refine vt (by lia) ?_;refine vt (by rw[f];exact kq n s) ?_;walk_at"w";rw[show((((cl.getD (ws.getD i 0) 0:Nat):Int) == ((cl.getD (ws.getD (i+1+k) 0) 0:Nat):Int)))=tf (cw cl ws i=cw cl ws (i+1+k))from Ki];by_cases y:cw cl ws i=cw cl ws (i+1+k)
   ·rw [mx y];walk_at"w";have e:Al cl ws (alD i (i+1+k) cl):=.yes i (i+1+k) (by lia) (by lia) y fun c a h1 h2 o=>by
     rcases o with o|⟨rfl,o⟩
     ·exact b c a h1 h2 o
     ·exact u a h1 o
    exact .inr ⟨_,O,.inr ⟨_,O,.inr ⟨_,O,e.und,q _ e⟩⟩⟩
   ·rw[yM y];walk_at"w";refine .inl ⟨_,λa h1 h2=>?_,O⟩;rcases(show a<i+1+k\/a=i+1+k by lia)with h|rfl
    ·exact u a h1 h
    ·exact y
  ·rintro r V ⟨l,u,rfl,rfl⟩;rw[lM1,cB,bL]at u;refine .inl ⟨O,_,_,by lia,λc a h1 h2 o=>?_,O,O⟩;rcases(show c<i\/c=i by lia)with h|rfl
   ·exact b c a h1 h2 h
   ·exact u a h1 (by lia)
 ·rintro r V ⟨z,l,hi,b,rfl,rfl⟩;rw[et,bL]at b;refine .inl ⟨O,?_⟩
  try walk_at"w"
  have e:Al cl ws .non:=.no λi j h1 h2=>b i j h1 h2 (by lia);exact⟨O,q _ e⟩
def J9(cl:List Nat):D:=.tup [.str "colours",.tup (nmD cl)]
theorem J8{a:List Nat}:(J9 a).und 0=M:=by unfold J9;rw[D.und,D.unds,D.unds,D.und,D.und,fx];rfl
inductive Nv (m:Nat)(w:dJ)(ws cs:List Nat)(b:Bool):D->Prop
 |co (h:¬ (gv m w (sgL m ws cs true)).Nodup):Nv m w ws cs b (J9 (gv m w (sgL m ws cs true)))
 |al (d:D) (h:(gv m w (sgL m ws cs true)).Nodup) (hb:b=true) (hd:Al (gv m w (sgL m ws cs false)) ws d):Nv m w ws cs b d
 |no (h:(gv m w (sgL m ws cs true)).Nodup) (hb:b=false):Nv m w ws cs b .non
theorem Fh{w:dJ}{b:Bool}(hw:WebJ m w)(c:0<m)(hm:m<=8)(g:∀x∈ws,x<m)(h:ws.length<=20)(q:∀d,Nv m w ws cs b d->Q (d,S)):W (dI 3 kj [webD w,ol ws cs,.bl b] S) Q:=by
 refine fC O (by rw[D.unds,eB,D.unds,my];rfl) ?_;unfold kj;refine i6 ?_;unfold yu;refine d4 (λr V=>V=[]/\r=[Z (webD w),Z (ol ws cs),Z (.bl b),Z (.tup (nmD (gv m w (sgL m ws cs M))))]) ?_ ?_
 ·walk_at"w";refine Dx hw hm ?_;walk_at"w";refine np hw c hm nO ?_
  first|exact⟨rfl,rfl⟩|exact⟨rfl,trivial⟩|rfl
 rintro r V ⟨rfl,rfl⟩;have k:(gv m w (sgL m ws cs M)).length=m:=l9;refine JS (λt=>t=(!tf (gv m w (sgL m ws cs M)).Nodup,[])) ?_ (λV e=>?_) λV e=>?_
 ·walk_at"w";refine AE (by lia) ?_;walk_at"w"
 ·injection e with a i;subst i;have f:¬ (gv m w (sgL m ws cs M)).Nodup:=λz=>by rw[mx z]at a;cases a
  walk_at"w";exact⟨J8,q _ (.co f)⟩
 ·injection e with a i;subst i;have f:(gv m w (sgL m ws cs M)).Nodup:=Ru λz=>by rw[yM z]at a;cases a
  cases b with
  |true=>
   walk_at"w";refine GJ (cs:=cs) hw c hm g h λd j=>?_;exact⟨j.und,q d (.al d f O j)⟩
  |false=>
   walk_at"w";exact⟨O,q _ (.no f O)⟩
theorem Da(xs:List Int)(x:Int):ddI (xs++[x])=Rz (ddI xs) x:=by unfold ddI;rw[ci];rfl
theorem yn{y:Int}:∀(xs acc:List Int),y∈xs.foldl Rz acc↔y∈acc\/y∈xs
 |[],acc=>by simp
 |x::xs,acc=>by
  rw[b4,yn xs];unfold Rz;split
  ·rename_i h;obtain⟨z,a,e⟩:=bP.mp h;have e:=RO.mp e;subst e;rw[aF];exact⟨λh=>h.elim .inl λh=>.inr (.inr h),λh=>h.elim .inl λh=>h.elim (λe=>.inl (e ▸ a)) .inr⟩
  ·rw[aG,cv,aF,or_assoc]
theorem ym{y:TK}:∀(xs acc:List TK),y∈xs.foldl kE acc↔y∈acc\/y∈xs
 |[],acc=>by simp
 |x::xs,acc=>by
  rw[b4,ym xs];unfold kE;split
  ·rename_i h;rw[aF];exact⟨λh=>h.elim .inl λh=>.inr (.inr h),λq=>q.elim .inl λq=>q.elim (λe=>.inl (e ▸ h)) .inr⟩
  ·rw[aG,cv,aF,or_assoc]
theorem Gr(xs:List Int)(x:Int):(ddI (xs++[x])).length=(ddI xs).length+if x∈xs then 0 else 1:=by
 rw[Da];unfold Rz;have a:x∈ddI xs↔x∈xs:=by unfold ddI;rw[yn];simp
 by_cases h:x∈xs
 ·rw[ak h,ak (bP.mpr ⟨x,a.mpr h,by simp⟩)];rfl
 ·rw[aj h,aj λz=>?_,lA1];rfl;obtain⟨y,b,e⟩:=bP.mp z;have e:=RO.mp e;subst e;exact h (a.mp b)
theorem Gq(xs:List TK)(x:TK):(ddK (xs++[x])).length=(ddK xs).length+if x∈xs then 0 else 1:=by
 have e:ddK (xs++[x])=kE (ddK xs) x:=by unfold ddK;rw[ci];rfl
 rw[e];unfold kE;have a:x∈ddK xs↔x∈xs:=by unfold ddK;rw[ym];simp
 by_cases h:x∈xs
 ·rw[ak h,ak (a.mpr h)];rfl
 ·rw[aj h,aj λz=>h (a.mp z),lA1];rfl
theorem mG{α:Type}{f:Nat->α}{x:α}:x∈(af i).map f ↔ ∃j,j<i/\f j=x:=by
 rw[cf];exact⟨λ⟨j,h,e⟩=>⟨j,aC.mp h,e⟩,λ⟨j,h,e⟩=>⟨j,aC.mpr h,e⟩⟩
theorem yB{f:Nat->TK}{g:Nat->Int}(h:∀ i j,f i=f j->g i=g j):∀ m:Nat,(ddI ((List.range m).map g)).length<=(ddK ((List.range m).map f)).length /\
  ((ddK ((af m).map f)).length=(ddI ((af m).map g)).length ↔ ∀i,i<m->(∃j,j<i/\g j=g i) -> ∃j,j<i/\f j=f i)
 |0=>⟨nR1 _,λ_ i hi=>absurd hi (bw _),λ_=>rfl⟩
 |m + 1=>by
  obtain⟨h1,h2⟩:=yB h m;rw[c9,cc,cc,List.map_singleton,List.map_singleton,Gr,Gq];by_cases b:f m∈(af m).map f
  ·have a:g m∈(List.range m).map g:=by
    obtain⟨j,d,e⟩:=mG.mp b;exact mG.mpr ⟨j,d,h _ _ e⟩
   rw[ak b,ak a];refine⟨h1,h2.trans ⟨λq i hi c=>?_,λq i hi=>q i (by lia)⟩⟩;rcases bS i m with z|z
   ·exact q i z c
   ·have:i=m:=by lia
    subst this;exact mG.mp b
  ·rw[aj b];by_cases a:g m∈(af m).map g
   ·rw[ak a];refine⟨by lia,λq=>absurd q (by lia),λq=>?_⟩;exact absurd (mG.mpr (q m (bB m) (mG.mp a))) b
   ·rw[aj a];refine⟨by lia,⟨λq i hi c=>?_,λq=>?_⟩⟩
    ·rcases bS i m with z|z
     ·exact h2.mp (by lia) i z c
     ·have:i=m:=by lia
      subst this;exact absurd (mG.mpr c) a
    ·rw[h2.mpr λi hi=>q i (by lia)]
theorem wv{α β:Type}{f:Nat->α}{g:Nat->β}(h:∀i j,f i=f j->g i=g j):(∀i,i<m->(∃j,j<i/\g j=g i) -> ∃j,j<i/\f j=f i) ↔ ∀i j,i<m->j<m->g i=g j->f i=f j:=by
 constructor
 ·intro q;have c:∀ n i,i<n->i<m -> ∀ j,j<i->g j=g i->f j=f i:=by
   intro n
   induction n with
   |zero=>intro i hi;exact absurd hi (bw _)
   |succ n ih=>
    intro i hi d j b e;obtain⟨k,l,a⟩:=q i d ⟨j,b,e⟩;rcases b8 k j with z|z|z
    ·exact(ih j (by lia) (by lia) k z ((h _ _ a).trans e.symm)).symm.trans a
    ·rw[<- z];exact a
    ·exact(ih k (by lia) (by lia) j z (e.trans (h _ _ a).symm)).trans a
  intro i j hi b e;rcases b8 i j with z|z|z
  ·exact c (j+1) j (by lia) b i z e
  ·rw[z]
  ·exact(c (i+1) i (by lia) hi j z e.symm).symm
 ·rintro q i hi ⟨j,b,e⟩;exact⟨j,b,q j i (by lia) hi e⟩
abbrev Kz:=Int×Int×List (Int×Nat)
noncomputable def zD(e:Int×Nat):D:=.tup [.int e.1,.int (e.2:Nat)]
noncomputable def zT(e:Int×Nat):TK:=.tup [.int e.1,.int (e.2:Nat)]
def DZ(ts:List Int)(e:Nat×Nat):Int×Nat:=(iS ts e.1,e.2)
def qL(w:dJ)(sg ts:List Int)(r:Nat):Kz:=(iS ts r,iS sg r,(gG w r).map (DZ ts))
def lV(x:Kz):D:=.tup [.int x.1,.int x.2.1,.tup (x.2.2.map zD)]
def nG(x:Kz):TK:=.tup [.int x.1,.int x.2.1,.tup (x.2.2.map zT)]
theorem FK(x:Kz):(lV x).und 0=M:=by
 unfold lV;rw[D.und,D.unds,D.unds,D.unds,D.und,Mi.eE (λ_ _=>rfl)];rfl
theorem G9:∀l:List (Int×Nat),zx (l.map zD)=Z (l.map zT)
 |[]=>rfl
 |e::l=>by rw[mP1,zx,G9 l];rfl
theorem Hh:∀l:List (Int×Nat),TK.depAll (l.map zT)<=2
 |[]=>by decide
 |e::l=>by
  have:=Hh l;rw[mP1,TK.depAll];have:(zT e).dep=1:=rfl;lia
theorem LK(x:Kz):keyT (lV x)=Z (nG x):=by
 have e:zx [.int x.1,.int x.2.1,.tup (x.2.2.map zD)]=Z [.int x.1,.int x.2.1,.tup (x.2.2.map zT)]:=by
  simp only[zx,kD,G9,oP1,oS1]
 unfold lV;rw[keyT,e,oS1,ak]
 ·rfl
 ·have:=Hh x.2.2;simp[TK.dep,TK.depAll];lia
theorem As:∀{a b:List (Int×Nat)},a.map zT=b.map zT->a=b
 |[],[],_=>rfl
 |[],_::_,h=>by cases h
 |_::_,[],h=>by cases h
 |x::a,y::b,h=>by
  rw[mP1,mP1]at h;injection h with h1 h2;unfold zT at h1;injection h1 with h1;injection h1 with c h1;injection h1 with d h1;injection c with c;injection d with d;rw[As h2,show x=y from Prod.ext c (by lia)]
theorem uI{x y:Kz}(h:nG x=nG y):x=y:=by
 unfold nG at h;injection h with h;injection h with c h;injection h with b h;injection h with a h;injection c with c;injection b with b;injection a with a;exact Prod.ext c (Prod.ext b (As a))
def Fit(m:Nat)(w:dJ)(sg ts:List Int):Prop:=∀i j,i<m->j<m->iS ts i=iS ts j->qL w sg ts i=qL w sg ts j
theorem Go(m:Nat)(w:dJ)(sg ts:List Int):(ddK ((af m).map λr=>nG (qL w sg ts r))).length=(ddI ((af m).map (iS ts))).length↔Fit m w sg ts:=by
 have h:∀i j,nG (qL w sg ts i)=nG (qL w sg ts j)->iS ts i=iS ts j:=λi j e=>by
  have:=uI e;exact congrArg (·.1) this
 rw[(yB (f:=λr=>nG (qL w sg ts r)) h m).2,wv h];exact⟨λq i j hi a e=>uI (q i j hi a e),λq i j hi a e=>congrArg nG (q i j hi a e)⟩
theorem xT(f:Nat->Kz):∀l:List Nat,qS (l.map λr=>lV (f r))=Z (l.map λr=>nG (f r))
 |[]=>rfl
 |r::l=>by rw[mP1,qS,LK,oS1,xT f l];rfl
theorem Ez{ts:List Int}(h:ts.length=m):(af m).map (iS ts)=ts:=by
 subst h;apply bW;intro i;rw[gP1];by_cases hi:i<ts.length
 ·rw[cr hi,gG1 hi];unfold iS;rw[oP1,bH,gG1 hi];rfl
 ·rw[bX (by simpa using hi),bX (by lia)];rfl
theorem Cq{w:dJ}{sg a:List Int}(hw:WebJ m w)(hm:m<=8)(hs:sg.length=m)(ht:a.length=m):W (gB [webD w,iz sg,iz a] []) λp=>∃k,p.1 = .ref k/\p.2[k]?=Z (.lst ((af m).map λr=>lV (qL w sg a r)))/\p.2.all (Ob.und 0)=M:=by
 unfold gB;refine i6 ?_;unfold tJ;refine d4 (λr V=>V=[.lst []]/\r=[Z (webD w),Z (iz sg),Z (iz a),Z (.ref 0),Y,Y,Y]) ?_ ?_
 ·walk_at"w"
  try exact⟨O,trivial⟩
 rintro r V ⟨rfl,rfl⟩;refine d4 (λr V=>∃G h g c,G.all (Ob.und 0)=M/\V = .lst ((af m).map λr=>lV (qL w sg a r))::G/\r=[Z (webD w),Z (iz sg),Z (iz a),Z (.ref 0),h,g,c]) ?_ ?_
 ·unfold fE;rw[dN];refine rR (xs:=w.map λrow=>.tup (row.map pD)) O ?_;refine eN (λi r V=>∃G h g c,i<=m/\G.all (Ob.und 0)=M/\V = .lst ((af i).map λr=>lV (qL w sg a r))::G/\r=[Z (webD w),Z (iz sg),Z (iz a),Z (.ref 0),h,g,c]) _ 0 _ _ ⟨[],_,_,_,by lia,O,O,O⟩ (λ_ _ _ _=>rfl) ?_ ?_
  ·rintro i A o r V ⟨G,h,g,c,hi,l,rfl,rfl⟩;rw[gD,gP1]at o;obtain⟨z,y,rfl⟩:=R4 o;obtain⟨row,b,rfl⟩:=R4 y;have j:i<m:=by rw[<- hw.len];exact(R1 b).1
   have x:=hw.le i row b;rw[bL]at *
   walk_at"w";unfold mF;refine d4 (λr V=>V = .lst ((af i).map λr=>lV (qL w sg a r))::(G++[.lst (row.map λe=>zD (DZ a e))])/\r=[Z (webD w),Z (iz sg),Z (iz a),Z (.ref 0),Z (.int (i:Nat)),Z (.tup (row.map pD)),Z (.tup (row.map λe=>zD (DZ a e)))]) ?_ ?_
   ·walk_at"w";rw[ik];refine js (f:=pD) (λe=>zD (DZ a e)) (λq=>∃s t,q=[s,t,Z (iz a)]) O row _ ⟨_,_,O⟩ ?_ ?_
    ·rintro e v q ⟨s,t,rfl⟩;obtain⟨d,u⟩:=bq v;have:=hw.to i d e ⟨row,b,u⟩;rw[pD];walk_at"w";refine DM ht this ?_;walk_at"w";exact⟨O,_,_,O⟩
    ·rintro q _;refine⟨dR (by rw[lM1];lia),?_⟩;walk_at"w";refine ei (xs:=row.map λe=>zD (DZ a e)) (by rw[gC1,dQ];rfl) ?_
     first|exact⟨rfl,rfl⟩|exact⟨rfl,trivial⟩|rfl
   rintro r V ⟨rfl,rfl⟩;unfold fG;rw[dN];refine i9 ?_;walk_at"w";refine⟨0,(af i).map λr=>lV (qL w sg a r),O,O,?_⟩;refine DM ht j ?_;walk_at"w";refine DM hs j ?_;walk_at"w";refine(k7 (n:=0) (xs:=(af i).map λr=>lV (qL w sg a r)) O).mpr ⟨dR (by rw[lM1,cB];lia),?_⟩;refine⟨G++[.lst (row.map λe=>zD (DZ a e))],_,_,_,by lia,?_,?_,O⟩
   ·rw[cN,l,bN,Ob.und,Mi.eE (λ_ _=>rfl)];rfl
   ·have e:lV (qL w sg a i)=D.tup [D.int (iS a i),D.int (iS sg i),D.tup (row.map fun e=>zD (DZ a e))]:=by
     unfold qL;rw[ka b,lV,bu];rfl
    rw[c9,cc,mP1,e];rfl
  ·rintro r V ⟨G,h,g,c,hi,l,rfl,rfl⟩;rw[gO,lM1,bL,hw.len];exact⟨O,G,_,_,_,l,O,O⟩
 rintro r V ⟨G,h,g,c,l,rfl,rfl⟩;walk_at"w";refine⟨0,O,O,?_⟩;rw[bN,l,Ob.und,Mi.eE (λ_ _=>FK _)];rfl
theorem JM{T:Ty}{x:Str}:uN S T (.str x)=Z (decide (T = .str)):=rfl
theorem w8{xs:List D}(a:D.unds 0 xs=M)(h:xs.length=m)(q:Q (.bl M,S)):W (dI 2 eJ [.tup xs,.int m] S) Q:=by
 refine fC O (by rw[D.unds,D.und,a];rfl) ?_;unfold eJ;refine i6 ?_;unfold iL
 wp_walk using tN,Cu,hU
 rw[h];simp;exact⟨O,q⟩
theorem Fg{xs:List D}(a:D.unds 0 xs=M)(h:xs.length≠m)(q:Q (.bl J,S)):W (dI 2 eJ [.tup xs,.int m] S) Q:=by
 refine fC O (by rw[D.unds,D.und,a];rfl) ?_;unfold eJ;refine i6 ?_;unfold iL
 wp_walk using tN,Cu,hU
 have e:((xs.length:Int) == (m:Int))=J:=by simp;lia
 rw[e];exact⟨O,q⟩
theorem wX{i:Int}(q:Q (.bl M,S)):W (dI 1 gm [.int i] S) Q:=by
 refine fC O O ?_;unfold gm;refine i6 ?_;unfold pG
 wp_walk using tN,JN
 simp only[reduceCtorEq,decide_false,decide_true];walk_at"w";exact⟨O,q⟩
theorem Kr{xs:List D}(h:S[n]?=Z (.lst (xs.map λ_=>D.bl M)))(q:Q (.bl M,S)):W (p8 (.ref n) S) Q:=by
 refine W.of ?_ q;unfold p8;rw[fS h,oS1];dsimp only;rw[pL (f:=λ_=>M)];simp
theorem xX:∀ns:List Int,jh (ns.map D.int)=Z ns
 |[]=>rfl
 |n::ns=>by
  have:=xX ns;rw[mP1];simp only[jh,this];rfl
theorem t5{ns:List Int}(a:ns.length<=100):iG (iz ns) S=Z (.ref S.length,S++[.iset (ddI ns)]):=by
 unfold iG;rw[iC];dsimp only;rw[xX,oS1,ak (by unfold RB;lia)]
theorem Nu{w:dJ}{sg a:List Int}(hm:m<=8)(h:S[n]?=Z (.lst ((af m).map λr=>lV (qL w sg a r)))):jQ (.ref n) S=Z (.int ((ddK ((af m).map λr=>nG (qL w sg a r))).length:Nat),S):=by
 unfold jQ;rw[fS h];dsimp only;rw[xT,oS1,ak (by rw[lM1,cB];lia)]
theorem xW{w:dJ}{sg a:List Int}(hw:WebJ m w)(hm:m<=8)(hs:sg.length=m)(ht:a.length=m)(q:Q (.bl (tf (Fit m w sg a)),S)):W (dI 3 eY [webD w,iz sg,iz a] S) Q:=by
 refine fC O (by rw[D.unds,D.unds,D.unds,eB,gA,gA];rfl) ?_;unfold eY;refine i6 ?_;unfold jV;refine d4 (λr V=>∃G,V=G/\r=[Z (webD w),Z (iz sg),Z (iz a)]) ?_ ?_
 ·have n:eD (webD w) []=Z (.int (m:Nat),[]):=by rw[webD,hU,lM1,hw.len]
  wp_walk using n
  refine w8 (eE λ_ _=>rfl) (by rw[lM1];exact ht) ?_;walk_at"w";rw[ik];refine js (f:=D.int) (λ_=>D.bl M) (λr=>∃x,r=[x]) O a _ ⟨_,O⟩ ?_ ?_
  ·rintro i hi r ⟨x,rfl⟩;walk_at"w";refine wX ?_;exact⟨O,O,_,O⟩
  ·rintro p _;refine⟨dR (by rw[lM1];lia),?_⟩;refine Kr (xs:=a.map D.int) (by rw[bu];rfl) ?_;walk_at"w";exact⟨_,O,trivial⟩
 rintro r V ⟨G,rfl,rfl⟩;have e:=Cq hw hm hs ht;walk_at"w";refine Hk O (by rw[D.unds,D.unds,D.unds,eB,gA,gA];rfl) ?_;refine e.mono ?_;rintro⟨d,V⟩ ⟨k,h1,h2,b⟩;refine⟨k,_,h1,h2,b,λG j c s l=>?_⟩;have g:=Nu hm c
 wp_walk using g
 rw[t5 (by lia),dV];dsimp only;refine wM (by rw[dQ];rfl) ?_;walk_at"w";refine⟨O,?_⟩;have o:((((ddK ((af m).map λr=>nG (qL w sg a r))).length:Nat):Int) == (((ddI a).length:Nat):Int))=tf (Fit m w sg a):=yO (by
  rw[RO,<- Go,Ez ht];exact⟨λh=>by exact_mod_cast h,λh=>by rw[h]⟩)
 rw[o];exact q
theorem ss{w:dJ}{d:Nat}{e:Nat×Nat}(h:(gG w r)[d]?=Z e):At w r d e:=by
 unfold gG at h;cases hr:w[r]? with
 |none=>rw[hr]at h;simp at h
 |some row=>rw[hr]at h;exact⟨row,hr,h⟩
theorem Hc{sg:List Int}(a:sg.length=m)(hr:r<m):dL (iz sg) (.int r) S=Z (.int (iS sg r),S):=by
 obtain⟨p,e,rfl⟩:=DM (Q:=λp=>p=(.int (iS sg r),S)) a hr O;exact e
theorem Hb{xs:List D}{x:D}(hx:xs[i]?=Z x):dL (.tup xs) (.int i) S=Z (x,S):=by
 obtain⟨p,e,rfl⟩:=hP (Q:=λp=>p=(x,S)) hx O;exact e
theorem sr{w:dJ}(hw:WebJ m w){d:Nat}{e:Nat×Nat}(he:(gG w r)[d]?=Z e):e.1<m:=hw.to r d e (ss he)
def El(w:dJ)(ts:List Int)(i b:Nat):Prop:=∀p∈(gG w i).zip (gG w b),iS ts p.1.1=iS ts p.2.1/\p.1.2=p.2.2
theorem sQ{w:dJ}{sg d:List Int}:qL w sg d i=qL w sg d b↔iS d i=iS d b/\iS sg i=iS sg b/\(gG w i).length=(gG w b).length/\El w d i b:=by
 have f:∀a c:List (Nat×Nat),a.map (DZ d)=c.map (DZ d)↔a.length=c.length /\ ∀p∈a.zip c,iS d p.1.1=iS d p.2.1/\p.1.2=p.2.2:=λa=>by
  induction a with
  |nil=>intro c;cases c<;>simp
  |cons x a ih=>
   intro c;cases c with
   |nil=>simp
   |cons y c=>
    rw[mP1,mP1,List.cons.injEq,ih c,bR,lC1,lC1];unfold DZ;rw[R0];constructor
    ·rintro⟨⟨h1,h2⟩,h,g⟩;refine⟨by lia,λp e=>?_⟩;rcases aF.mp e with z|z
     ·subst z;exact⟨h1,h2⟩
     ·exact g p z
    ·rintro⟨h1,h2⟩;exact⟨h2 (x,y) mS1,by lia,λp e=>h2 p (mC1 _ e)⟩
 unfold qL El;rw[R0,R0,f]
noncomputable def KF(ts:List Int):D:=.tup [.str "colours",iz ts]
noncomputable def D3(i j:Nat)(ts:List Int):D:=.tup [.str "alike",.int (i:Nat),.int (j:Nat),iz ts]
theorem Gv{a:List Int}:(KF a).und 0=M:=by unfold KF;rw[D.und,D.unds,D.unds,gA];rfl
theorem yC{a:List Int}:(D3 i j a).und 0=M:=by unfold D3;rw[D.und,D.unds,D.unds,D.unds,D.unds,gA];rfl
def vC(m:Nat)(w:dJ)(ws cs:List Nat)(ts:List Int):Bool:=tf (Fit m w (sgL m ws cs M) ts)&&decide ((ddI ts).length<m)
def vA(m:Nat)(w:dJ)(ws cs:List Nat)(b:Bool)(i j:Nat)(ts:List Int):Bool:=b&&(tf (Fit m w (sgL m ws cs J) ts)&&(decide (i<j)&&iS ts (ws.getD i 0) == iS ts (ws.getD j 0)))
theorem KJ{a:List Int}(c:a.length<=100)(q:Q (.bl (!decide ((ddI a).length<a.length)),S)):W (dI 1 eU [iz a] S) Q:=by
 refine fC O (by rw[D.unds,gA];rfl) ?_;unfold eU;refine i6 ?_;unfold jk;have d:=t5 (ns:=a) (S:=[]) c
 wp_walk using d
 refine wM O ?_;walk_at"w";rw[lM1];refine⟨O,?_⟩;have b:=(pw a [] bp).1;have e:((((ddI a).length:Nat):Int) == ((a.length:Nat):Int)) = !decide ((ddI a).length<a.length):=by
  have:(ddI a).length<=a.length:=by simpa[ddI]using b
  rw[bO];simp;lia
 rw[e];exact q
theorem wj{x y:Str}{ds:List D}(c:D.unds 0 ds=M)(q:Q (.bl (decide (ds.length+1=n/\x=y)),S)):W (dI 3 gr [.tup (.str x::ds),.str y,.int n] S) Q:=by
 have a:D.unds 0 (.str x::ds)=M:=by rw[D.unds,c];rfl
 refine fC O (by rw[D.unds,D.und,a];rfl) ?_;unfold gr;refine i6 ?_;unfold nq;have b:∀S,dL (.tup (.str x::ds)) (.int 0) S=Z (.str x,S):=λS=>Hb (i:=0) O;walk_at"w";by_cases h:ds.length+1=n
 ·refine w8 a (by rw[lC1];exact h) ?_
  wp_walk using tN,b,JM
  have e:decide (ds.length+1=n/\x=y)=(x == y):=by rw[bO];simp[h]
  rw[e]at q;exact⟨O,q⟩
 ·refine Fg a (by rw[lC1];exact h) ?_;walk_at"w";have e:decide (ds.length+1=n/\x=y)=J:=by simp[h]
  rw[e]at q;exact⟨O,q⟩
theorem A9{w:dJ}{b:Bool}{a:List Int}(hw:WebJ m w)(hm:m<=8)(ht:a.length=m)(q:Q (.bl (vC m w ws cs a),S)):W (dI 4 d2 [webD w,ol ws cs,.bl b,KF a] S) Q:=by
 refine fC O (by rw[D.unds,D.unds,D.unds,D.unds,eB,my,Gv];rfl) ?_;unfold d2;refine i6 ?_;unfold iK;have c:∀S,dL (KF a) (.int 1) S=Z (iz a,S):=λS=>Hb (i:=1) O;walk_at"w";refine wj (x:="colours") (y:="colours") (n:=2) (ds:=[iz a]) (by rw[D.unds,gA];rfl) ?_;walk_at"w";refine Dx hw hm ?_
 wp_walk using c
 refine xW hw hm nO ht ?_;unfold vC at q;cases hf:tf (Fit m w (sgL m ws cs M) a)with
 |false=>
  rw[hf]at q;walk_at"w";exact⟨O,q⟩
 |true=>
  rw[hf]at q
  wp_walk using c
  refine KJ (by lia) ?_;walk_at"w";rw[ht];refine⟨O,?_⟩;simpa using q
theorem nZ(q:Q (.bl (decide (i<n)),S)):W (dI 2 gI [.int i,.int n] S) Q:=by
 refine fC O O ?_;unfold gI;refine i6 ?_;unfold pH;walk_at"w";refine wX ?_;walk_at"w";unfold LG;walk_at"w";rw[ah (show(0:Int)<=(i:Int) by lia)];walk_at"w";refine⟨O,?_⟩;have:decide ((i:Int)<(n:Int))=decide (i<n):=by rw[bO];simp
 rw[this];exact q
theorem yE(hi:i<rs.length):dL (.tup (nmD rs)) (.int i) S=Z (.int (rs.getD i 0:Nat),S):=by
 obtain⟨p,e,rfl⟩:=vt (rs:=rs) (Q:=λp=>p=(.int (rs.getD i 0:Nat),S)) hi O;exact e
theorem Bj{w:dJ}{a:List Int}(hw:WebJ m w)(d:0<m)(hm:m<=8)(ht:a.length=m)(c:∀x∈ws,x<m)(hi:i<ws.length)(e:j<ws.length)(q:Q (.bl (vA m w ws cs M i j a),S)):W (dI 3 gb [webD w,ol ws cs,D3 i j a] S) Q:=by
 refine fC O (by rw[D.unds,D.unds,D.unds,eB,my,yC];rfl) ?_;unfold gb;refine i6 ?_;unfold kY;refine d4 (λr V=>V=[]/\r=[Z (webD w),Z (ol ws cs),Z (D3 i j a),Z (.tup (nmD ws)),Z (.tup (nmD cs)),Y,Y,Y,Y]) ?_ ?_
 ·unfold ol;walk_at"w"
 rintro r V ⟨rfl,rfl⟩;refine d4 (λr V=>V=[]/\r=[Z (webD w),Z (ol ws cs),Z (D3 i j a),Z (.tup (nmD ws)),Z (.tup (nmD cs)),Z (.str "alike"),Z (.int (i:Nat)),Z (.int (j:Nat)),Z (iz a)]) ?_ ?_
 ·unfold D3;walk_at"w"
 rintro r V ⟨rfl,rfl⟩;have f:∀S,eD (.tup (nmD ws)) S=Z (.int (ws.length:Nat),S):=λS=>by rw[hU,ej]
 unfold vA at q;by_cases b:i<j
 ·refine d4 (λr V=>V=[]/\r=[Z (webD w),Z (ol ws cs),Z (D3 i j a),Z (.tup (nmD ws)),Z (.tup (nmD cs)),Z (.str "alike"),Z (.int (i:Nat)),Z (.int (j:Nat)),Z (iz a)]) ?_ ?_
  ·walk_at"w";rw[ej];refine nZ ?_;rw[ah e];walk_at"w";refine nZ ?_;rw[ah b];walk_at"w"
  rintro r V ⟨rfl,rfl⟩;walk_at"w";refine tE (ws:=ws) hw hm ?_;refine xW hw hm nO ht ?_;cases hf:tf (Fit m w (sgL m ws cs J) a)with
  |false=>
   rw[hf]at q;walk_at"w";exact⟨O,q⟩
  |true=>
   rw[hf,ah b]at q;have a1:=yE (S:=([]:Sto)) hi;have a2:=yE (S:=([]:Sto)) e;have b1:=Hc (S:=([]:Sto)) ht (kq (i:=i) d c);have b2:=Hc (S:=([]:Sto)) ht (kq (i:=j) d c)
   wp_walk using a1,a2,b1,b2
   exact⟨O,q⟩
 ·unfold dP;rw[dN];walk_at"w";rw[ej];refine nZ ?_;rw[ah e];walk_at"w";refine nZ ?_;rw[ai b]at q ⊢;walk_at"w";refine⟨O,?_⟩;simpa using q
theorem Ba{w:dJ}{b:Bool}{a:List Int}(hw:WebJ m w)(e:0<m)(hm:m<=8)(ht:a.length=m)(d:∀x∈ws,x<m)(hi:i<ws.length)(f:j<ws.length)(q:Q (.bl (vA m w ws cs b i j a),S)):W (dI 4 d2 [webD w,ol ws cs,.bl b,D3 i j a] S) Q:=by
 refine fC O (by rw[D.unds,D.unds,D.unds,D.unds,eB,my,yC];rfl) ?_;have c:D.unds 0 [.int (i:Nat),.int (j:Nat),iz a]=M:=by rw[D.unds,D.unds,D.unds,gA];rfl
 unfold d2;refine i6 ?_;unfold iK;walk_at"w";refine wj (x:="alike") (y:="colours") (n:=2) (ds:=[.int (i:Nat),.int (j:Nat),iz a]) c ?_;walk_at"w";cases b with
 |false=>
  walk_at"w";exact⟨O,q⟩
 |true=>
  walk_at"w";refine wj (x:="alike") (y:="alike") (n:=4) (ds:=[.int (i:Nat),.int (j:Nat),iz a]) c ?_;walk_at"w";refine Bj hw e hm ht d hi f ?_;exact⟨O,q⟩
structure DF (m:Nat)(w:dJ):Prop where
 len:w.length=m
 le:∀row∈w,row.length<=4
 to:∀row∈w,∀e∈row,∃r,w[e.1]?=some r/\e.2<r.length
theorem BC{items:List D}{k:Int}{j:Option D}{Q:List D×Ev×Sto->Prop}(ho:fw o n)(hn:n+items.length<=2^50)(hk:0<k)(f:k<1073741824)(h:∀xs o' m,fw o' (n+items.length)->xs.Sublist items->Q (xs,[m,some (.ref 0)],o'::T)):
  W (fH [] (gN 0) (mB (m2 (b2 gEq) (mN (dI 2 dM) (dG (mV 1) (dG (mC (D.int k)) dH))) (mC (D.int (0))))) (ee (mV 0)) items [j,Z (.ref 0)] (o::T)) Q:=by
 refine iE (λi c r S=>∃o x,S=o::T/\r=[x,Z (.ref 0)]/\fw o (n+i)/\i<=items.length/\c.Sublist (items.take i)) items 0 [] _ _ ⟨o,j,O,O,by simpa using ho,by lia,by simp⟩ (λ_ _ _ _ _=>rfl) ?_ ?_
 ·rintro i d g c r S ⟨o,x,rfl,rfl,ho,hi,a⟩;have p:i<items.length:=(R1 g).1;have l:items.take (i+1)=items.take i++[d]:=by rw[cg,g];rfl
  walk_at"w";refine fD ho (by lia) hk f λe o' b q=>?_;walk_at"w";split
  ·exact⟨o',Z d,O,O,b.more (by lia),by lia,by rw[bL,l];simp at a;exact a.append (List.Sublist.refl _)⟩
  ·exact⟨o',Z d,O,O,b.more (by lia),by lia,by rw[bL,l];simp at a;exact a.trans (List.sublist_append_left _ _)⟩
 ·rintro xs r S ⟨o,x,rfl,rfl,ho,_,a⟩;refine h _ _ _ (by simpa using ho) (by simpa using a)
theorem Hm{w:dJ}{row:List (Nat×Nat)}(h:w[i]?=Z row)(q:Q (.tup (row.map pD),S)):W (dL (webD w) (.int i) S) Q:=
 hP (x:=.tup (row.map pD)) (by rw[gP1,h];rfl) q
noncomputable def crowd(ws:List Wk)(rm:Nat):Nat:=(ws.filter λu=>u.1 == rm).length
def Bi(a b c d:Bool)(ws:List Wk)(cs:List Nat)(u:Wk)(row:List (Nat×Nat)):D:=
 vS a b c d u.2.1 (if cs.contains u.1 then 1 else 0) row.length (if 1<crowd ws u.1 then 1 else 0)
theorem zL{ws:List Wk}{c:Option D}{Q:List D×Ev×Sto->Prop}(h:∀ b,Q ((ws.filter fun u=>u.1 == a).map gz,b,S)):
  W (fH [] (gN 0) (mB (m2 (b2 gEq) (m2 (b2 dL) (mV 0) (mC (D.int (0)))) (mV 1))) (ee (mV 0)) (fu ws) [c,Z (.int a)] S) Q:=by
 refine iH (λu:Wk=>u.1 == a) gz (λr=>∃x,r=[x,Z (.int a)]) O ws _ ⟨_,O⟩ ?_ λb _=>h b;rintro u d r ⟨x,rfl⟩;walk_at"w";refine hP (i:=0) O ?_;walk_at"w";refine⟨?_,⟨_,O⟩,λ_=>trivial⟩;rw[bO,RO,RO];lia
theorem L3 {w x y z:D}{r:Ev}{m1 m2 b a:FE}(h1:m1 r S=some (w,S))(h2:m2 r S=some (x,S))(d:b r S=some (y,S))(c:a r S=some (z,S))
  (q:Q (.ref S.length,S++[.dct [(.inr "came",w),(.inr "chalk",x),(.inr "doors",y),(.inr "others",z)]])):
  W (xL [(mC (.str "came"),m1),(mC (.str "chalk"),m2),(mC (.str "doors"),b),(mC (.str "others"),a)] r S) Q:=by
 refine W.of ?_ q;simp only[xL,FC,mC,h1,h2,d,c,oS1,oP1,xU,nH];rfl
theorem F4 {w x y z:D}(h:S[n]? = some (.dct [(.inr "came",w),(.inr "chalk",x),(.inr "doors",y),(.inr "others",z)])):
  dL (.ref n) (.str "came") S=Z (w,S)/\dL (.ref n) (.str "chalk") S=Z (x,S)/\dL (.ref n) (.str "doors") S=Z (y,S)/\dL (.ref n) (.str "others") S=Z (z,S):=by
 refine⟨?_,?_,?_,?_⟩<;>(simp only[dL,h,mQ,nH,oS1];rfl)
noncomputable def ww:Nat->D
 |0=>.str "came" |1=>.str "chalk" |2=>.str "doors" |_=>.str "others"
noncomputable def G7:Nat->D
 |0=>.int 5|1=>.int 2|2=>.int 5|_=>.int 2
noncomputable def kP(a b c d:Bool)(w x y z:Int):Nat->D
 |0=>if a then .int w else .non
 |1=>if b then .int x else .non
 |2=>if c then .int y else .non
 |_=>if d then .int z else .non
theorem BK {a b c d:Bool}{w x y z:Int}(h:S[n]? = some (.dct [(.inr "came",.int w),(.inr "chalk",.int x),(.inr "doors",.int y),(.inr "others",.int z)]))(hi:i∈[0,1,2,3]){r:Ev}{f g:Nat}
  (h1:r[f]?=Z (Z (ww i))) (h2:r[j]?=Z (Z (.tup (gg a b c d)))) (e:r[g]?=Z (Z (.ref n))):
  uE (mB (m2 (b2 jR) (mV f) (mV j))) (m2 (b2 dL) (mV g) (mV f)) (mC D.non) r S=Z (kP a b c d w x y z i,S):=by
 obtain⟨m,o,l,k⟩:=F4 h;simp only[aF,bI,Rm]at hi;rcases hi with rfl|rfl|rfl|rfl
 ·cases a<;>simp only[uE,mB,m2,b2,mV,h1,h2,e,ww,oS1,Ga,m,kP,mC]<;>rfl
 ·cases b<;>simp only[uE,mB,m2,b2,mV,h1,h2,e,ww,oS1,CA,o,kP,mC]<;>rfl
 ·cases c<;>simp only[uE,mB,m2,b2,mV,h1,h2,e,ww,oS1,Cz,l,kP,mC]<;>rfl
 ·cases d<;>simp only[uE,mB,m2,b2,mV,h1,h2,e,ww,oS1,zF,k,kP,mC]<;>rfl
theorem Ex{w:dJ}{ws:List Wk}{a b c d:Bool}{k:Nat}{u:Wk}{row:List (Nat×Nat)}(l:ws[k]? = Z u)(hr:w[u.1]? = Z row)(o:ws.length<=1000)(q:Q (Bi a b c d ws cs u row,S)):W (dI 4 ix [webD w,.tup (gg a b c d),eF ws cs,.int k] S) Q:=by
 refine fC O (by simp[D.unds,eB,ia];rw[D.und];exact⟨uZ a b c d,O⟩) ?_;unfold ix;refine i6 ?_;unfold pE;refine d4 (λr S=>S=[]/\r=[Z (webD w),Z (.tup (gg a b c d)),Z (eF ws cs),Z (.int k),Z (.tup (fu ws)),Z (.tup (nmD cs)),Y,Y,Y,Y,Y]) ?_ ?_
 ·rw[eF];walk_at"w"
 rintro r S ⟨rfl,rfl⟩;refine d4 (λr S=>S=[]/\r=[Z (webD w),Z (.tup (gg a b c d)),Z (eF ws cs),Z (.int k),Z (.tup (fu ws)),Z (.tup (nmD cs)),Z (.int u.1),Z (.int u.2.1),Z (.int u.2.2),Y,Y]) ?_ ?_
 ·walk_at"w";refine hP (i:=k) (x:=gz u) (by rw[fu,gP1,l];rfl) ?_;rw[gz];walk_at"w"
 rintro r S ⟨rfl,rfl⟩;refine d4 (λr S=>S=[.lst ((ws.filter λv=>v.1 == u.1).map gz)]/\r=[Z (webD w),Z (.tup (gg a b c d)),Z (eF ws cs),Z (.int k),Z (.tup (fu ws)),Z (.tup (nmD cs)),Z (.int u.1),Z (.int u.2.1),Z (.int u.2.2),Z (.ref 0),Y]) ?_ ?_
 ·walk_at"w";rw[ik];refine zL λm=>?_;walk_at"w";have:=cX (λv:Wk=>v.1 == u.1) ws;have h2:((ws.filter λv:Wk=>v.1 == u.1).map gz).length<=100000:=by rw[lM1];lia
  exact⟨dR h2,trivial⟩
 rintro r S ⟨rfl,rfl⟩;generalize h:[Ob.lst ((ws.filter λv=>v.1 == u.1).map gz)]=S1;have f:S1[0]?=Z (Ob.lst ((ws.filter λv=>v.1 == u.1).map gz)):=by rw[<- h];rfl
 refine d4 (λr S=>S=S1++[.dct [(.inr "came",.int u.2.1),(.inr "chalk",.int (if cs.contains u.1 then 1 else 0)),(.inr "doors",.int row.length),(.inr "others",.int (if 1<crowd ws u.1 then 1 else 0))]]/\r=[Z (webD w),Z (.tup (gg a b c d)),Z (eF ws cs),Z (.int k),Z (.tup (fu ws)),Z (.tup (nmD cs)),Z (.int u.1),Z (.int u.2.1),Z (.int u.2.2),Z (.ref 0),Z (.ref S1.length)]) ?_ ?_
 ·unfold dS;rw[dN];have hc:(List.map gz (ws.filter λv=>v.1 == u.1)).length=crowd ws u.1:=by rw[lM1];rfl
  refine L3 (w:=.int u.2.1) (x:=.int (if cs.contains u.1 then 1 else 0)) (y:=.int row.length) (z:=.int (if 1<crowd ws u.1 then 1 else 0)) O ?_ ?_ ?_ ?_
  ·simp only[uE,mB,m2,b2,mV,gC1,cS,oS1,Cy,mC];split<;>rfl
  ·have:W (dL (webD w) (.int u.1) S1) λp=>p=(.tup (row.map pD),S1):=Hm hr O;obtain⟨p,e,rfl⟩:=this;simp only[mN,dG,dH,m2,b1,b2,mV,gC1,cS,oS1,e,hU,lM1]
  ·simp only[uE,mB,mN,dG,dH,m2,b1,b2,mV,mC,gC1,cS,oS1,eD,fS f,oP1,jj,hc];by_cases h1:1<crowd ws u.1
   ·rw[ak h1,ak (by rw[am];lia)]
   ·rw[aj h1,aj (by rw[am];lia)]
  ·walk_at"w"
 rintro r S ⟨rfl,rfl⟩;generalize n:S1++[Ob.dct [(.inr "came",.int u.2.1),(.inr "chalk",.int (if cs.contains u.1 then 1 else 0)),(.inr "doors",.int row.length),(.inr "others",.int (if 1<crowd ws u.1 then 1 else 0))]]=S2;have g:S2[S1.length]?=Z (Ob.dct [(.inr "came",.int u.2.1),(.inr "chalk",.int (if cs.contains u.1 then 1 else 0)),(.inr "doors",.int row.length),(.inr "others",.int (if 1<crowd ws u.1 then 1 else 0))]):=by rw[<- n,dQ];rfl
 walk_at"w";have j:kw = .tup ([0,1,2,3].map λi:Nat=>D.tup [ww i,G7 i]):=rfl;rw[j,ik];refine js (kP a b c d u.2.1 (if cs.contains u.1 then 1 else 0) row.length (if 1<crowd ws u.1 then 1 else 0)) (λr=>∃x y,r=[x,y,Z (.tup (gg a b c d)),Z (.ref S1.length)]) O _ _ ⟨_,_,O⟩ ?_ ?_
 ·rintro i hi r ⟨x,y,rfl⟩;refine⟨([Z (ww i),Z (G7 i),Z (.tup (gg a b c d)),Z (.ref S1.length)],S2),O,?_⟩;refine⟨(M,S2),O,O,?_⟩;exact⟨_,BK g hi O O O,O,O,_,_,O⟩
 ·rintro m _;walk_at"w";refine ei (xs:=[kP a b c d u.2.1 (if cs.contains u.1 then 1 else 0) row.length (if 1<crowd ws u.1 then 1 else 0) 0,kP a b c d u.2.1 (if cs.contains u.1 then 1 else 0) row.length (if 1<crowd ws u.1 then 1 else 0) 1,kP a b c d u.2.1 (if cs.contains u.1 then 1 else 0) row.length (if 1<crowd ws u.1 then 1 else 0) 2,kP a b c d u.2.1 (if cs.contains u.1 then 1 else 0) row.length (if 1<crowd ws u.1 then 1 else 0) 3]) (by rw[dQ];rfl) ?_;exact⟨yW,q⟩
noncomputable def pt(b:Bool)(x:Nat):D:=if b=M then .int x else .non
def N7(a b c d:Bool)(x y z w:Nat):D:=.tup [pt a x,pt b y,pt c z,pt d w]
noncomputable def rf:List D:=[.str "leave",.str "mark",.str "wipe"]
noncomputable def qm:List D:=[.non,.int 0,.int 1,.int 2,.int 3]
structure ms (x:D):Prop where
 is:∃m h t,x = .tup [.int (m:Nat),h,t]/\m<4000/\h∈rf/\t∈qm
theorem ms.und{x:D}(h:ms x):x.und 0=M:=by
 obtain⟨m,x,t,rfl,_,h1,h2⟩:=h.is;have b:x.und 0=M:=by simp[rf]at h1;rcases h1 with z|z|z<;>subst z<;>rfl
 have a:t.und 0=M:=by simp[qm]at h2;rcases h2 with z|z|z|z|z<;>subst z<;>rfl
 simp[D.und,D.unds,b,a]
noncomputable def cx(b:Bool)(x:Nat):Nat:=if b=M then x else 0
def rz:List Bool->List Nat->Nat
 |b::bs,x::xs=>cx b x*8^bs.length+rz bs xs
 |_,_=>0
theorem tF:∀{bs:List Bool} {xs:List Nat},(∀x∈xs,x<=7)->rz bs xs<8^bs.length
 |[],_,_=>by rw[rz];simp;simp
 |b::bs,[],_=>by
  rw[rz]
  ·exact Nat.pos_of_ne_zero (by simp)
  ·simp
 |b::bs,x::xs,h=>by
  have h1:=tF (bs:=bs) λy a=>h y (mC1 _ a);have h2:cx b x<=7:=by unfold cx;split;exact h x mS1;lia
  rw[rz,lC1,Nat.pow_succ];have c:cx b x*8^bs.length<=7*8^bs.length:=c8 _ h2;lia
theorem O2{xs ys:List D}:i7 S (n+1) (.tup xs) (.tup ys)=wz (i7 S n) xs ys:=by
 rw[i7];simp[dZ]
theorem LZ{b:Bool}{x y:Nat}:i7 S (n+1) (pt b x) (pt b y)=Z (decide (cx b x=cx b y)):=by
 cases b with
 |false=>rfl
 |true=>
  show Z ((x:Int) == (y:Int))=Z (decide (x=y))
  congr 1
  rw[bO,RO,am];lia
theorem Og{A B P u v:Nat}(a:u<P)(hv:v<P):(A*P+u=B*P+v↔A=B/\u=v)/\(A*P+u<B*P+v↔A<B\/(A=B/\u<v)):=by
 rcases b8 A B with h|h|h
 ·have:=c8 P (show A+1<=B from h);rw[Nat.succ_mul]at this;constructor<;>lia
 ·subst h;constructor<;>lia
 ·have:=c8 P (show B+1<=A from h);rw[Nat.succ_mul]at this;constructor<;>lia
theorem C0{S:Sto}{n:Nat}:∀ {bs:List Bool} {xs ys:List Nat},xs.length=bs.length->ys.length=bs.length->(∀ x∈xs,x<=7)->(∀ y∈ys,y<=7) ->
  wz (i7 S (n+1)) (List.zipWith pt bs xs) (List.zipWith pt bs ys)=Z (decide (rz bs xs=rz bs ys))
 |[],xs,ys,_,_,_,_=>by simp[wz,rz]
 |b::bs,[],ys,h,_,_,_=>by simp at h
 |b::bs,x::xs,[],_,h,_,_=>by simp at h
 |b::bs,x::xs,y::ys,h1,h2,hx,hy=>by
  have ih:=C0 (S:=S) (n:=n) (bs:=bs) (xs:=xs) (ys:=ys) (by simpa using h1) (by simpa using h2) (λz a=>hx z (mC1 _ a)) (λz a=>hy z (mC1 _ a));have b1:=tF (bs:=bs) (xs:=xs) λz a=>hx z (mC1 _ a);have b2:=tF (bs:=bs) (xs:=ys) λz a=>hy z (mC1 _ a);rw[List.zipWith_cons_cons,List.zipWith_cons_cons,wz,LZ,ih,rz,rz];have c:=(Og (A:=cx b x) (B:=cx b y) b1 b2).1;rw[oS1,oP1]
  congr 1
  rw[bO,bA1,am,am,am];exact c.symm
structure Ky where
 m:Nat
 x:Nat
 y:Nat
 z:Nat
 w:Nat
structure Ky.Ok (k:Ky):Prop where
 m:k.m<4000
 x:k.x<=4
 y:k.y<=4
 z:k.z<=4
 w:k.w<=4
abbrev E4:=Bool×Bool×Bool×Bool
noncomputable def E4.bs(e:E4):List Bool:=[e.1,e.2.1,e.2.2.1,e.2.2.2]
noncomputable def Ky.xs(k:Ky):List Nat:=[k.x,k.y,k.z,k.w]
noncomputable def MC(b:Bool)(x:Nat):TK:=if b=M then .int x else .non
def Ky.sg(k:Ky)(e:E4):D:=N7 e.1 e.2.1 e.2.2.1 e.2.2.2 k.x k.y k.z k.w
def Ky.d(k:Ky)(e:E4):D:=.tup [.int k.m,k.sg e]
def Ky.tk(k:Ky)(e:E4):TK:=.tup [.int k.m,.tup [MC e.1 k.x,MC e.2.1 k.y,MC e.2.2.1 k.z,MC e.2.2.2 k.w]]
def Ky.code(k:Ky)(e:E4):Nat:=k.m*4096+rz e.bs k.xs
theorem Ky.keyT(k:Ky)(e:E4):Mi.keyT (k.d e)=Z (k.tk e):=by
 obtain⟨a,b,c,d⟩:=e;cases a<;>cases b<;>cases c<;>cases d<;>rfl
theorem Ky.tkD(k:Ky)(e:E4):Mi.tkD (k.tk e)=k.d e:=(lW (k.keyT e)).1
theorem Ky.sg_zip(k:Ky)(e:E4):k.sg e = .tup (List.zipWith pt e.bs k.xs):=rfl
theorem Ky.Ok.all{k:Ky}(h:k.Ok):∀x∈k.xs,x<=7:=by
 intro x a;have:=h.x;have:=h.y;have:=h.z;have:=h.w
 simp[Ky.xs]at a;lia
theorem jU{k:Ky}(h:k.Ok)(e:E4):rz e.bs k.xs<4096:=tF (bs:=e.bs) h.all
theorem Ky.und(k:Ky)(e:E4)(n:Nat):(k.d e).und n=M:=by
 rw[<- k.tkD e];exact AF _
theorem Ky.sgu(k:Ky)(e:E4)(n:Nat):(k.sg e).und n=M:=by
 have:=k.und e n;unfold Ky.d at this;simp only[D.und,D.unds,bJ,Bool.true_and]at this;exact this
abbrev Rw:=Ky×D
def fT(e:E4)(p:Rw):D:=.tup [p.1.d e,p.2]
def pN(p:Rw):Prop:=p.1.Ok/\ms p.2
theorem Ma(a b c d x y z w:_):rz [a,b,c,d] [x,y,z,w]=((cx a x*8+cx b y)*8+cx c z)*8+cx d w:=by
 simp only[rz,lC1,bf];lia
def Inc(e:E4)(L:List Rw):Prop:=L.Pairwise λp q=>p.1.code e<q.1.code e
theorem uY{α:Type}{f:α->Nat}{c:Nat}{a:α}:∀{l:List α},(l.map f).Nodup->((l.find? λx=>decide (f x=c))=Z a↔a∈l/\f a=c)
 |[],_=>by simp
 |b::l,nd=>by
  rw[mP1,aO]at nd;rw[bc];by_cases z:f b=c
  ·rw[ah z];constructor
   ·intro h;cases h;exact⟨mS1,z⟩
   ·rintro⟨h1,h2⟩;rcases aF.mp h1 with y|y
    ·rw[y]
    ·exact absurd (cf.mpr ⟨a,y,h2.trans z.symm⟩) nd.1
  ·rw[ai z];show(l.find? λx=>decide (f x=c))=Z a↔_;rw[uY nd.2];constructor
   ·rintro⟨h1,h2⟩;exact⟨mC1 _ h1,h2⟩
   ·rintro⟨h1,h2⟩;rcases aF.mp h1 with y|y
    ·rw[y]at h2;exact absurd h2 z
    ·exact⟨y,h2⟩
theorem Inc.le(h:Inc e L)(ok:∀p∈L,pN p){p q:Rw}(hi:L[i]?=Z p)(a:L[j]?=Z q)(g:i<=j):p.1.m<=q.1.m/\(i<j->p.1.code e<q.1.code e):=by
 have f:=(ok p (gM1 hi)).1;have b:=(ok q (gM1 a)).1;by_cases z:i=j
 ·subst z;rw[hi]at a;cases a;exact⟨nR1 _,λz=>by lia⟩
 ·obtain⟨h1,d⟩:=R1 hi;obtain⟨h2,c⟩:=R1 a;have:=b7.mp h i j h1 h2 (by lia);rw[d,c]at this;refine⟨?_,λ_=>this⟩;have l:=jU f e;have k:=jU b e;unfold Ky.code at this;lia
theorem Nz{p:Rw}(h:L[i]?=Z p):dL (.tup (L.map (fT e))) (.int (i:Nat)) S=Z (fT e p,S):=by
 obtain⟨x,b,a⟩:=(hP (i:=i) (xs:=L.map (fT e)) (x:=fT e p) (S:=S) (Q:=λx=>x=(fT e p,S)) (by rw[gP1,h];rfl) O);rw[b,a]
theorem NA{p:Rw}:dL (fT e p) (.int 0) S=Z (p.1.d e,S):=rfl
theorem OU{p:Rw}:dL (fT e p) (.int 1) S=Z (p.2,S):=rfl
theorem Oe{k:Ky}:dL (k.d e) (.int 0) S=Z (.int k.m,S):=rfl
theorem OT{k:Ky}:dL (k.d e) (.int 1) S=Z (k.sg e,S):=rfl
theorem oA(ok:∀p∈L,pN p)(n:Nat):(D.tup (L.map (fT e))).und n=M:=by
 rw[D.und];refine Mi.eE λp a=>?_;have h1:=p.1.und e n;have h2:=ig (n:=n) (ok p a).2.und;simp[fT,D.und,D.unds,h1,h2]
theorem JA:eD (.tup (L.map (fT e))) S=Z (.int L.length,S):=by simp[eD,dZ]
theorem Gp{q:Nat}(c:Inc e L)(ok:∀ p∈L,pN p)(v:L.length<=4000)(h:∀a:Nat,a<=L.length->(∀i p,L[i]?=Z p->i<a->p.1.m<q)->(∀i p,L[i]?=Z p->a<=i->q<=p.1.m)->Q (.int a,S)):W (dI 2 iy [.tup (L.map (fT e)),.int (q:Nat)] S) Q:=by
 refine fC O (by rw[D.unds,oA ok,D.unds,D.und];rfl) ?_;unfold iy;refine i6 ?_;unfold pI;generalize s:D.tup (L.map (fT e))=R;refine d4 (λr S=>S=[]/\r=[Z R,Z (.int (q:Nat)),Z (.int ((0:Nat):Int)),Y,Y]) ?_ ?_
 ·walk_at"w";rfl
 rintro r l ⟨rfl,rfl⟩;refine d4 (λr S=>S=[]/\r=[Z R,Z (.int (q:Nat)),Z (.int ((0:Nat):Int)),Z (.int (L.length:Nat)),Y]) ?_ ?_
 ·subst s
  wp_walk using JA
  rw[lM1]
 rintro r l ⟨rfl,rfl⟩;refine d4 (λr S=>∃(a:Nat) (g:Option D),S=[]/\a<=L.length/\(∀i p,L[i]?=Z p->i<a->p.1.m<q)/\(∀i p,L[i]?=Z p->a<=i->q<=p.1.m)/\r=[Z R,Z (.int (q:Nat)),Z (.int (a:Nat)),Z (.int (a:Nat)),g]) ?_ ?_
 ·refine tU (λk r S=>∃(a high:Nat) (g:Option D),S=[]/\a<=high/\high<=L.length/\high-a+k<=L.length/\(∀i p,L[i]?=Z p->i<a->p.1.m<q)/\(∀i p,L[i]?=Z p->high<=i->q<=p.1.m)/\r=[Z R,Z (.int (q:Nat)),Z (.int (a:Nat)),Z (.int (high:Nat)),g]) L.length ?_ 100000 0 _ _ (by lia) ⟨0,L.length,_,O,by lia,by lia,by lia,λi p _ z=>by lia,λi p f z=>?_,O⟩
  ·rintro k r S ⟨a,high,g,rfl,h1,h2,m,n,o,rfl⟩;unfold lN;walk_at"w";by_cases z:a<high
   ·rw[ak (by rw[am];lia)];refine⟨by lia,?_⟩;unfold lM;have d:(a+high)/2<L.length:=by lia
    obtain⟨p,f⟩:∃p,L[(a+high)/2]?=some p:=⟨_,gG1 d⟩;have j:nK (.int ((a:Int)+(high:Int))) (.int 2) []=Z (.int (((a+high)/2:Nat):Int),[]):=by
     simp only[nK];rw[ak ⟨by lia,by lia⟩]
     push_cast
     rfl
    subst s
    wp_walk using j,Nz f,NA,Oe
    by_cases t:p.1.m<q
    ·rw[ak (by rw[am];lia)];refine⟨(a+high)/2+1,high,_,by lia,h2,by lia,λi u b hi=>?_,o,by push_cast;rfl⟩;exact bF (c.le ok b f (by lia)).1 t
    ·rw[aj (by rw[am];lia)];refine⟨a,(a+high)/2,_,by lia,by lia,by lia,n,λi u b hi=>?_,O⟩;exact aD (by lia) (c.le ok f b hi).1
   ·rw[aj (by rw[am];lia)];have:a=high:=by lia
    subst this;exact⟨a,_,h2,n,o,O⟩
  ·have:=(R1 f).1;lia
 rintro r l ⟨a,g,rfl,h1,h2,m,rfl⟩;walk_at"w";exact⟨O,h a h1 h2 m⟩
theorem Az{c:FT}{b:FS}{Q:Fl×Ev×Sto->Prop}(I:Nat->Ev->Sto->Prop)(N:Nat)(step:∀k r S,I k r S->W (c r S) fun p=>if p.1=true then k<N/\W (b r p.2) fun q=>(q.1 = .nx/\I (k+1) q.2.1 q.2.2) \/ ∃d,q.1 = .rt d/\Q q else Q (.nx,r,p.2)):
  ∀(a k:Nat) (r:Ev) (S:Sto),N-k<a->I k r S->W (ql c b a r S) Q
 |0,k,r,S,hf,_=>by lia
 |a+1,k,r,S,hf,hi=>by
  rw[ql];dsimp only;rw[dN];obtain⟨⟨t,u⟩,e,h⟩:=step k r S hi;refine⟨_,e,?_⟩;dsimp only at h ⊢;cases t with
  |true=>
   rw[ak O]at h ⊢;obtain⟨s,⟨f,l,m⟩,o,j⟩:=h;rw[o,oS1];rcases j with⟨g,i⟩|⟨d,g,n⟩
   ·dsimp only at g i;subst g;exact Az I N step a (k+1) l m (by lia) i
   ·dsimp only at g;subst g;exact dV.mpr n
  |false=>
   rw[aj (by decide)]at h ⊢;exact dV.mpr h
theorem LY{k l:Ky}(hk:k.Ok)(a:l.Ok):gEq (k.sg e) (l.sg e) S=Z (.bl (decide (rz e.bs k.xs=rz e.bs l.xs)),S):=by
 show(i7 S (58+1+1) (k.sg e) (l.sg e)).map _=_;rw[Ky.sg_zip,Ky.sg_zip,O2,C0 O O hk.all a.all];rfl
theorem Inc.nd:∀{L:List Rw},Inc e L->(L.map λp=>p.1.code e).Nodup:=λh=>
 cR.mpr (List.Pairwise.imp (λz=>nN1 z) h)
noncomputable def C7(k:Ky):D:=.tup [.int k.m,.str "leave",.non]
def lm(e:E4)(L:List Rw)(k:Ky):D:=((L.find? λp=>decide (p.1.code e=k.code e)).map (·.2)).getD (C7 k)
theorem C8{k:Ky}{E:D}(m:Inc e L)(ok:∀ p∈L,pN p)(av:L.length<=4000)(hk:k.Ok)(N:E.und 0=M)(q:Q (lm e L k,S)):W (dI 3 gJ [.tup [E,.tup (L.map (fT e))],.int k.m,k.sg e] S) Q:=by
 refine fC O (by
  have C:=oA (e:=e) ok 0;have r2:=k.sgu e 0;rw[D.und]at C;simp[D.unds,D.und,N,C,r2]) ?_
 unfold gJ;refine i6 ?_;unfold rO;generalize K:D.tup [E,.tup (L.map (fT e))]=aq;refine d4 (λr S=>S=[]/\r=[Z aq,Z (.int k.m),Z (k.sg e),Z (.tup (L.map (fT e))),Y]) ?_ ?_
 ·subst K;have ao:dL (.tup [E,.tup (L.map (fT e))]) (.int 1) []=Z (.tup (L.map (fT e)),[]):=rfl
  wp_walk using ao
 rintro r F ⟨rfl,rfl⟩;refine d4 (λr S=>∃a:Nat,S=[]/\a<=L.length/\(∀i p,L[i]?=Z p->i<a->p.1.m<k.m)/\(∀i p,L[i]?=Z p->a<=i->k.m<=p.1.m)/\r=[Z aq,Z (.int k.m),Z (k.sg e),Z (.tup (L.map (fT e))),Z (.int (a:Nat))]) ?_ ?_
 ·walk_at"w";refine Gp m ok av λa h1 h2 t=>?_;exact⟨a,O,h1,h2,t,O⟩
 rintro r F ⟨a,rfl,h1,h2,t,rfl⟩;have hnd:=m.nd;have d:(∀(i:Nat) (p:Rw),L[i]?=Z p->p.1.code e≠k.code e)->lm e L k=C7 k:=λh=>by
  unfold lm;rw[List.find?_eq_none.mpr λp c=>?_]
  ·rfl
  ·obtain⟨i,hi⟩:=bq c;rw[am];exact h i p hi
 have o:∀p,p∈L->p.1.m≠k.m->p.1.code e≠k.code e:=λp c w z=>by
  have:=(Og (A:=p.1.m) (B:=k.m) (jU (ok p c).1 e) (jU hk e)).1.mp z;exact w this.1
 unfold dP;refine dN.mpr ?_;refine Az (λj r S=>S=[]/\a+j<=L.length/\(∀i p,L[i]?=Z p->i<a+j->p.1.code e≠k.code e)/\r=[Z aq,Z (.int k.m),Z (k.sg e),Z (.tup (L.map (fT e))),Z (.int ((a+j:Nat):Int))]) L.length ?_ 100000 0 _ _ (by lia) ⟨O,by lia,λi p c hi=>o p (gM1 c) (by have:=h2 i p c (by lia);lia),O⟩;rintro j r S ⟨rfl,P,v,rfl⟩;unfold nf;by_cases y:a+j<L.length
 ·obtain⟨p,c⟩:∃p,L[a+j]?=some p:=⟨_,gG1 y⟩;have l:=gM1 c
  wp_walk using JA,Nz c,NA,Oe,lM1
  rw[ak (by rw[am];lia)];by_cases H:p.1.m=k.m
  ·rw[ak (by rw[RO];lia)];refine⟨by lia,?_⟩;unfold nb
   wp_walk using Nz c,NA,OT,OU,LY (ok p l).1 hk
   have g:p.1.code e=k.code e↔rz e.bs p.1.xs=rz e.bs k.xs:=by unfold Ky.code;rw[H];lia
   by_cases hc:rz e.bs p.1.xs=rz e.bs k.xs
   ·rw[ak (ah hc)];right;have I:(L.find? λp=>decide (p.1.code e=k.code e))=Z p:=(uY (f:=λp:Rw=>p.1.code e) hnd).mpr ⟨l,g.mpr hc⟩;have G:lm e L k=p.2:=by unfold lm;rw[I];rfl
    rw[G]at q;exact⟨_,O,(ok p l).2.und,q⟩
   ·rw[aj (by rw[am];exact hc)];refine W.of (x:=(.nx,[Z aq,Z (.int k.m),Z (k.sg e),Z (.tup (L.map (fT e))),Z (.int (((a+j:Nat):Int)+1))],[])) O ?_;left;refine⟨O,O,by lia,λi n b hi=>?_,by push_cast;rfl⟩;by_cases s:i=a+j
    ·subst s;rw[c]at b;cases b;exact λz=>hc (g.mp z)
    ·exact v i n b (by lia)
  ·rw [if_neg (by rw [RO];lia)];have u:lm e L k=C7 k:=d fun i n b=>by
    by_cases hi:i<a+j
    ·exact v i n b hi
    ·have b1:=t (a+j) p c (by lia);have b2:=(m.le ok c b (by lia)).1;exact o n (gM1 b) (by lia)
   rw[u]at q;exact⟨O,q⟩
 ·wp_walk using JA,lM1
  rw[aj (by rw[am];lia)];have u:lm e L k=C7 k:=d λi n b=>by
   have:=(R1 b).1;exact v i n b (by lia)
  rw[u]at q;exact⟨O,q⟩
noncomputable def dm:D->Nat
 | .tup [.int m,_,_]=>m.toNat
 |_=>0
noncomputable def dh:D->Str
 | .tup [_,.str h,_]=>h
 |_=>""
noncomputable def dt:D->Option Nat
 | .tup [_,_,.int t]=>Z t.toNat
 |_=>Y
noncomputable def tD:Option Nat->D
 |none=>.non
 |some t=>.int (t:Nat)
theorem ms.eta{x:D}(h:ms x):x = .tup [.int (dm x:Nat),.str (dh x),tD (dt x)]/\dm x<4000:=by
 obtain⟨m,y,t,rfl,a,h1,h2⟩:=h.is;simp only[rf,aF,bI,Rm]at h1;simp only[qm,aF,bI,Rm]at h2;rcases h1 with e|e|e<;>subst e<;>rcases h2 with e|e|e|e|e<;>subst e<;>exact⟨O,a⟩
def fA(w:dJ)(u:Wk)(x:D):Wk:=match dt x with
 |some t=>match (w[u.1]?).bind (·[t]?)with
  |some p=>(p.1,p.2+1,dm x)
  |none=>(u.1,u.2.1,dm x)
 |none=>(u.1,u.2.1,dm x)
theorem Cv{t:Nat}:wo (.int (t:Nat)) .non S=Z (.bl J,S):=rfl
theorem JO:wo .non .non S=Z (.bl M,S):=rfl
theorem yR{w:dJ}{u:Wk}{row:List (Nat×Nat)}{x:D}(hr:w[u.1]?=Z row)(hx:ms x)(q:Q (gz (fA w u x),S)):W (dI 3 iZ [webD w,gz u,x] S) Q:=by
 refine fC O (by simp[D.unds,eB,hx.und];rfl) ?_;unfold iZ;refine i6 ?_;unfold rK;have ex:=hx.eta.1;unfold fA at q;simp only[hr,oS1]at q;generalize l:dm x=m at *
 generalize n:dh x=h at *
 generalize o:dt x=t at *
 refine d4 (λr V=>V=[]/\r=[Z (webD w),Z (gz u),Z x,Z (.int u.1),Z (.int u.2.1),Z (.int u.2.2),Y,Y,Y,Y,Y]) ?_ ?_
 ·generalize i:gz u=U;have b:U = .tup [.int u.1,.int u.2.1,.int u.2.2]:=i.symm;subst b;walk_at"w"
 rintro r V ⟨rfl,rfl⟩;refine d4 (λr V=>V=[]/\r=[Z (webD w),Z (gz u),Z x,Z (.int u.1),Z (.int u.2.1),Z (.int u.2.2),Z (.int (m:Nat)),Z (.str h),Z (tD t),Y,Y]) ?_ ?_
 ·subst ex;walk_at"w"
 rintro r V ⟨rfl,rfl⟩;cases t with
 |none=>
  have d:tD Y = .non:=rfl;rw[d]
  wp_walk using JO
  exact⟨O,q⟩
 |some t=>
  have d:tD (Z t) = .int (t:Nat):=rfl;rw[d];have c:∀a,dL (webD w) (.int (u.1:Nat)) a=Z (.tup (row.map pD),a):=λa=>by
   obtain⟨p,e,h⟩:W (dL (webD w) (.int (u.1:Nat)) a) λp=>p=(.tup (row.map pD),a):=Hm hr O;rw[e,h]
  dsimp only at q;by_cases g:t<row.length
  ·have f:=gG1 g;rw[f]at q;refine d4 (λr V=>V=[]/\r=[Z (webD w),Z (gz u),Z x,Z (.int u.1),Z (.int u.2.1),Z (.int u.2.2),Z (.int (m:Nat)),Z (.str h),Z (.int (t:Nat)),Y,Y]) ?_ ?_
   ·wp_walk using Cv,c,hU,lM1
    rw[aj (by rw[am];lia)];trivial
   rintro r V ⟨rfl,rfl⟩;have j:∀a,dL (.tup (row.map pD)) (.int (t:Nat)) a=Z (pD row[t],a):=λa=>by
    obtain⟨p,e,h⟩:W (dL (.tup (row.map pD)) (.int (t:Nat)) a) λp=>p=(pD row[t],a):=hP (by rw[gP1,f];rfl) O;rw[e,h]
   generalize row[t]=p at *
   refine d4 (λr V=>V=[]/\r=[Z (webD w),Z (gz u),Z x,Z (.int u.1),Z (.int u.2.1),Z (.int u.2.2),Z (.int (m:Nat)),Z (.str h),Z (.int (t:Nat)),Z (.int p.1),Z (.int p.2)]) ?_ ?_
   ·wp_walk using c,j,pD
   rintro r V ⟨rfl,rfl⟩;walk_at"w";have k:(1:Int)+(p.2:Int)=((p.2+1:Nat):Int):=by lia
   rw[k];exact⟨O,q⟩
  ·rw[bX (by lia)]at q
   wp_walk using Cv,c,hU,lM1
   rw[ak (by rw[am];lia)];exact⟨O,q⟩
theorem JR{x:Nat}(h:S[n]?=Z (.lst (nmD cs))):jR (.int x) (.ref n) S=Z (.bl (cs.contains x),S):=by
 simp only[jR,wp,KE,h,dZ,oS1,d8,show(60:Nat)=59+1 from rfl,sY,oP1]
theorem zj{x:Nat}(h:S[n]?=Z (.lst (nmD cs))):fW (.int x) (.ref n) S=Z (.bl (!cs.contains x),S):=by
 simp only[fW,ji,mO,h,dZ,oS1,d8,show(60:Nat)=59+1 from rfl,sY,oP1]
theorem F3{x:D}(h:ms x)(S:Sto):dL x (.int 1) S=Z (.str (dh x),S):=by
 have e:=h.eta.1;generalize dm x=a at e;generalize dt x=c at e;generalize dh x=b at *
 subst e;rfl
theorem sS{u:Wk}:dL (gz u) (.int 0) S=Z (.int u.1,S):=rfl
theorem F1{u:Wk}:dL (gz u) (.int 2) S=Z (.int u.2.2,S):=rfl
def pY(ws:List Wk)(dd:Wk->D)(h:Str)(r:Nat):Bool:=ws.any λu=>u.1 == r&&dh (dd u) == h
def hO(m:Nat)(ws:List Wk)(dd:Wk->D)(cs:List Nat):List Nat:=(af m).filter λr=>pY ws dd "mark" r||(cs.contains r && !pY ws dd "wipe" r)
theorem IP(a b:List Nat):nmD a++nmD b=nmD (a++b):=by simp[nmD]
def pQ(ws:List Wk)(dd:Wk->D)(h:Str):List Nat:=(ws.filter λu=>dh (dd u) == h).map (·.1)
theorem yA{ws:List Wk}{dd:Wk->D}{h:Str}:r∈pQ ws dd h↔pY ws dd h r=M:=by
 unfold pQ pY;rw[cf,bP];constructor
 ·rintro⟨u,a,rfl⟩;obtain⟨h1,h2⟩:=aB.mp a;exact⟨u,h1,by simp[h2]⟩
 ·rintro⟨u,a,e⟩;rw[bA1,RO]at e;exact⟨u,aB.mpr ⟨a,e.2⟩,e.1⟩
theorem CK{h:Str}{ws:List Wk}{dd:Wk->D}{m:FA}{r:Ev}(hd:∀ u∈ws,ms (dd u))(d:ws.length<=8)(a:S[n]? = Z (.lst (ws.map dd)))(hm:m r S=Z ([.tup (fu ws),.ref n],S))(hr:uQ 2 [] r=[Y,Y])(q:Q (.ref S.length,S++[.lst (nmD (pQ ws dd h))])):W (eA 2 [] (He m) (gT 2 (gCs (gN 0) (gCs (gN 1) gNl))) (mB (m2 (b2 gEq) (m2 (b2 dL) (mV 1) (mC (D.int (1)))) (mC (D.str h)))) (ee (m2 (b2 dL) (mV 0) (mC (D.int (0))))) r S) Q:=by
 rw[mn];refine DH hm a ?_;dsimp only;rw[hr,fu,vF];refine iH (λu:Wk=>dh (dd u) == h) (λu:Wk=>D.int u.1) (λr=>∃x y,r=[x,y]) (fF a) ws _ ⟨_,_,O⟩ ?_ λf _=>?_
 ·rintro u b r ⟨x,y,rfl⟩
  wp_walk using F3 (hd u b)
  refine⟨⟨_,_,O⟩,λ_=>?_⟩
  wp_walk using sS
 ·have e:(ws.filter λu:Wk=>dh (dd u) == h).map (λu:Wk=>D.int (u.1:Nat))=nmD (pQ ws dd h):=by unfold nmD pQ;rw[bu];rfl
  rw[e];have c:=cX (λu:Wk=>dh (dd u) == h) ws;refine⟨dR ?_,q⟩;dsimp only;rw[ej];unfold pQ;rw[lM1];lia
theorem zI{ws:List Wk}{dd:Wk->D}(hd:∀ u∈ws,ms (dd u))(w:ws.length<=8)(hc:cs.length<=8)(hw:∀ u∈ws,u.1<m)(j:∀ r∈cs,r<m)(l:S[n]? = Z (.lst (ws.map dd)))(k:S.all (Ob.und S.length)=M)(q:Q (.tup (nmD (hO m ws dd cs)),S)):W (dI 2 i3 [eF ws cs,.ref n] S) Q:=by
 refine vk O (by simp[D.unds,D.und]) ?_;unfold i3;refine i6 ?_;unfold rM;have z:=(R1 l).1;refine d4 (λr V=>V=S/\r=[Z (eF ws cs),Z (.ref n),Z (.tup (fu ws)),Z (.tup (nmD cs)),Y,Y,Y]) ?_ ?_
 ·generalize G:eF ws cs=aq;have o:aq = .tup [.tup (fu ws),.tup (nmD cs)]:=G.symm;subst o;walk_at"w"
 rintro r V ⟨y,rfl⟩;subst y;refine d4 (λr g=>g=V++[.lst (nmD (pQ ws dd "mark"))]/\r=[Z (eF ws cs),Z (.ref n),Z (.tup (fu ws)),Z (.tup (nmD cs)),Z (.ref V.length),Y,Y]) ?_ ?_
 ·unfold dS;refine dN.mpr (CK hd w l O O ?_);walk_at"w"
 rintro r d ⟨a,rfl⟩;have B:d[n]?=Z (.lst (ws.map dd)):=by rw[a,gL1 z];exact l
 have t:d[V.length]?=Z (.lst (nmD (pQ ws dd "mark"))):=by rw[a,dQ];rfl
 refine d4 (λr g=>g=d++[.lst (nmD (pQ ws dd "wipe"))]/\r=[Z (eF ws cs),Z (.ref n),Z (.tup (fu ws)),Z (.tup (nmD cs)),Z (.ref V.length),Z (.ref d.length),Y]) ?_ ?_
 ·unfold dS;refine dN.mpr (CK hd w B O O ?_);walk_at"w"
 rintro r i ⟨b,rfl⟩;have s:i[V.length]?=Z (.lst (nmD (pQ ws dd "mark"))):=by rw[b,gL1 (R1 t).1];exact t
 have H:i[d.length]?=Z (.lst (nmD (pQ ws dd "wipe"))):=by rw[b,dQ];rfl
 refine d4 (λr g=>g=i++[.lst (nmD (cs.filter λr=> !(pQ ws dd "wipe").contains r))]/\r=[Z (eF ws cs),Z (.ref n),Z (.tup (fu ws)),Z (.tup (nmD cs)),Z (.ref V.length),Z (.ref d.length),Z (.ref i.length)]) ?_ ?_
 ·walk_at"w";rw[ik];refine iH (f:=λr:Nat=>D.int r) (λr:Nat=> !(pQ ws dd "wipe").contains r) (λr:Nat=>D.int r) (λr=>∃x,r=[x,Z (.ref d.length)]) O cs _ ⟨_,O⟩ ?_ λI _=>?_
  ·rintro u v r ⟨x,rfl⟩
   wp_walk using zj H
   exact⟨⟨_,O⟩,λ_=>trivial⟩
  ·walk_at"w";have A:=cX (λr:Nat=> !(pQ ws dd "wipe").contains r) cs;exact⟨dR (by rw[lM1];lia),O,trivial⟩
 rintro r p ⟨c,rfl⟩;have F:p[V.length]?=Z (.lst (nmD (pQ ws dd "mark"))):=by rw[c,gL1 (R1 s).1];exact s
 have C:p[i.length]?=Z (.lst (nmD (cs.filter λr=> !(pQ ws dd "wipe").contains r))):=by rw[c,dQ];rfl
 have A:=cX (λr:Nat=> !(pQ ws dd "wipe").contains r) cs;have ao:(pQ ws dd "mark").length<=ws.length:=by unfold pQ;rw[lM1];exact cX _ _
 walk_at"w";refine(DR C F).mpr ⟨dR (by rw[ej,ej];lia),?_⟩;rw[IP];refine rQ (xs:=cs.filter (λr=> !(pQ ws dd "wipe").contains r)++pQ ws dd "mark") (m:=m) (f:=λr=>pY ws dd "mark" r||(cs.contains r && !pY ws dd "wipe" r)) (by rw[dQ];rfl) (λr=>?_) (by rw[lA1];lia) ?_
 ·have E:(pQ ws dd "wipe").contains r=pY ws dd "wipe" r:=by
   rw[bO,cJ,yA]
  rw[aG,aB,yA,E];constructor
  ·rintro(⟨h1,h2⟩|h1)
   ·exact⟨j r h1,by rw[cJ.mpr h1,h2];simp⟩
   ·refine⟨?_,by rw[h1];rfl⟩;unfold pY at h1;obtain⟨u,v,e⟩:=bP.mp h1;rw[bA1,RO]at e;rw[<- e.1];exact hw u v
  ·rintro⟨_,h⟩;rw[bM,bA1]at h;rcases h with h|⟨h1,h2⟩
   ·exact .inr h
   ·exact .inl ⟨cJ.mp h1,h2⟩
 ·walk_at"w";refine ei (xs:=nmD (hO m ws dd cs)) (by rw[eO];rfl) ?_;rw[CM (by rw[D.und];exact fx _) k (by rw[c,b,a];simp only[bE];exact bv _ _)];exact q
theorem Fp{w:dJ}{ws:List Wk}{dd:Wk->D}(h:w.length=m)(hd:∀ u∈ws,ms (dd u))(C:ws.length<=8)(hc:cs.length<=8)(hw:∀ u∈ws,u.1<m)(g:∀ r∈cs,r<m)(f:S[n]? = Z (.lst (ws.map dd)))(b:S.all (Ob.und S.length)=M)(q:Q (eF (ws.map λu=>fA w u (dd u)) (hO m ws dd cs),S)):W (dI 3 lS [webD w,eF ws cs,.ref n] S) Q:=by
 refine vk O (by simp[D.unds,D.und]) ?_;unfold lS;refine i6 ?_;unfold yv;have p:=(R1 f).1;refine d4 (λr V=>V=S/\r=[Z (webD w),Z (eF ws cs),Z (.ref n),Z (.tup (fu ws)),Z (.tup (nmD cs)),Y]) ?_ ?_
 ·generalize B:eF ws cs=aq;have i:aq = .tup [.tup (fu ws),.tup (nmD cs)]:=B.symm;subst i;walk_at"w"
 rintro r V ⟨k,rfl⟩;subst k;refine d4 (λr s=>s=V++[.lst (fu (ws.map λu=>fA w u (dd u)))]/\r=[Z (webD w),Z (eF ws cs),Z (.ref n),Z (.tup (fu ws)),Z (.tup (nmD cs)),Z (.ref V.length)]) ?_ ?_
 ·unfold dS;refine dN.mpr ?_;rw[mn];refine DH (xs:=fu ws) (ys:=ws.map dd) (n:=n) O f ?_;dsimp only;rw[fu,vF];refine js (λu:Wk=>gz (fA w u (dd u))) (λr=>∃x y,r=[x,y,Z (webD w)]) (fF f) ws _ ⟨_,_,O⟩ ?_ λE _=>?_
  ·rintro u j r ⟨x,y,rfl⟩;obtain⟨row,c⟩:∃row,w[u.1]?=some row:=⟨_,gG1 (by rw[h];exact hw u j)⟩;walk_at"w";refine yR c (hd u j) ?_;exact⟨O,O,_,_,O⟩
  ·have e:ws.map (λu:Wk=>gz (fA w u (dd u)))=fu (ws.map λu=>fA w u (dd u)):=by unfold fu;rw[bu];rfl
   rw[e];refine⟨dR (by dsimp only;rw[wW,lM1];lia),?_⟩;walk_at"w"
 rintro r d ⟨a,rfl⟩;have v:d[n]?=Z (.lst (ws.map dd)):=by rw[a,gL1 p];exact f
 have t:d[V.length]?=Z (.lst (fu (ws.map λu=>fA w u (dd u)))):=by rw[a,dQ];rfl
 have l:d.all (Ob.und d.length)=M:=by
  rw[a,cN,bA1,lA1];rw[bA]at b;refine⟨bA.mpr λo z=>gW (br _ _) (b o z),?_⟩;rw[bN,Ob.und,iQ (wV _)];rfl
 walk_at"w";refine ei t ?_;refine zI hd C hc hw g v l ?_;walk_at"w";have A:D.tup [.tup (fu (ws.map λu=>fA w u (dd u))),.tup (nmD (hO m ws dd cs))]=eF (ws.map λu=>fA w u (dd u)) (hO m ws dd cs):=rfl;rw[A,CM ia b (by rw[a];exact bv _ _)];exact q
def eyD(e:E4):D:=.tup (gg e.1 e.2.1 e.2.2.1 e.2.2.2)
theorem l5(e:E4):(eyD e).und 0=M:=by unfold eyD;rw[D.und];exact uZ _ _ _ _
def mcD(e:E4)(L:List Rw):D:=.tup [eyD e,.tup (L.map (fT e))]
theorem xJ(ok:∀p∈L,pN p):(mcD e L).und 0=M:=by
 have h1:=l5 e;have h2:=oA (e:=e) ok 0;unfold mcD;rw[D.und,D.unds,D.unds,h1,h2];rfl
theorem C4{k:Ky}(ok:∀p∈L,pN p)(hk:k.Ok):ms (lm e L k):=by
 unfold lm;cases h:L.find? λp=>decide (p.1.code e=k.code e)with
 |none=>exact⟨k.m,_,_,O,hk.m,by simp[rf],by simp[qm]⟩
 |some p=>exact(ok p (List.mem_of_find?_eq_some h)).2
def ky(w:dJ)(ws:List Wk)(cs:List Nat)(u:Wk):Ky:=⟨u.2.2,u.2.1,if cs.contains u.1 then 1 else 0,((w[u.1]?).getD []).length,if 1<crowd ws u.1 then 1 else 0⟩
theorem EC{w:dJ}{ws:List Wk}{u:Wk}{row:List (Nat×Nat)}(h:w[u.1]?=Z row):Bi e.1 e.2.1 e.2.2.1 e.2.2.2 ws cs u row=(ky w ws cs u).sg e:=by
 have c:∀b:Bool,((if b=M then 1 else 0:Nat):Int)=if b=M then(1:Int)else 0:=λb=>by cases b<;>rfl
 have a:((if 1<crowd ws u.1 then 1 else 0:Nat):Int)=if 1<crowd ws u.1 then(1:Int)else 0:=by split<;>rfl
 unfold Bi vS Ky.sg N7 ky pt;rw[h];dsimp only;rw[c,a];rfl
structure mm (m:Nat)(w:dJ)(ws:List Wk)(cs:List Nat):Prop where
 web:DF m w
 m8:m<=8
 few:ws.length<=8
 cl:cs.length<=8
 wk:∀u∈ws,∃row,w[u.1]?=some row/\u.2.1<=row.length/\u.2.2<4000
 ch:∀r∈cs,r<m
theorem mm.lt{w:dJ}{ws:List Wk}(h:mm m w ws cs):∀u∈ws,u.1<m:=λu a=>by
 obtain⟨row,e,_⟩:=h.wk u a;have:=(R1 e).1;rw[h.web.len]at this;exact this
theorem mm.ky{w:dJ}{ws:List Wk}(h:mm m w ws cs):∀u∈ws,(ky w ws cs u).Ok:=λu b=>by
 obtain⟨row,e,h1,h2⟩:=h.wk u b;have a:=h.web.le row (gM1 e);refine⟨h2,?_,?_,?_,?_⟩
 ·show u.2.1<=4;lia
 ·show(if cs.contains u.1 then 1 else 0)<=4;split<;>lia
 ·show((w[u.1]?).getD []).length<=4;rw[e];exact a
 ·show(if 1<crowd ws u.1 then 1 else 0)<=4;split<;>lia
theorem Ej{w:dJ}{ws:List Wk}(h:mm m w ws cs)(q:Q (.ref S.length,S++[.lst (ws.map λu=>(ky w ws cs u).d e)])):W (dI 3 lR [webD w,eyD e,eF ws cs] S) Q:=by
 refine Mb O (by simp[D.unds,eB,ia,l5]) ?_;unfold lR;refine i6 ?_;unfold yt eg;rw[dN,mn];refine rR (xs:=fu ws) O ?_;dsimp only;have f:=h.few;rw[fu,wA];refine js (λp:Wk×Nat=>(ky w ws cs p.1).d e) (λr=>∃x y,r=[x,y,Z (webD w),Z (eyD e),Z (eF ws cs)]) O ws.zipIdx _ ⟨_,_,O⟩ ?_ λg _=>?_
 ·rintro⟨u,k⟩ c r ⟨x,y,rfl⟩;have b:ws[k]?=Z u:=qi c;obtain⟨row,a,_⟩:=h.wk u (gM1 b)
  wp_walk using F1
  refine Ex b a (by lia) ?_;walk_at"w";rw[EC a];exact⟨O,_,_,O⟩
 ·have d:(ws.zipIdx.map λp:Wk×Nat=>(ky w ws cs p.1).d e)=ws.map λu=>(ky w ws cs u).d e:=vG (λu=>(ky w ws cs u).d e) ws;rw[d];refine⟨dR (by dsimp only;rw[lM1];lia),?_⟩;walk_at"w";exact⟨_,O,Mi.eE λu _=>Ky.und _ e 0,q⟩
def ddW(w:dJ)(ws:List Wk)(cs:List Nat)(e:E4)(L:List Rw)(u:Wk):D:=lm e L (ky w ws cs u)
def Mf(m:Nat)(w:dJ)(ws:List Wk)(cs:List Nat)(e:E4)(L:List Rw):D:=eF (ws.map λu=>fA w u (ddW w ws cs e L u)) (hO m ws (ddW w ws cs e L) cs)
theorem Kj{w:dJ}{ws:List Wk}(h:mm m w ws cs)(c:Inc e L)(ok:∀p∈L,pN p)(g:L.length<=4000)(q:Q (Mf m w ws cs e L,S)):W (dI 3 oR [webD w,mcD e L,eF ws cs] S) Q:=by
 refine fC O (by simp[D.unds,eB,ia,xJ ok]) ?_;unfold oR
 refine i6 ?_;unfold Dv
 have j:=h.few;have d:∀u∈ws,ms (ddW w ws cs e L u):=λu a=>C4 ok (h.ky u a);refine d4 (λr V=>V=[.lst (ws.map λu=>(ky w ws cs u).d e)]/\r=[Z (webD w),Z (mcD e L),Z (eF ws cs),Z (.ref 0)]) ?_ ?_
 ·have i:∀S,dL (mcD e L) (.int 0) S=Z (eyD e,S):=λS=>rfl
  wp_walk using i
  refine Ej h ?_;walk_at"w"
 rintro r V ⟨rfl,rfl⟩;unfold eg;rw[dN];have b:W (eA 2 [1] (g9 (mV 3)) (gT 2 (gCs (gN 0) (gCs (gN 1) gNl))) eZ (ee (mN (dI 3 gJ) (dG (mV 2) (dG (mV 0) (dG (mV 1) dH))))) [Z (webD w),Z (mcD e L),Z (eF ws cs),Z (.ref 0)] [.lst (ws.map λu=>(ky w ws cs u).d e)]) λp=>p=(.ref 1,[.lst (ws.map λu=>(ky w ws cs u).d e),.lst (ws.map (ddW w ws cs e L))]):=by
  walk_at"w";refine ei (xs:=ws.map λu=>(ky w ws cs u).d e) O ?_;refine js (ddW w ws cs e L) (λr=>∃x y,r=[x,y,Z (mcD e L)]) (fF O) ws _ ⟨_,_,O⟩ ?_ λk _=>?_
  ·rintro u a r ⟨x,y,rfl⟩;unfold Ky.d;walk_at"w";refine C8 c ok g (h.ky u a) (l5 e) ?_;exact⟨O,O,_,_,O⟩
  ·refine⟨dR (by dsimp only;rw[lM1];lia),?_⟩;walk_at"w"
 obtain⟨p,f,rfl⟩:=b;generalize eA 2 [1] (g9 (mV 3)) (gT 2 (gCs (gN 0) (gCs (gN 1) gNl))) eZ (ee (mN (dI 3 gJ) (dG (mV 2) (dG (mV 0) (dG (mV 1) dH)))))=G at *
 wp_walk using f
 refine Fp h.web.len d h.few h.cl h.lt h.ch (dd:=ddW w ws cs e L) O ?_ ?_
 ·rw[bN,bN,Ob.und,Ob.und,Mi.eE λu _=>Ky.und _ e _,Mi.eE λu a=>ig (d u a).und];rfl
 ·exact⟨ia,q⟩
theorem NT{g:G1}{m:FE}{r:Ev}(h:W (m r S) λp=>W (g p.1 p.2) Q):W (mN (b1 g) (dG m dH) r S) Q:=by
 obtain⟨p,e,h⟩:=h;unfold mN dG dH;rw[e];exact h
abbrev Wh:=List Wk×List Nat
def DY(a:Wh):D:=eF a.1 a.2
theorem zV{ws:List Wk}{f:Wk->D}(hm:m<=8):(hO m ws f cs).length<=8 /\ ∀r∈hO m ws f cs,r<m:=by
 unfold hO;refine⟨?_,λr a=>aC.mp (aB.mp a).1⟩;refine aD (cX _ _) ?_;rw[cB];exact hm
theorem A0{w:dJ}{ws:List Wk}(h:mm m w ws cs){u:Wk}(d:u∈ws){x:D}(hx:ms x):∃row,w[(fA w u x).1]?=Z row/\(fA w u x).2.1<=row.length/\(fA w u x).2.2<4000:=by
 have b:=hx.eta.2;obtain⟨row,a,h1,h2⟩:=h.wk u d;unfold fA;rw[a];have base:∃row,w[(u.1,u.2.1,dm x).1]?=Z row/\(u.1,u.2.1,dm x).2.1<=row.length/\(u.1,u.2.1,dm x).2.2<4000:=⟨row,a,h1,b⟩;cases dt x with
 |none=>exact base
 |some t=>
  dsimp only[oS1];cases ep:row[t]? with
  |none=>exact base
  |some p=>
   obtain⟨r,c,e⟩:=h.web.to row (gM1 a) p (gM1 ep);exact⟨r,c,e,b⟩
theorem wY(a:Wh)(n:Nat):(DY a).und n=M:=ig ia
structure DT (m:Nat)(rs cs:List Nat):Prop where
 few:rs.length<=8
 cl:cs.length<=8
 rs:∀r∈rs,r<m
 cs:∀r∈cs,r<m
def eG(rs cs:List Nat):D:=.tup [.tup (nmD rs),.tup (nmD cs)]
noncomputable def qf(rs cs:List Nat):Wh:=(rs.map λr=>(r,0,0),cs)
theorem GE{w:dJ}(hw:DF m w)(hm:m<=8)(h:DT m rs cs):mm m w (qf rs cs).1 (qf rs cs).2:=by
 refine⟨hw,hm,by show(rs.map _).length<=8;rw[lM1];exact h.few,h.cl,λu a=>?_,h.cs⟩;obtain⟨r,b,rfl⟩:=cf.mp a;exact⟨_,gG1 (by rw[hw.len];exact h.rs r b),bi _,by show 0<4000;decide⟩
theorem yU(rs cs:List Nat)(n:Nat):(eG rs cs).und n=M:=ig (by simp[eG,D.und,D.unds,fx])
theorem A2:dL (eG rs cs) (.int 0) S=Z (.tup (nmD rs),S):=rfl
theorem HN:dL (eG rs cs) (.int 1) S=Z (.tup (nmD cs),S):=rfl
theorem GD{c:Option D}{Q:List D×Ev×Sto->Prop}(h:∀ b,Q (fu (qf rs []).1,b,S)):
  W (fH [] (gN 0) eZ (ee (eH (dG (mV 0) (dG (mC (D.int 0)) (dG (mC (D.int 0)) dH))))) (nmD rs) [c] S) Q:=by
 refine js (f:=λr:Nat=>D.int r) (λr:Nat=>gz (r,0,0)) (λr=>∃x,r=[x]) O rs _ ⟨_,O⟩ ?_ λb _=>?_
 ·rintro a d r ⟨x,rfl⟩;walk_at"w";exact⟨O,_,O⟩
 ·have e:(rs.map λr:Nat=>gz (r,0,0))=fu (qf rs []).1:=by unfold fu qf;rw[bu];rfl
  rw[e];exact h b
theorem GC(c:rs.length<=1000)(q:Q (DY (qf rs cs),S)):W (dI 1 lT [eG rs cs] S) Q:=by
 refine fC O (by rw[D.unds,yU];rfl) ?_;unfold lT;refine i6 ?_;unfold yw;refine d4 (λr V=>V=[]/\r=[Z (eG rs cs),Z (.tup (nmD rs)),Z (.tup (nmD cs))]) ?_ ?_
 ·unfold eG;walk_at"w"
 rintro r V ⟨rfl,rfl⟩;walk_at"w";rw[ik];refine GD λb=>?_;have a:(fu (qf rs []).1).length=rs.length:=by rw[wW];exact lM1 _
 walk_at"w";refine⟨dR (by rw[a];lia),?_⟩;refine ei (xs:=fu (qf rs []).1) O ?_;exact⟨wY (qf rs cs) 0,q⟩
noncomputable def Jf(a:Wh):Bool:=match a.1 with
 |[]=>M
 |u::ws=>(u::ws).all λv=>v.1 == u.1
theorem F5{a:Wh}(d:a.1≠[])(i:a.1.length<=1000)(q:Q (.bl (Jf a),S)):W (dI 1 jL [DY a] S) Q:=by
 obtain⟨ws,c⟩:=a;cases ws with
 |nil=>exact absurd O d
 |cons u ws=>
  have g:∀b,dL (DY (u::ws,c)) (.int 0) b=Z (.tup (fu (u::ws)),b):=λb=>rfl;refine fC O (by rw[D.unds,wY];rfl) ?_;unfold jL;refine i6 ?_;unfold vo;refine d4 (λr V=>V=[]/\r=[Z (DY (u::ws,c)),Z (.int u.1)]) ?_ ?_
  ·have j:∀ b,dL (.tup (fu (u::ws))) (.int 0) b=some (gz u,b):=fun b=>by
    obtain⟨p,e,h⟩:W (dL (.tup (fu (u::ws))) (.int ((0:Nat):Int)) b) λp=>p=(gz u,b):=hP O O;exact e.trans (by rw[h])
   wp_walk using g,j,sS
  rintro r V ⟨rfl,rfl⟩;unfold eg;rw[dN];refine NT ?_
  wp_walk using g
  rw[ik];refine js (f:=gz) (λv:Wk=>D.bl (v.1 == u.1)) (λr=>∃x y z,r=[x,y,z,Z (.int u.1)]) O (u::ws) _ ⟨_,_,_,O⟩ ?_ λl _=>?_
  ·rintro v k r ⟨x,y,z,rfl⟩;unfold gz;walk_at"w";refine⟨?_,_,_,_,O⟩
   congr 1
   rw[bO,RO,RO];lia
  ·walk_at"w";refine⟨dR (by rw[lM1];exact aD i (by decide)),?_⟩;refine W.of (x:=(.bl (Jf (u::ws,c)),[Ob.lst ((u::ws).map λv:Wk=>D.bl (v.1 == u.1))])) ?_ ⟨O,q⟩;unfold p8;rw[fS (xs:=(u::ws).map λv:Wk=>D.bl (v.1 == u.1)) O,oS1,pL];rfl
def stepL(m:Nat)(w:dJ)(e:E4)(L:List Rw)(a:Wh):Wh:=(a.1.map λu=>fA w u (ddW w a.1 a.2 e L u),hO m a.1 (ddW w a.1 a.2 e L) a.2)
theorem mm.stepL{w:dJ}{a:Wh}(h:mm m w a.1 a.2)(ok:∀p∈L,pN p):mm m w (stepL m w e L a).1 (stepL m w e L a).2:=by
 have hc:=zV (m:=m) (ws:=a.1) (f:=ddW w a.1 a.2 e L) (cs:=a.2) h.m8;refine⟨h.web,h.m8,by show(a.1.map _).length<=8;rw[lM1];exact h.few,hc.1,λv c=>?_,hc.2⟩;obtain⟨u,b,rfl⟩:=cf.mp c;exact A0 h b (C4 ok (h.ky u b))
noncomputable def rg(b:Bool)(n:Nat):List Nat:=if b=M then af n else[0]
def SG(e:E4):List Ky:=(rg e.1 5).flatMap λx=>(rg e.2.1 2).flatMap λy=>(rg e.2.2.1 5).flatMap λz=>(rg e.2.2.2 2).map λw=>⟨0,x,y,z,w⟩
structure O6 (e:E4)(k:Ky):Prop where
 x:k.x<=4
 y:e.2.1=true->k.y<=1
 z:k.z<=4
 w:e.2.2.2=true->k.w<=1
theorem xt{b:Bool}{x:Nat}(hn:0<n)(h:x∈rg b n):x<n:=by
 unfold rg at h;cases b with
 |false=>simp at h;lia
 |true=>simpa using h
theorem pM{k:Ky}(h:k∈SG e):k.m=0/\k.Ok/\O6 e k:=by
 unfold SG at h;obtain⟨x,c,h⟩:=de.mp h;obtain⟨y,a,h⟩:=de.mp h;obtain⟨z,d,h⟩:=de.mp h;obtain⟨w,b,rfl⟩:=cf.mp h;have h1:=xt (by decide) c;have h2:=xt (by decide) a;have f:=xt (by decide) d;have g:=xt (by decide) b;exact⟨O,⟨by show 0<4000;decide,by show x<=4;lia,by show y<=4;lia,by show z<=4;lia,by show w<=4;lia⟩,⟨by show x<=4;lia,λ_=>by show y<=1;lia,by show z<=4;lia,λ_=>by show w<=1;lia⟩⟩
theorem yV(e:E4):(jK [eyD e] []).map (·.1)=Z (.tup ((SG e).map (·.sg e))):=by
 obtain⟨a,b,c,d⟩:=e;cases a<;>cases b<;>cases c<;>cases d<;>kernel_rfl!
theorem Ey(e:E4):D.unds 0 ((SG e).map (·.sg e))=M:=Mi.eE λk _=>k.sgu e 0
theorem A8(q:Q (.tup ((SG e).map (·.sg e)),S)):W (dI 1 jK [eyD e] S) Q:=by
 refine fC O (by rw[D.unds,l5];rfl) ?_;obtain⟨⟨d,G⟩,b,a⟩:=R4 (yV e);dsimp only at a;subst a;exact⟨_,b,by rw[D.und];exact Ey e,q⟩
noncomputable def upI(l:List Nat):List Int:=l.map λx:Nat=>(x:Int)
theorem rX(l:List Nat):(upI l).length=l.length:=lM1 _
theorem hC{l:List Nat}:iS (upI l) i=(l.getD i 0:Nat):=by
 unfold iS upI;rw[bH,bH,gP1];cases l[i]? <;> rfl
theorem xc(l:List Nat):iz (upI l) = .tup (nmD l):=by
 unfold iz upI nmD;rw[bu];rfl
theorem Bd{b:Bool}(h:i<m):iS (sgL m ws cs b) i=Be ws cs b i:=by
 unfold iS sgL;rw[bH,gP1,cr h];rfl
def mr(m:Nat)(rs cs:List Nat):Prop:=∀i j,i<m->j<m->rs.getD i 0=rs.getD j 0->cs.contains i=cs.contains j
theorem Ar{α β:Type}{a:List α}{b:List β}{p:α×β}(h:p∈a.zip b):∃d:Nat,a[d]?=Z p.1/\b[d]?=Z p.2:=by
 obtain⟨d,c⟩:=bq h;exact⟨d,cH.mp c⟩
theorem Ao.row{w:dJ}(C:Ao m w rs)(hi:i<m)(f:j<m)(e:rs.getD i 0=rs.getD j 0):(gG w i).length=(gG w j).length /\ ∀(d:Nat) (p q:Nat×Nat),(gG w i)[d]?=Z p->(gG w j)[d]?=Z q->rs.getD p.1 0=rs.getD q.1 0/\p.2=q.2:=by
 obtain⟨n,F⟩:=C.fb;obtain⟨g,h1⟩:=sn C.web.toWebJ hi;obtain⟨r2,h2⟩:=sn C.web.toWebJ f;obtain⟨a,a1,a2⟩:=F.deg i g h1;obtain⟨b,b1,b2⟩:=F.deg j r2 h2;rw[e,b1]at a1;cases a1;refine⟨by rw[ka h1,ka h2];lia,λd p q l k=>?_⟩;have c:=F.at_ i d p (ss l);have h:=F.at_ j d q (ss k);rw[e]at c;have:=j0 c h;injection this with x y;exact⟨x,y⟩
theorem yg{w:dJ}(C:Ao m w rs)(hk:mr m rs cs):Fit m w (sgL m ws cs J) (upI rs):=by
 intro i j hi a e;have b:rs.getD i 0=rs.getD j 0:=by rw[hC,hC]at e;lia
 obtain⟨c,g⟩:=C.row hi a b;rw[sQ];refine⟨e,?_,c,λp k=>?_⟩
 ·rw[Bd hi,Bd a];unfold Be;rw[hk i j hi a b];rfl
 ·obtain⟨d,h1,h2⟩:=Ar k;obtain⟨h,f⟩:=g d _ _ h1 h2;exact⟨by rw[hC,hC,h],f⟩
theorem wu{m:Nat}{w:dJ}{sg c:List Int}(hw:WebJ m w)(h:Fit m w sg c):∀(n a b:Nat),a<m->b<m->iS c a=iS c b->RA w sg n a b
 |0,_,_,_,_,_=>trivial
 |n+1,a,b,ha,hb,e=>by
  obtain⟨_,h2,j,k⟩:=sQ.mp (h a b ha hb e);refine⟨wu hw h n a b ha hb e,h2,j,λd p q g f=>?_⟩;obtain⟨o,l⟩:=k (p,q) (gM1 (i:=d) (cH.mpr ⟨g,f⟩));exact⟨wu hw h n _ _ (sr hw g) (sr hw f) o,l⟩
theorem kx{w:dJ}{sg:List Int}(h:i<m):(gv m w sg).getD i 0=col w sg m i:=by
 unfold gv;rw[bH,gP1,cr h];rfl
theorem vf{w:dJ}{sg:List Int}(hw:WebJ m w)(b:0<m):Fit m w sg (upI (gv m w sg)):=by
 intro i j hi c e;have o:RA w sg m i j:=by
  rw[<- gP];rw[hC,hC,kx hi,kx c]at e;lia
 obtain⟨n,t,q⟩:=HM (w:=w) (sg:=sg) b;have a:=q.on hw (m-n);rw[show n+(m-n)=m by lia]at a;obtain⟨_,h2,k,l⟩:=a i j hi c o;rw[sQ];refine⟨e,h2,k,λp r=>?_⟩;obtain⟨d,g,f⟩:=Ar r;obtain⟨h,s⟩:=l d _ _ g f;refine⟨?_,s⟩;rw[<- gP]at h;rw[hC,hC,kx (sr hw g),kx (sr hw f),h]
theorem zS{w:dJ}{sg c:List Int}(hw:WebJ m w)(h:Fit m w sg c)(ha:a<m)(hb:b<m)(e:iS c a=iS c b):(gv m w sg).getD a 0=(gv m w sg).getD b 0:=by
 rw[kx ha,kx hb,gP];exact wu hw h m a b ha hb e
theorem BY{w:dJ}{d:D}(C:Ao m w rs)(hk:mr m rs cs)(a:∀x∈ws,x<m)(b:0<m)(f:i<j)(o:j<ws.length)(e:rs.getD (ws.getD i 0) 0=rs.getD (ws.getD j 0) 0)(h:Nv m w ws cs M d):(∃c,d=J9 c/\c=gv m w (sgL m ws cs M) /\ ¬ c.Nodup) \/ ∃p q,d=alD p q (gv m w (sgL m ws cs J))/\p<q/\q<ws.length/\cw (gv m w (sgL m ws cs J)) ws p=cw (gv m w (sgL m ws cs J)) ws q:=by
 cases h with
 |co h=>exact .inl ⟨_,O,O,h⟩
 |al _ h g l=>
  cases l with
  |yes p q h1 h2 k r=>exact .inr ⟨p,q,O,h1,h2,k⟩
  |no n=>
   refine(n i j f o ?_).elim;unfold cw;exact zS C.web.toWebJ (yg C hk) (kq b a) (kq b a) (by rw[hC,hC,e])
 |no h g=>cases g
theorem Bb{w:dJ}{b:Bool}(hw:WebJ m w)(a:0<m)(hm:m<=8)(hn:¬ (gv m w (sgL m ws cs M)).Nodup)(q:Q (.bl M,S)):W (dI 4 d2 [webD w,ol ws cs,.bl b,J9 (gv m w (sgL m ws cs M))] S) Q:=by
 have c:=l9 (m:=m) (w:=w) (sg:=sgL m ws cs M);have d:=vf (sg:=sgL m ws cs M) hw a;generalize gv m w (sgL m ws cs M)=cl at *
 have e:J9 cl=KF (upI cl):=by
  unfold J9 KF;rw[xc]
 rw[e];refine A9 hw hm (by rw[rX];exact c) ?_;have:vC m w ws cs (upI cl)=M:=by
  unfold vC;rw[mx d,Bool.true_and,am];obtain⟨h1,h2⟩:=pw (upI cl) [] bp;rw[bf,bL,rX,c]at h1 h2;rw[cP]at h2;have:¬ (upI cl).Nodup:=λz=>hn (tW.mp z);unfold ddI;lia
 rw[this];exact q
theorem t0{w:dJ}{a:List Nat}{b:Bool}(hw:WebJ m w)(d:0<m)(hm:m<=8)(h:a.length=m)(hf:Fit m w (sgL m ws cs J) (upI a))(c:∀x∈ws,x<m)(f:i<j)(g:j<ws.length)(e:a.getD (ws.getD i 0) 0=a.getD (ws.getD j 0) 0)(q:Q (.bl b,S)):W (dI 4 d2 [webD w,ol ws cs,.bl b,alD i j a] S) Q:=by
 have k:alD i j a=D3 i j (upI a):=by
  unfold alD D3;rw[xc]
 rw[k];refine Ba hw d hm (by rw[rX];exact h) c (by lia) g ?_;have:vA m w ws cs b i j (upI a)=b:=by
  unfold vA;rw[mx hf,ah f,hC,hC,e];simp
 rw[this];exact q
theorem DG.ok{w:dJ}(h:DG m w):DF m w:=by
 refine⟨h.len,λrow a=>?_,λrow a e c=>?_⟩
 ·obtain⟨i,hi⟩:=bq a;exact h.le i row hi
 ·obtain⟨i,hi⟩:=bq a;obtain⟨d,b⟩:=bq c;obtain⟨r,h1,h2⟩:=h.bk i d e ⟨row,hi,b⟩;exact⟨r,h1,(R1 h2).1⟩
structure Mw (rs:List Nat)(ws:List Wk)(i j:Nat):Prop where
 ex:∃u v,ws[i]?=some u/\ws[j]?=some v/\u.1≠v.1/\rs.getD u.1 0=rs.getD v.1 0/\u.2=v.2
theorem rq{ws:List Wk}{u v:Wk}(h2:ws.length=2)(f:i≠j)(d:ws[i]?=Z u)(hv:ws[j]?=Z v)(hn:u.1≠v.1):crowd ws u.1=1:=by
 have hi:=(R1 d).1;have e:=(R1 hv).1
 match ws,h2 with
 |[a,b],_=>
  have c:v.1≠u.1:=λz=>hn z.symm;have g:i=0/\j=1\/i=1/\j=0:=by simp at hi e;lia
  rcases g with⟨rfl,rfl⟩|⟨rfl,rfl⟩
  ·simp at d hv;subst d;subst hv;simp[crowd,c]
  ·simp at d hv;subst d;subst hv;simp[crowd,c]
theorem J0{k l:Ky}(hm:k.m=l.m)(hc:k.code e=l.code e):lm e L k=lm e L l:=by
 unfold lm C7;rw[hc,hm]
theorem FU{w:dJ}{ws:List Wk}{u v:Wk}(C:Ao m w rs)(hk:mr m rs cs)(he:e.2.2.2=J\/ws.length=2)(c:i≠j)(d:ws[i]?=Z u)(hv:ws[j]?=Z v)(a:u.1<m)(b:v.1<m)(hn:u.1≠v.1)(hr:rs.getD u.1 0=rs.getD v.1 0)(h2:u.2=v.2):(ky w ws cs u).m=(ky w ws cs v).m/\(ky w ws cs u).code e=(ky w ws cs v).code e:=by
 have f:u.2.2=v.2.2:=by rw[h2]
 have g:u.2.1=v.2.1:=by rw[h2]
 have h:=hk u.1 v.1 a b hr;have k:((w[u.1]?).getD []).length=((w[v.1]?).getD []).length:=(C.row a b hr).1;refine⟨f,?_⟩;unfold Ky.code ky;dsimp only;rw[f]
 congr 1
 unfold E4.bs Ky.xs;dsimp only;rw[Ma,Ma,g,h,k]
 congr 1
 rcases he with he|he
 ·rw[he];rfl
 ·rw[rq he c d hv hn,rq he (Pr c) hv d (Pr hn)]
theorem yS{w:dJ}{u v:Wk}(C:Ao m w rs)(a:u.1<m)(b:v.1<m)(hn:u.1≠v.1)(hr:rs.getD u.1 0=rs.getD v.1 0)(h2:u.2=v.2)(x:D):(fA w u x).1≠(fA w v x).1/\rs.getD (fA w u x).1 0=rs.getD (fA w v x).1 0/\(fA w u x).2=(fA w v x).2:=by
 obtain⟨h,g⟩:=C.row a b hr;obtain⟨e,h1⟩:=sn C.web.toWebJ a;obtain⟨r2,c⟩:=sn C.web.toWebJ b;rw[ka h1,ka c]at h g;unfold fA;rw[h1,c];cases dt x with
 |none=>exact⟨hn,hr,by dsimp only;rw[h2]⟩
 |some t=>
  dsimp only[oS1];cases e1:e[t]? with
  |none=>
   rw[List.getElem?_eq_none_iff]at e1;rw[bX (show r2.length<=t by lia)];exact⟨hn,hr,by dsimp only;rw[h2]⟩
  |some p=>
   have j:=(R1 e1).1;obtain⟨q,d⟩:∃q,r2[t]?=some q:=⟨_,gG1 (by lia)⟩;rw[d];obtain⟨i,f⟩:=g t p q e1 d;refine⟨λz=>hn ?_,i,by dsimp only;rw[f]⟩;dsimp only at z;have b1:=C.web.bk u.1 t p ⟨e,h1,e1⟩;have b2:=C.web.bk v.1 t q ⟨r2,c,d⟩;rw[z,f]at b1;have:=j0 b1 b2;injection this
def Lve(L:List Rw):Prop:=∀p∈L,dh p.2="leave"
theorem JZ{k:Ky}(h:Lve L):dh (lm e L k)="leave":=by
 unfold lm;cases hf:L.find? (λp=>decide (p.1.code e=k.code e))with
 |none=>rfl
 |some p=>exact h p (List.mem_of_find?_eq_some hf)
theorem Dh{w:dJ}{ws:List Wk}(h:Lve L)(hc:cs=(af m).filter λr=>cs.contains r):hO m ws (ddW w ws cs e L) cs=cs:=by
 have no:∀(x:Str) (r:Nat),x≠"leave"->pY ws (ddW w ws cs e L) x r=J:=λx r a=>by
  unfold pY;rw[List.any_eq_false];intro u _ z;rw[bA1,RO,RO]at z;unfold ddW at z;rw[JZ h]at z;exact a z.2.symm
 unfold hO
 conv=>rhs;rw[hc]
 refine List.filter_congr λr _=>?_;rw[no "mark" r (by decide),no "wipe" r (by decide)];simp
theorem DB{w:dJ}{ws:List Wk}(C:Ao m w rs)(hw:mm m w ws cs)(hk:mr m rs cs)(he:e.2.2.2=J\/ws.length=2)(g:i≠j)(h:Mw rs ws i j):Mw rs (stepL m w e L (ws,cs)).1 i j:=by
 obtain⟨u,v,f,d,k,l,h2⟩:=h.ex;have a:=hw.lt u (gM1 f);have b:=hw.lt v (gM1 d);obtain⟨q,n⟩:=FU C hk he g f d a b k l h2;have c:ddW w ws cs e L u=ddW w ws cs e L v:=J0 q n;obtain⟨p,o,r⟩:=yS C a b k l h2 (ddW w ws cs e L v);refine⟨fA w u (ddW w ws cs e L u),fA w v (ddW w ws cs e L v),?_,?_,?_,?_,?_⟩
 ·show(ws.map _)[i]?=_;rw[gP1,f];rfl
 ·show(ws.map _)[j]?=_;rw[gP1,d];rfl
 ·rw[c];exact p
 ·rw[c];exact o
 ·rw[c];exact r
theorem GK{a:Wh}(h:Mw rs a.1 i j):Jf a=J:=by
 obtain⟨u,v,c,e,d,_,_⟩:=h.ex;obtain⟨ws,f⟩:=a;cases ws with
 |nil=>cases i<;>cases c
 |cons x ws=>
  refine cO.mpr λz=>d ?_;have b:(x::ws).all (λv=>v.1 == x.1)=M:=z;rw[bA]at b;have a1:=RO.mp (b u (gM1 c));have a2:=RO.mp (b v (gM1 e));rw[a1,a2]
def kH(xs:List Nat):List Nat:=(iB (xs.map λ(r:Nat)=>(r:Int))).map Int.toNat
theorem vR(xs:List Nat):(kH xs).Perm xs:=by
 have:=(fK (xs.map λ(r:Nat)=>(r:Int))).map Int.toNat
 rw[bu]at this;have e:(Int.toNat∘λ(r:Nat)=>(r:Int))=id:=by funext x;simp
 rw[e,List.map_id]at this;exact this
theorem A4(xs:List Nat):(iB (xs.map λ(r:Nat)=>(r:Int))).map D.int=nmD (kH xs):=by
 unfold nmD kH;rw[bu];refine cM λi hi=>?_;obtain⟨x,_,rfl⟩:=cf.mp ((fK _).mem_iff.mp hi);rfl
theorem Cw(xs:List Nat):re (nmD xs)=Z (xs.map λ(r:Nat)=>(r:Int)):=by
 induction xs with
 |nil=>rfl
 |cons x xs ih=>
  show(re (nmD xs)).map _=_;rw[ih];rfl
theorem GL{xs:List Nat}(h:S[n]?=Z (.lst (nmD xs)))(a:xs.length<64)(q:Q (.ref S.length,S++[.lst (nmD (kH xs))])):W (lY (.ref n) S) Q:=by
 refine W.of ?_ q;simp only[lY,h];rw[Cw,oS1,ak (by rw[lM1];exact a),A4]
theorem L7(xs:List D)(k:Nat):Mi.l8 xs Y (Z (k:Int))=xs.take k:=by
 unfold Mi.l8;rw[HT.uc,HT.xl,List.drop_zero,Nat.sub_zero];by_cases h:k<=xs.length
 ·rw[Nat.min_eq_left h]
 ·rw[Nat.min_eq_right (by lia),bU,ca (by lia)]
theorem Mj{m:FE}{hi:FO}{r:Ev}{k:Nat}{xs:List D}(hm:m r S=Z (.ref n,S))(a:hi r S=Z (Z (k:Int),S))(h:S[n]?=Z (.lst xs))(q:Q (.ref S.length,S++[.lst (xs.take k)])):W (kB m iY hi r S) Q:=by
 rw[<- L7]at q;refine W.of ?_ q;unfold kB;rw[hm,oS1];dsimp only;rw[show iY r S=Z (Y,S)from rfl,oS1];dsimp only;rw[a,oS1];simp only[sf,fS h,oP1,Qv]
theorem HL{xs:List D}{l:List Nat}(h:xs.Sublist (nmD l)):∃l':List Nat,l'.Sublist l/\xs=nmD l':=List.sublist_map_iff.mp h
theorem JK{w:dJ}(hw:w.length=m)(hm:m<=8)(j:rs.length=m)(ho:fw o n)(hn:n<=2^40)(h:T.all (Ob.und (T.length+1))=M)(q:∀(ks:List Nat) o',fw o' (n+8)->Q (.tup (nmD ((af m).filter λr=>ks.contains (rs.getD r 0))),o'::T)):W (dI 3 gX [.ref 0,webD w,.tup (nmD rs)] (o::T)) Q:=by
 refine ma O O h ?_;unfold gX;refine i6 ?_;unfold nv;refine d4 (λr S=>∃(ks:List Nat) (o':Ob),fw o' (n+8)/\S=o'::(T++[.lst (nmD ks)])/\r=[Z (.ref 0),Z (webD w),Z (.tup (nmD rs)),Z (.ref (T.length+1))]) ?_ ?_
 ·wp_walk using km,hw
  refine⟨eL (by lia),?_⟩;rw[Qr];have d:(fX 0 m).length<=8:=by rw[et];exact hm
  refine BC ho (by lia) (by decide) (by decide) λxs s u b c=>?_;have k:=c.length_le;rw[kR]at c;obtain⟨ks,_,rfl⟩:=HL (l:=af m) c;refine⟨dR (by dsimp only;lia),?_⟩;walk_at"w";exact⟨ks,s,b.more (by lia),O,trivial⟩
 rintro r S ⟨ks,o',a,rfl,rfl⟩;have g:(o'::(T++[Ob.lst (nmD ks)]))[T.length+1]?=Z (.lst (nmD ks)):=by rw[gC1,dQ];rfl
 generalize p:o'::(T++[Ob.lst (nmD ks)])=V at g
 wp_walk using km,hw
 refine⟨eL (by lia),?_⟩;rw[Qr,kR];refine iH (f:=λi:Nat=>D.int i) (λr=>ks.contains (rs.getD r 0)) (λr:Nat=>D.int r) (λr=>∃x,r=[x,Z (.tup (nmD rs)),Z (.ref (T.length+1))]) O (af m) _ ⟨_,O⟩ ?_ λt _=>?_
 ·rintro i hi r ⟨x,rfl⟩;have hi:=aC.mp hi;walk_at"w";refine vt (by lia) ?_;refine W.of (JR g) ?_;walk_at"w";exact⟨⟨_,O⟩,λ_=>trivial⟩
 ·have e:((af m).filter λr=>ks.contains (rs.getD r 0)).map (λr:Nat=>D.int r)=nmD ((af m).filter λr=>ks.contains (rs.getD r 0)):=rfl;rw[e];have d:=cX (λr=>ks.contains (rs.getD r 0)) (af m);rw[cB]at d;refine⟨dR (by rw[ej];lia),?_⟩;walk_at"w";refine ei (by rw[dQ];rfl) ?_;refine⟨_,o',[.lst (nmD ks),.lst (nmD ((af m).filter λr=>ks.contains (rs.getD r 0)))],?_,by rw[D.und];exact fx _,a.und,q ks o' a⟩;rw[<- p];simp
theorem zM {its:List D}{xs:List D}(h:xs.Sublist its)(f:its.Sublist [.str "came",.str "chalk",.str "doors",.str "others"]):∃e:E4,xs=gg e.1 e.2.1 e.2.2.1 e.2.2.2:=by
 obtain⟨a,b,c,d,e⟩:=CW (h.trans f);exact⟨(a,b,c,d),e⟩
theorem zk {xs:List D}(h:xs.Sublist [.str "came",.str "chalk",.str "doors"])(he:xs=gg e.1 e.2.1 e.2.2.1 e.2.2.2):e.2.2.2=J:=by
 obtain⟨a,b,c,d⟩:=e;cases d with
 |false=>rfl
 |true=>
  have:D.str "others"∈xs:=by rw[he];unfold gg;simp
  have:=h.subset this;simp at this;exact absurd this (by decide)
theorem JX {its:List D}(b:its.Sublist [.str "came",.str "chalk",.str "doors",.str "others"])(ho:fw o n)(hn:n<=2^45)(f:T.all (Ob.und (T.length+1))=true)
  (h:∀(e:E4) o',(its=[.str "came",.str "chalk",.str "doors"]->e.2.2.2=J)->fw o' (n+4)->Q (eyD e,o'::T)):W (dI 2 gZ [.ref 0,.tup its] (o::T)) Q:=by
 have g:its.length<=4:=b.length_le;refine ma O O f ?_;unfold gZ;refine i6 ?_;unfold nw;walk_at"w";rw[ik];refine BC ho (by lia) (by decide) (by decide) λxs d j a c=>?_;obtain⟨e,rfl⟩:=zM c b;have i:=CY e.1 e.2.1 e.2.2.1 e.2.2.2;refine⟨dR (by dsimp only;lia),?_⟩;walk_at"w";refine ei (xs:=gg e.1 e.2.1 e.2.2.1 e.2.2.2) (by rw[gC1,dQ];rfl) ?_;exact⟨_,d,_,O,l5 e,a.und,h e d (λz=>zk (z ▸ c) O) (a.more (by lia))⟩
noncomputable def upM(i:Nat)(k:Ky):Ky:=⟨i,k.x,k.y,k.z,k.w⟩
theorem lx{k:Ky}(h:k.m=0):(upM i k).code e=i*4096+k.code e:=by
 unfold Ky.code upM Ky.xs;dsimp only;rw[h,Nat.zero_mul,bL]
theorem Ku(e:E4):(SG e).Pairwise λa b=>a.code e<b.code e:=by
 obtain⟨a,b,c,d⟩:=e;cases a<;>cases b<;>cases c<;>cases d<;>decide+kernel
theorem DU(e:E4):(SG e).length<=100:=by
 obtain⟨a,b,c,d⟩:=e;cases a<;>cases b<;>cases c<;>cases d<;>decide+kernel
def qg(e:E4)(n:Nat):List Ky:=(af n).flatMap λi=>(SG e).map (upM i)
theorem rP(e:E4)(n:Nat):qg e (n+1)=qg e n++(SG e).map (upM n):=by
 unfold qg;rw[c9,List.flatMap_append];simp
theorem Dz(e:E4)(n:Nat):(qg e n).Pairwise λa b=>a.code e<b.code e:=by
 unfold qg;rw[List.pairwise_flatMap];refine⟨λi _=>?_,List.pairwise_lt_range.imp λ{i j} g a f b k=>?_⟩
 ·rw[cR];refine List.Pairwise.imp_of_mem (λ{x y} c d h=>?_) (Ku e);rw[lx (pM c).1,lx (pM d).1];lia
 ·obtain ⟨x,c,rfl⟩:=cf.mp f;obtain ⟨y,d,rfl⟩:=cf.mp k;rw [lx (pM c).1,lx (pM d).1];have h1:x.code e<4096:=by
   have:=jU (pM c).2.1 e;unfold Ky.code;rw[(pM c).1];lia
  lia
theorem pK(e:E4):∀n:Nat,(qg e n).length<=100*n
 |0=>nR1 _
 |n+1=>by
  rw[rP,lA1,lM1];have:=pK e n;have:=DU e;lia
def KG(hs:List D)(p:Rw):Prop:=∃d h t,p.2 = .tup [.int (d:Nat),h,t]/\d<4000/\h∈hs/\t∈qm
theorem KG.deed{hs:List D}{p:Rw}(h:KG hs p)(b:∀x∈hs,x∈rf):ms p.2:=by
 obtain⟨d,x,t,e,h1,h2,a⟩:=h;exact⟨d,x,t,e,h1,b x h2,a⟩
theorem GH(hn:n<=4000):∀k∈qg e n,k.Ok:=λk a=>by
 obtain⟨i,hi,a⟩:=de.mp a;obtain⟨x,b,rfl⟩:=cf.mp a;have:=aC.mp hi;have o:=(pM b).2.1;exact⟨by show i<4000;lia,o.x,o.y,o.z,o.w⟩
inductive MJ (T:Sto)(e:E4)(hs:List D)(mo:Nat)(ks:List Ky)(n:Nat):Ev->Sto->Prop
 |mk (o:Ob) (L:List Rw) (G:Sto) (y5 y6 y7:Option D) (ho:fw o n) (h3:(L.map (·.1)).Sublist ks) (h4:∀p∈L,KG hs p):MJ T e hs mo ks n [some (.ref 0),some (eyD e),some (.tup hs),some (.int (mo:Nat)),some (.ref (T.length+1)),y5,y6,y7] (o::(T ++ .lst (L.map (fT e))::G))
theorem I1{mo:Nat}{G:Sto}{hs:List D}{ks:List Ky}{k:Ky}{ao:Option D}(H:0<hs.length)(F:hs.length<=3)(P:0<mo)(R:mo<=3)(ho:fw o n)(hn:n<=2^45)(B:ks.length<=1000)(u:(L.map (·.1)).Sublist ks)(z:∀ p∈L,KG hs p):
  W (gH [Z (.ref 0),Z (eyD e),Z (.tup hs),Z (.int (mo:Nat)),Z (.ref (T.length+1)),Z (.int (i:Nat)),Z (k.sg e),ao] (o::(T ++ .lst (L.map (fT e))::G))) λp=>p.1 = .nx/\p.2.1[5]?=Z (Z (.int (i:Nat)))/\MJ T e hs mo (ks++[upM i k]) (n+4) p.2.1 p.2.2:=by
 have C:(L.map (fT e)).length<=1000:=by
  have:=u.length_le;rw[lM1]at this ⊢;lia
 unfold gH;refine d4 (λr S=>∃(o':Ob) (x:D) (c:Sto),KG hs (upM i k,x)/\fw o' (n+3)/\S=o'::(T ++ .lst (L.map (fT e))::c)/\r=[Z (.ref 0),Z (eyD e),Z (.tup hs),Z (.int (mo:Nat)),Z (.ref (T.length+1)),Z (.int (i:Nat)),Z (k.sg e),Z x]) ?_ ?_
 ·walk_at"w";refine fD ho (by lia) (by lia) (by lia) λd g a A=>?_;walk_at"w";refine fD a (by lia) (by lia) (by lia) λm Q t I=>?_;refine hP (i:=m) (x:=hs[m]'(by lia)) (gG1 _) ?_;have v:hs[m]'(by lia)∈hs:=bQ _;generalize hs[m]'(by lia)=hh at *
  walk_at"w";refine fD t (by lia) (by lia) (by lia) λb N s E=>?_;refine j1 (i:=b) (xs:=[.non,.int 0,.int 1,.int 2,.int 3]) (x:=([.non,.int 0,.int 1,.int 2,.int 3]:List D)[b]'(by show b<5;lia)) ?_ (gG1 _) ?_
  ·first
    |(rw[gC1,eO];simp;done)
    |simp
  have q:([.non,.int 0,.int 1,.int 2,.int 3]:List D)[b]'(by show b<5;lia)∈qm:=bQ _;generalize ([.non,.int 0,.int 1,.int 2,.int 3]:List D)[b]'(by show b<5;lia)=tt at *
  refine⟨N,_,G++[.lst [.non,.int 0,.int 1,.int 2,.int 3]],⟨d,hh,tt,O,by lia,v,q⟩,s.more (by lia),?_,O⟩;simp
 rintro r S ⟨o',x,c,av,w,rfl,rfl⟩;have j:∀{l:List Rw},(l.map (·.1)).Sublist ks->(l.map (·.1)).Sublist (ks++[upM i k]):=λh=>h.trans (List.sublist_append_left _ _);walk_at"w";refine fD w (by lia) (by lia) (by lia) λd g a A=>?_;walk_at"w";split
 ·refine i9 ?_;walk_at"w";have y:(g::(T++Ob.lst (L.map (fT e))::c))[T.length+1]?=Z (.lst (L.map (fT e))):=by rw[gC1,dQ];rfl
  refine⟨T.length+1,_,O,y,?_⟩;refine(k7 y).mpr ⟨dR (by lia),?_⟩;have K:D.tup [.tup [.int (i:Nat),k.sg e],x]=fT e (upM i k,x):=rfl;rw[K];have aq:(g::(T++Ob.lst (L.map (fT e))::c)).set (T.length+1) (.lst (L.map (fT e)++[fT e (upM i k,x)]))=g::(T ++ .lst ((L++[(upM i k,x)]).map (fT e))::c):=by
   rw[cD,cZ _ _ (nR1 _),cF,cT,cc];rfl
  rw[aq];refine⟨g,L++[(upM i k,x)],c,_,_,_,a.more (k:=n+4) (by lia),?_,λp f=>?_⟩
  ·rw[cc];exact u.append (List.Sublist.refl _)
  ·rcases aG.mp f with f|f
   ·exact z p f
   ·rw[cv]at f;subst f;exact av
 ·exact⟨g,L,c,_,_,_,a.more (k:=n+4) (by lia),j u,z⟩
theorem zq{hs:List D}(F:0<hs.length)(E:hs.length<=3)(hh:∀ x∈hs,x∈rf)(ho:fw o n)(hn:n<=2^40)(X:T.all (Ob.und (T.length+1))=M)(q:∀L o',Inc e L->(∀p∈L,pN p)->(∀p∈L,KG hs p)->L.length<=4000->fw o' (n+2000)->Q (mcD e L,o'::T)):W (dI 3 fO [.ref 0,eyD e,.tup hs] (o::T)) Q:=by
 refine ma O O X ?_;unfold fO;refine i6 ?_;unfold jY;refine d4 (λr S=>∃(u:Ob) (c:Nat),0<c/\c<=3/\fw u (n+1)/\S=u::(T ++ .lst (([]:List Rw).map (fT e))::[])/\r=[Z (.ref 0),Z (eyD e),Z (.tup hs),Z (.int (c:Nat)),Z (.ref (T.length+1)),Y,Y,Y]) ?_ ?_
 ·walk_at"w";refine fD ho (by lia) (by lia) (by lia) λd u m l=>?_;walk_at"w";refine⟨u,d+1,by lia,by lia,m,O,?_⟩
  first|rfl|simp[Int.add_comm]
 rintro r S ⟨u,c,m0,m3,m,rfl,rfl⟩;refine d4 (MJ T e hs c (qg e c) (n+1+401*c)) ?_ ?_
 ·walk_at"w";refine⟨eL (by lia),?_⟩;rw[Qr];refine eN (λi r S=>i<=c/\MJ T e hs c (qg e i) (n+1+401*i) r S) (fX 0 c) 0 _ _ ⟨bi _,u,[],[],_,_,_,m,List.Sublist.refl _,λp y=>by cases y⟩ (λ_ _ _ _=>rfl) ?_ ?_
  ·rintro i d l r S ⟨hi,z,L,G,V,P,y7,g,v,A⟩;have w:=(R1 l).1;rw[et]at w;rw[kR,gP1,cr w]at l;cases l;rw[bL]at *
   have hal:=pK e i;have R:=DU e;walk_at"w";unfold iW;walk_at"w";refine A8 ?_;rw[ik];refine eN (λt r S=>t<=(SG e).length/\r[5]?=Z (Z (.int (i:Nat)))/\MJ T e hs c (qg e i++((SG e).take t).map (upM i)) (n+1+401*i+4*t) r S) _ 0 _ _ ⟨bi _,O,z,L,G,_,_,_,g,by simpa using v,A⟩ (λ_ _ _ _=>rfl) ?_ ?_
   ·rintro t d l r S ⟨U,s,o3,L',G',I,wq,z7,B,g3,g4⟩;rw[gP1]at l;obtain⟨k,aq,rfl⟩:=R4 l;have N:=(R1 aq).1;have C:(SG e).take (t+1)=(SG e).take t++[k]:=by rw[List.take_add_one,aq];rfl
    rw[bL]at *
    rw[show([Z (.ref 0),Z (eyD e),Z (.tup hs),Z (.int (c:Nat)),Z (.ref (T.length+1)),I,wq,z7]:Ev)[5]?=Z I from rfl]at s;cases s;walk_at"w";refine(I1 F E m0 m3 B (by lia) (by rw[lA1,lM1,aR];lia) g3 g4).mono ?_;rintro⟨f,r2,S2⟩ ⟨ao,K,j⟩;dsimp only at ao K j ⊢;subst ao;rw[C,cc,<- bE];exact⟨O,by lia,K,j⟩
   ·rintro r S ⟨U,s,j⟩;rw[lM1,bL,bU,<- rP]at j;refine⟨O,by lia,?_⟩;obtain⟨au,av,G4,a5,a6,a7,b1,b2,b3⟩:=j;exact⟨au,av,G4,_,_,_,b1.more (by lia),b2,b3⟩
  ·rintro r S ⟨hi,j⟩;rw[et,bL]at j;exact⟨O,j⟩
 rintro r S ⟨z,L,G,V,P,y7,g,v,A⟩;have ok:∀p∈L,pN p:=λp y=>⟨GH (n:=c) (by lia) p.1 (v.subset (cf.mpr ⟨p,y,O⟩)),(A p y).deed hh⟩;have H:Inc e L:=List.Pairwise.of_map (S:=λa b:Ky=>a.code e<b.code e) (·.1) (λa b h=>h) ((Dz e c).sublist v);have hl:L.length<=300:=by
  have h1:=v.length_le;have h2:=pK e c;rw[lM1]at h1;lia
 walk_at"w";refine ei (xs:=L.map (fT e)) (by rw[gC1,dQ];rfl) ?_;refine⟨mcD e L,z,_,O,xJ ok,g.und,q L z H ok A (by lia) (g.more (by lia))⟩
theorem DL{m:FE}{lo hi:FO}{r:Ev}{S1 S2 S3:Sto}{xs:List D}{a b:Option Int}(hm:m r S=Z (.tup xs,S1))(c:lo r S1=Z (a,S2))(d:hi r S2=Z (b,S3))(q:Q (.tup (Mi.l8 xs a b),S3)):W (kB m lo hi r S) Q:=by
 refine W.of ?_ q;unfold kB;rw[hm,oS1];dsimp only;rw[c,oS1];dsimp only;rw[d,oS1];simp only[sf,iC,oP1];rfl
theorem NJ(xs:List D)(k:Nat):Mi.l8 xs (Z (k:Int)) Y=xs.drop k:=by
 unfold Mi.l8;rw[HT.uc,HT.xl];by_cases h:k<=xs.length
 ·rw[Nat.min_eq_left h,ca (by simp)]
 ·rw[Nat.min_eq_right (by lia),List.drop_length,List.drop_of_length_le (by lia)];simp
inductive WL (T:Sto)(m n:Nat)(w:dJ)(rs:List Nat)(i:Nat):Ev->Sto->Prop
 |mk (o:Ob) (G:Sto) (sm:List Nat) (x3 x4 x6:Option D) (ho:fw o (n+3+2*i)) (h0:∀x∈sm,x<m) (hl:sm.length<=2+i) (hi:i<=2):WL T m n w rs i [some (.ref 0),some (webD w),some (.tup (nmD rs)),x3,x4,some (.ref (T.length+G.length+1)),x6] (o::(T++(G++[.lst (nmD sm)])))
theorem yI{w:dJ}(hw:w.length=m)(hm0:0<m)(hm:m<=8)(hrs:rs.length=m)(ho:fw o n)(hn:n<=2^40)(hT:T.all (Ob.und (T.length+1))=M)(q:∀(ws E:List Nat) o',(∀x∈E,x∈ws)->E.Pairwise (· <= ·)->ws.Pairwise (· < ·)->(∀x∈ws,x<m)->ws.length<=8->E.length<=2->fw o' (n+10)->Q (.tup [.tup (nmD ws),.tup (nmD E)],o'::T)):W (dI 3 fN [.ref 0,webD w,.tup (nmD rs)] (o::T)) Q:=by
 refine ma O O hT ?_;unfold fN;refine i6 ?_;unfold jW;refine d4 (λr S=>∃(o':Ob) (one:Nat),one<m/\fw o' (n+1)/\S=o'::T/\r=[Z (.ref 0),Z (webD w),Z (.tup (nmD rs)),Z (.int (one:Nat)),Y,Y,Y]) ?_ ?_
 ·wp_walk using km,hw
  refine fD ho (by lia) (by lia) (by lia) λd B F av=>?_;walk_at"w";exact⟨B,d,by lia,F,O,O⟩
 rintro r S ⟨B,one,X,F,rfl,rfl⟩;refine d4 (λr S=>∃(j:List Nat),(∀x∈j,x<m)/\j.length<=8/\S=B::(T++[.lst (nmD j)])/\r=[Z (.ref 0),Z (webD w),Z (.tup (nmD rs)),Z (.int (one:Nat)),Z (.ref (T.length+1)),Y,Y]) ?_ ?_
 ·wp_walk using km,hw
  refine⟨eL (by lia),?_⟩;rw[Qr,kR];refine iH (f:=λi:Nat=>D.int i) (λx=>(!((x:Int) == (one:Int)))&&((rs.getD x 0:Nat):Int) == ((rs.getD one 0:Nat):Int)) (λr:Nat=>D.int r) (λr=>∃x,r=[x,Z (.int (one:Nat)),Z (.tup (nmD rs))]) O (af m) _ ⟨_,O⟩ ?_ λr' _=>?_
  ·rintro i hi r ⟨x,rfl⟩;have hi:=aC.mp hi;walk_at"w";cases h: !((i:Int) == (one:Int))with
   |false=>
    rw[aj (by decide)];exact⟨O,⟨_,O⟩,λz=>trivial⟩
   |true=>
    rw[ak O];refine vt (by lia) ?_;refine vt (by lia) ?_;walk_at"w";exact⟨O,⟨_,O⟩,λ_=>trivial⟩
  ·generalize hk:(λx:Nat=>(!((x:Int) == (one:Int)))&&((rs.getD x 0:Nat):Int) == ((rs.getD one 0:Nat):Int))=kf;have e:((af m).filter kf).map (λr:Nat=>D.int r)=nmD ((af m).filter kf):=rfl;rw[e];have hl:=cX kf (af m);rw[cB]at hl;refine⟨dR (by rw[ej];lia),?_⟩;walk_at"w";exact⟨_,λx t=>aC.mp (aB.mp t).1,by lia,O,trivial⟩
 rintro r S ⟨j,htw,htl,rfl,rfl⟩;refine d4 (WL T m n w rs 0) ?_ ?_
 ·walk_at"w";have g1:(B::(T++[Ob.lst (nmD j),.lst [.int (one:Nat)],.lst []]))[T.length+1]?=Z (.lst (nmD j)):=by rw[gC1,dQ];rfl
  have g3:(B::(T++[Ob.lst (nmD j),.lst [.int (one:Nat)],.lst []]))[T.length+3]?=Z (.lst []):=by rw[gC1,eO];rfl
  have en:=x2 g1 g3;refine W.of en ?_;dsimp only;have P:∀(H:Ob) (l:List Nat),l.length<=1->(∀x∈l,x<m)->fw H (n+2)->fits (nmD l).length=M/\W (fY (.ref (T.length+2)) (.ref (H::(T++[Ob.lst (nmD j),.lst [.int (one:Nat)],.lst []])).length) ((H::(T++[Ob.lst (nmD j),.lst [.int (one:Nat)],.lst []]))++[Ob.lst (nmD l)])) λx=>WL T m n w rs 0 [Z (.ref 0),Z (webD w),Z (.tup (nmD rs)),Z (.int (one:Nat)),Z (.ref (T.length+1)),Z x.1,Y] x.2:=by
   intro H l U A ao;refine⟨dR (by rw[ej];lia),?_⟩;refine(DR (xs:=nmD [one]) (ys:=nmD l) ?_ (by rw[dQ];rfl)).mpr ⟨dR (by rw[ej,ej];simp;lia),?_⟩
   ·rw[bj,gC1,bE,eO];rfl
   have e1:nmD [one]++nmD l=nmD (one::l):=rfl;have e2:H::(T++[Ob.lst (nmD j),.lst [.int (one:Nat)],.lst []])++[Ob.lst (nmD l)]++[Ob.lst (nmD [one]++nmD l)]=H::(T++([Ob.lst (nmD j),.lst [.int (one:Nat)],.lst [],.lst (nmD l)]++[.lst (nmD (one::l))])):=by rw[e1];simp
   have e3:(H::(T++[Ob.lst (nmD j),.lst [.int (one:Nat)],.lst []])++[Ob.lst (nmD l)]).length=T.length+[Ob.lst (nmD j),.lst [.int (one:Nat)],.lst [],.lst (nmD l)].length+1:=by simp
   rw[e2,e3];refine⟨H,_,one::l,_,_,_,ao.more (by lia),λx t=>?_,by rw[lC1];lia,by lia⟩;rcases aF.mp t with rfl|t
   ·exact X
   ·exact A x t
  generalize hV:(T++[Ob.lst (nmD j),.lst [.int (one:Nat)],.lst []])=V at *
  cases j with
  |nil=>
   rw[dV];show yr 0=M/\_;refine⟨eL (n:=0) (by lia),?_⟩;show W (fH _ _ _ _ [] _ (B::V)) _;rw[fH];dsimp only;rw[ak (show pP (B::V) []=M from rfl),dV];exact P B [] (by simp) (λx t=>by cases t) (F.more (by lia))
  |cons wq j=>
   rw[dV];show yr 1=M/\_;refine⟨eL (n:=1) (by lia),?_⟩;show W (fH _ _ _ _ (fX 0 1) _ (B::V)) _;refine iE (λi R r S=>∃(o':Ob) (l:List Nat) (x:Option D),l.length<=i/\i<=1/\(∀x∈l,x<m)/\fw o' (n+1+i)/\R=nmD l/\S=o'::V/\r=[x,Z (.ref (T.length+1)),Z (.ref 0)]) (fX 0 1) 0 [] _ _ ⟨B,[],_,nR1 _,by lia,λx t=>(by cases t),F,O,O,O⟩ (λ_ _ _ _ _=>rfl) ?_ ?_
   ·rintro i d av R r S ⟨o',l,x,U,hi1,A,aq,rfl,rfl,rfl⟩;have L:=(R1 av).1;rw[et]at L;rw[bL]at *
    have gt:∀y:Ob,(y::V)[T.length+1]?=Z (.lst (nmD (wq::j))):=λy=>by rw[<- g1];rfl
    walk_at"w";refine ei (gt o') ?_;refine fD aq (by lia) (by rw[ej,lC1];lia) (by rw[ej];lia) λd o3 I av=>?_;rw[ej]at av;refine j1 (i:=d) (xs:=nmD (wq::j)) (x:=.int ((wq::j)[d]'(by lia):Nat)) (gt o3) (by rw[nmD,gP1,gG1 (by lia)];rfl) ?_;refine⟨o3,l++[(wq::j)[d]'(by lia)],_,by rw[lA1];simp;lia,by lia,λx t=>?_,I.more (by lia),by rw[nT],O,O⟩;rcases aG.mp t with h|h
    ·exact A x h
    ·rw[cv]at h;subst h;exact htw _ (bQ _)
   ·rintro xs r S ⟨o',l,x,U,hi1,A,aq,e,rfl,rfl⟩;rw[cP]at e;subst e;rw[et]at *
    exact P o' l (by lia) A (aq.more (by lia))
 rintro r S ⟨H,G,g,x3,x4,au,ao,h0,hl,_⟩;refine d4 (λr S=>∃i,WL T m n w rs i r S) ?_ ?_
 ·walk_at"w";refine fD ao (by lia) (by lia) (by lia) λd o3 I av=>?_;refine⟨eL (by lia),?_⟩;rw[Qr];have hd2:d<=2:=by lia
  refine eN (λi r S=>i<=d /\ ∃(o:Ob) (g:List Nat) (au:Option D),fw o (n+4+i)/\(∀x∈g,x<m)/\g.length<=2+i/\S=o::(T++(G++[.lst (nmD g)]))/\r=[Z (.ref 0),Z (webD w),Z (.tup (nmD rs)),x3,x4,Z (.ref (T.length+G.length+1)),au]) (fX 0 d) 0 _ _ ⟨bi _,o3,g,_,I.more (by lia),h0,hl,O,O⟩ (λ_ _ _ _=>rfl) ?_ ?_
  ·rintro i dd hdd r S ⟨hi,v,s,y6,u,h4,hl4,rfl,rfl⟩;have L:=(R1 hdd).1;rw[et]at L;rw[bL]at *
   walk_at"w";unfold iV;unfold fG;rw[dN];refine i9 ?_;walk_at"w";have K:∀y:Ob,(y::(T++(G++[Ob.lst (nmD s)])))[T.length+G.length+1]?=Z (.lst (nmD s)):=λy=>by rw[gC1,eO,dQ];rfl
   refine⟨T.length+G.length+1,nmD s,O,K v,?_⟩
   wp_walk using km,hw
   refine fD u (by lia) (by lia) (by lia) λc o5 ho5 hc=>?_;refine(k7 (K o5)).mpr ⟨dR (by rw[ej];lia),?_⟩;have e2:(o5::(T++(G++[Ob.lst (nmD s)]))).set (T.length+G.length+1) (.lst (nmD s++[.int (c:Nat)]))=o5::(T++(G++[.lst (nmD (s++[c]))])):=by
    rw[cD,cZ _ _ (by lia),show T.length+G.length-T.length=G.length by lia,cZ _ _ (nR1 _),cF,cT,nT]
   rw[e2];refine⟨by lia,o5,s++[c],_,ho5.more (by lia),λx t=>?_,by rw[lA1];simp;lia,O,O⟩;rcases aG.mp t with h|h
   ·exact h4 x h
   ·rw[cv]at h;subst h;lia
  ·rintro r S ⟨hi,v,s,y6,u,h4,hl4,rfl,rfl⟩;rw[et,bL]at *
   exact⟨O,2,v,G,s,_,_,_,u.more (by lia),h4,by lia,by lia⟩
 rintro r S ⟨i,v,G,g,x3,x4,au,u,h0,hl,hi⟩;have K:(v::(T++(G++[Ob.lst (nmD g)])))[T.length+G.length+1]?=Z (.lst (nmD g)):=by rw[gC1,eO,dQ];rfl
 have hlen:(v::(T++(G++[Ob.lst (nmD g)]))).length=T.length+G.length+2:=by simp;lia
 have eV:v::(T++(G++[Ob.lst (nmD g)]))=v::(T++(G++[Ob.lst (nmD g)])):=rfl;generalize hV:v::(T++(G++[Ob.lst (nmD g)]))=V at K;have sl:∀N,N[T.length+G.length+1]?=Z (.lst (nmD g))->W (kB (mV 5) iY (jm (mC (D.int 2))) [Z (.ref 0),Z (webD w),Z (.tup (nmD rs)),x3,x4,Z (.ref (T.length+G.length+1)),au] N) λp=>p=(.ref N.length,N++[.lst (nmD (g.take 2))]):=λN h=>Mj (n:=T.length+G.length+1) (k:=2) O O h (by rw[nmD,nmD,List.map_take]);walk_at"w";refine rQ (xs:=g) (m:=m) (f:=λr=>g.contains r) K (λr=>⟨λh=>⟨h0 r h,by rw[cJ];exact h⟩,λh=>by rw[<- cJ];exact h.2⟩) (by lia) ?_;walk_at"w";refine ei (by rw[dQ];rfl) ?_;generalize C:(af m).filter (λr=>g.contains r)=ws at *
 have gs':(V++[Ob.lst (nmD ws)])[T.length+G.length+1]?=Z (.lst (nmD g)):=by rw[gL1 (R1 K).1];exact K
 refine(sl _ gs').mono ?_;rintro p rfl;dsimp only;refine GL (xs:=g.take 2) (by rw[dQ];rfl) (by rw[aR];lia) ?_;walk_at"w";refine ei (xs:=nmD (kH (g.take 2))) (by first|(rw[dQ];rfl)|simp) ?_;have hp:=vR (g.take 2);have hl2:(kH (g.take 2)).length<=2:=by rw[hp.length_eq,aR];lia
 have hwl:ws.length<=8:=by
  have:=cX (λr=>g.contains r) (af m);rw[C,cB]at this;lia
 refine⟨.tup [.tup (nmD ws),.tup (nmD (kH (g.take 2)))],v,G++[Ob.lst (nmD g),.lst (nmD ws),.lst (nmD (g.take 2)),.lst (nmD (kH (g.take 2)))],?_,?_,u.und,q ws (kH (g.take 2)) v (λx t=>?_) ?_ ?_ (λx t=>?_) hwl hl2 (u.more (by lia))⟩
 ·rw[<- hV];simp
 ·simp[D.und,D.unds,fx]
 ·have h1:=cC (hp.mem_iff.mp t);rw[<- C];exact aB.mpr ⟨aC.mpr (h0 x h1),by rw[cJ];exact h1⟩
 ·unfold kH;rw[cR];exact(jz _).imp λ{a b} h=>by lia
 ·rw[<- C];exact List.pairwise_lt_range.filter _
 ·rw[<- C]at t;exact aC.mp (aB.mp t).1
theorem yk{S:Sto}{n p:Nat}:∀ws:List Nat,p9 (i7 S (n+1)) (.int (p:Nat)) (nmD ws)=Z (ws.map λa=>a == p)
 |[]=>rfl
 |a::ws=>by
  have c:i7 S (n+1) (.int (a:Nat)) (.int (p:Nat))=Z ((a:Int) == (p:Int)):=rfl;have b:((a:Int) == (p:Int))=(a == p):=by rw[bO,RO,RO];lia
  show p9 (i7 S (n+1)) _ (.int (a:Nat)::nmD ws)=_;rw[p9,c,oS1,yk ws,b];rfl
theorem Hf{p:Nat}:∀{ws:List Nat},p∈ws->(ws.map λa=>a == p).findIdx? id=Z (ws.idxOf p)
 |a::ws,h=>by
  rw[mP1,List.findIdx?_cons,List.idxOf_cons];by_cases e:a=p
  ·subst e;simp
  ·have b:(a == p)=J:=by simpa using e
   rcases aF.mp h with h|h
   ·exact absurd h.symm e
   ·rw[b,Hf h];simp
theorem tL{p:Nat}{m:FE}{a:FA}{r:Ev}{S1 S2:Sto}(hm:m r S=Z (.tup (nmD ws),S1))(ha:a r S1=Z ([.int (p:Nat)],S2))(hp:p∈ws)(q:Q (.int (ws.idxOf p:Nat),S2)):W (pZ (b2 jP) m a r S) Q:=by
 refine W.of ?_ q;unfold pZ;rw[hm,oS1];dsimp only;rw[ha,oS1];show jP (.tup (nmD ws)) (.int (p:Nat)) S2=_;unfold jP;dsimp only;rw[show d8=59+1 from rfl,yk,oS1,Hf hp];rfl
theorem pc{p:Nat}(hp:p∈ws):ws[ws.idxOf p]?=Z p:=by
 have h:=df hp;rw[gG1 h,dg]
theorem JT(hw:ws.Pairwise (· < ·))(ha:a∈ws)(hb:b∈ws)(h:a<b):ws.idxOf a<ws.idxOf b:=by
 have d:=df ha;have c:=df hb;refine Nat.lt_of_not_le λz=>?_;have e:ws[ws.idxOf a]=a:=dg d;have eb:ws[ws.idxOf b]=b:=dg c;rcases Nat.lt_or_eq_of_le z with z|z
 ·have:=b7.mp hw _ _ c d z;rw[e,eb]at this;lia
 ·have:a=b:=by rw[<- e,<- eb];simp[z]
  lia
theorem A1{w:dJ}{ws:List Wk}(h:Lve L)(hc:cs=(af m).filter λr=>cs.contains r):∃a,stepL m w e L (ws,cs)=(a,cs):=⟨_,Prod.ext O (Dh h hc)⟩
theorem Je{w:dJ}{ws:List Wk}{X:Sto}{y z:Option D}{n r l s:Option D}{Q:Fl×Ev×Sto->Prop}{c:List Nat}(hw:mm m w ws cs)(h:Mw rs ws i j)(k:Inc e L)(ok:∀ p∈L,pN p)(I:L.length<=4000)(q:∀f g,Q (.nx,[n,some (webD w),some (eG c cs),r,l,some (mcD e L),some (DY (stepL m w e L (ws,cs))),some (.int (i:Nat)),some (.int (j:Nat)),s,f,g],o::X)):
  W (io [n,Z (webD w),Z (eG c cs),r,l,Z (mcD e L),Z (DY (ws,cs)),Z (.int (i:Nat)),Z (.int (j:Nat)),s,y,z] (o::X)) Q:=by
 obtain⟨u,v,d,C,A,ao,h2⟩:=h.ex;have B:=GK (a:=(ws,cs)) h;have F:∀S,dL (DY (ws,cs)) (.int 0) S=Z (.tup (fu ws),S):=λS=>rfl;have E:∀S,dL (DY (ws,cs)) (.int 1) S=Z (.tup (nmD cs),S):=λS=>rfl;unfold io
 wp_walk using F
 refine hP (x:=gz u) (by rw[fu,gP1,d];rfl) ?_;refine hP (x:=gz v) (by rw[fu,gP1,C];rfl) ?_;refine F5 (a:=(ws,cs)) (λz=>?_) (aD hw.few (by decide)) ?_
 ·dsimp only at z;rw[z]at d;cases d
 rw[B]
 wp_walk using sS
 rw[aj (λz=>A (by have:=RO.mp z;lia))];refine DL (xs:=nmD [u.1,u.2.1,u.2.2]) (a:=Z (1:Nat)) (b:=Y) O O O ?_;refine DL (xs:=nmD [v.1,v.2.1,v.2.2]) (a:=Z (1:Nat)) (b:=Y) O O O ?_;have t:∀x y z:Nat,Mi.l8 (nmD [x,y,z]) (Z ((1:Nat):Int)) Y=nmD [y,z]:=λx y z=>by rw[NJ];rfl
 have G:∀S,wm (.tup (nmD [u.2.1,u.2.2])) (.tup (nmD [v.2.1,v.2.2])) S=Z (.bl J,S):=λS=>by rw[B3,h2,mx O];rfl
 have H:∀S,wm (.tup (nmD cs)) (.tup (nmD cs)) S=Z (.bl J,S):=λS=>by rw[B3,mx O];rfl
 wp_walk using t,G,E,HN,H
 refine Kj hw k ok I ?_;exact q _ _
theorem EG{w:dJ}(C:Ao m w rs)(hm0:0<m)(hm:m<=8)(hk:mr m rs cs)(hc:cs=(af m).filter λr=>cs.contains r)(st:DT m ws cs)(ha:a∈ws)(hb:b∈ws)(u:a<b)(hr:rs.getD a 0=rs.getD b 0)(ho:fw o n)(hn:n<=2^39)(av:T.all (Ob.und (T.length+1))=M)(q:∀o',fw o' (n+3000)->Q (.bl M,o'::T)):W (dI 4 fy [.ref 0,webD w,eG ws cs,.tup (nmD [a,b])] (o::T)) Q:=by
 have hl2:2<=ws.length:=by
  have la:=df ha;have lb:=df hb;refine a0 λz=>?_;have ea:ws[ws.idxOf a]=a:=dg la;have eb:ws[ws.idxOf b]=b:=dg lb;have:ws.idxOf a=ws.idxOf b:=by lia
  have:a=b:=by rw[<- ea,<- eb];simp[this]
  lia
 have y:ws.idxOf a≠ws.idxOf b:=λz=>by
  have v:=pc ha;rw[z,pc hb]at v;cases v;exact aA _ u
 refine ma O O av ?_;unfold fy;refine i6 ?_;unfold me;generalize G:T++[Ob.lst [.int 4,.int 3]]=X;have s:X.all (Ob.und (X.length+1))=M:=by rw[<- G];exact Mh av O
 refine d4 (λr S=>∃c:List D,c.Sublist [.str "came",.str "chalk",.str "doors",.str "others"]/\(2<ws.length->c=[.str "came",.str "chalk",.str "doors"])/\S=o::X/\r=[Z (.ref 0),Z (webD w),Z (eG ws cs),Z (.tup (nmD [a,b])),Z (.tup c),Y,Y,Y,Y,Y,Y,Y]) ?_ ?_
 ·generalize wq:(hB 12 [.ref 0,webD w,eG ws cs,.tup (nmD [a,b])]:Ev)=R;have F:∃ k:Nat,(k=4\/k=3)/\(2<ws.length->k=3)/\W (m2 (b2 dL) (g6 (dG (mC (.int 4)) (dG (mC (.int 3)) dH))) (mN (b1 pf) (dG (m2 (b2 (jj fun i j=>decide (j<i))) (mN (b1 eD) (dG (m2 (b2 dL) (mV 2) (mC (.int 0))) dH)) (mC (.int 2))) dH)) R (o::T)) fun p=>p=(.int (k:Nat),o::X):=by
   rw[<- wq,<- G];by_cases h:2<ws.length
   ·refine⟨3,.inr O,λ_=>rfl,?_⟩
    wp_walk using A2,ej
    rw[ah (show(2:Int)<(ws.length:Nat) by lia)];exact j1 (i:=1) (xs:=[.int 4,.int 3]) (by rw[gC1,dQ];rfl) O O
   ·refine⟨4,.inl O,λz=>absurd z h,?_⟩
    wp_walk using A2,ej
    rw[ai (show¬ (2:Int)<(ws.length:Nat) by lia)];exact j1 (i:=0) (xs:=[.int 4,.int 3]) (by rw[gC1,dQ];rfl) O O
  obtain⟨k,k1,k2,_,e,rfl⟩:=F;unfold dS;rw[dN];refine DL (S1:=o::T) (S2:=o::T) (S3:=o::X) (xs:=[.str "came",.str "chalk",.str "doors",.str "others"]) (a:=Y) (b:=Z (k:Int)) O O ?_ ?_
  ·unfold jm;rw[e];rfl
  rw[L7,<- wq];walk_at"w";refine⟨_,aU k _,λz=>?_,O⟩;rw[k2 z];rfl
 rintro r S ⟨c,E,aq,rfl,rfl⟩;walk_at"w";refine JX E ho (by lia) s λe o1 he H=>?_;dsimp only;refine zq (hs:=[.str "leave"]) (by decide) (by decide) (λx au=>by rw[cv]at au;subst au;exact mS1) H (by lia) s λL I N ok hh hLl l=>?_;dsimp only;have lv:Lve L:=λp hp=>by
  obtain⟨d,h,t,v,_,V,_⟩:=hh p hp;rw[cv]at V;rw[v,V];rfl
 have B:e.2.2.2=J\/ws.length=2:=by
  by_cases z:2<ws.length
  ·exact .inl (he (aq z))
  ·exact .inr (by lia)
 refine GC (aD st.few (by decide)) ?_;dsimp only;refine tL (ws:=ws) (p:=a) O O ha ?_;dsimp only;refine tL (ws:=ws) (p:=b) O O hb ?_;dsimp only;refine⟨eL (n:=40) (by lia),?_⟩;rw[show(Int.toNat 40)=40 from rfl];refine eN (λ_ r S=>∃(ks:List Wk) (K f g:Option D),mm m w ks cs/\ks.length=ws.length/\Mw rs ks (ws.idxOf a) (ws.idxOf b)/\S=I::X/\r=[Z (.ref 0),Z (webD w),Z (eG ws cs),Z (.tup (nmD [a,b])),Z (.tup c),Z (mcD e L),Z (DY (ks,cs)),Z (.int (ws.idxOf a:Nat)),Z (.int (ws.idxOf b:Nat)),K,f,g]) (fX 0 40) 0 _ _ ⟨(qf ws cs).1,_,_,_,GE C.web.ok hm st,by show(ws.map _).length=_;rw[lM1],⟨(a,0,0),(b,0,0),?_,?_,nN1 u,hr,O⟩,O,O⟩ (λ_ _ _ _=>rfl) ?_ ?_
 ·show(ws.map _)[_]?=_;rw[gP1,pc ha];rfl
 ·show(ws.map _)[_]?=_;rw[gP1,pc hb];rfl
 ·rintro i d hd r S ⟨ks,K,f,g,h1,h2,A,rfl,rfl⟩;walk_at"w";refine Je h1 A N ok (by lia) λy10 y11=>?_;obtain⟨ao,e'⟩:=A1 (m:=m) (w:=w) (ws:=ks) (e:=e) lv hc;have U:=h1.stepL (e:=e) (L:=L) (a:=(ks,cs)) ok;have P:=DB (e:=e) (L:=L) C h1 hk (B.imp id λz=>h2.trans z) y A;have g3:(stepL m w e L (ks,cs)).1.length=ks.length:=by show(ks.map _).length=_;rw[lM1]
  rw[e']at U P g3 ⊢;exact⟨O,ao,_,_,_,U,g3.trans h2,P,O,O⟩
 ·rintro r S ⟨ks,K,f,g,h1,h2,A,rfl,rfl⟩;walk_at"w";exact⟨_,I,[.lst [.int 4,.int 3]],by rw[G],O,l.und,q I (l.more (by lia))⟩
noncomputable def abv(m:Nat)(rs ks:List Nat):List Nat:=(af m).filter λr=>ks.contains (rs.getD r 0)
theorem wJ(h:r<m):(abv m rs ks).contains r=ks.contains (rs.getD r 0):=by
 rw[bO,cJ];unfold abv;rw[aB];exact⟨λz=>z.2,λz=>⟨aC.mpr h,z⟩⟩
theorem DE:mr m rs (abv m rs ks):=λi j hi a e=>by rw[wJ hi,wJ a,e]
theorem DC:abv m rs ks=(af m).filter λr=>(abv m rs ks).contains r:=by
 conv=>lhs;unfold abv
 exact List.filter_congr λr a=>(wJ (aC.mp a)).symm
theorem DD(hm:m<=8):(abv m rs ks).length<=8 /\ ∀r∈abv m rs ks,r<m:=by
 refine⟨?_,λr a=>aC.mp (aB.mp a).1⟩;have:=cX (λr=>ks.contains (rs.getD r 0)) (af m);rw[cB]at this;exact aD this hm
theorem Bp{w:dJ}{r:Ev}{Q:Bool×Sto->Prop}(C:Ao m w rs)(h:0<m)(hm:m<=8)(hk:mr m rs cs)(hc:cs=(af m).filter λr=>cs.contains r)(st:DT m ws cs)(ha:a∈ws)(hb:b∈ws)(g:a<b)(hr:rs.getD a 0=rs.getD b 0)(ho:fw o n)(hn:n<=2^38)(l:T.all (Ob.und (T.length+1))=M)(s:uQ 1 [2,4,8,7] r=[Y,Z (.ref 0),Z (webD w),Z (eG ws cs),Z (.tup (nmD [a,b]))])(q:∀o' xs,fw o' (n+9000)->(∀x∈xs,x=D.bl M)->Q (J,o'::(T++[.lst xs]))):W (nE (vB (mN (b1 p8) (dG (eA 1 [2,4,8,7] (nJ (dG (mC (.int 3)) dH)) (gN 0) eZ (ee (mN (dI 4 fy) (dG (mV 1) (dG (mV 2) (dG (mV 3) (dG (mV 4) dH))))))) dH))) r (o::T)) Q:=by
 simp only[nE,vB,mN,dG,dH,dN,dV,b1,mn,DP,mC,KC,oS1];rw[s];refine⟨eL (n:=3) (by lia),?_⟩;rw[show(Int.toNat 3)=3 from rfl];refine iE (λi f r S=>∃(o':Ob) (x:Option D),i<=3/\f=aP i (D.bl M)/\fw o' (n+3000*i)/\S=o'::T/\r=[x,Z (.ref 0),Z (webD w),Z (eG ws cs),Z (.tup (nmD [a,b]))]) (fX 0 3) 0 [] _ _ ⟨o,_,by lia,O,ho,O,O⟩ (λ_ _ _ _ _=>rfl) ?_ ?_
 ·rintro i d p f r S ⟨o',x,hi,rfl,c,rfl,rfl⟩;have k:=(R1 p).1;rw[et]at k;rw[bL]at *
  walk_at"w";refine EG C h hm hk hc st ha hb g hr c (by lia) l λu j=>?_;exact⟨u,_,by lia,by rw[List.replicate_succ'],j.more (by lia),O,O⟩
 ·rintro xs r S ⟨o',x,_,e,c,rfl,rfl⟩;rw[cP]at e;subst e;rw[et,bL]at *
  refine⟨dR (by rw[lR1];lia),?_⟩;refine W.of (x:=(.bl M,o'::(T++[.lst (aP 3 (.bl M))]))) ?_ ?_
  ·unfold p8;rw[bj,fS (xs:=aP 3 (D.bl M)) (by rw[lC1,gC1,dQ];rfl)];rfl
  ·walk_at"w";exact q o' _ (c.more (by lia)) λx t=>(bC.mp t).2
theorem w6:∀{xs:List D},(∀x∈xs,x=D.bl M)->D.unds 0 xs=M
 |[],_=>rfl
 |x::xs,h=>by
  rw[D.unds,h x mS1,w6 λy a=>h y (mC1 _ a)];rfl
theorem CD{t:FT}{a b:FS}{r:Ev}{S':Sto}{c:Bool}{Q:Fl×Ev×Sto->Prop}(h:W (t r S) λp=>p=(c,S'))(q:W ((if c=M then a else b) r S') Q):W (fr t a b r S) Q:=by
 unfold fr;rw[dN];refine h.mono ?_;rintro p rfl;dsimp only;cases c
 ·rw[aj (by decide)]at q ⊢;exact q
 ·rw[ak O]at q ⊢;exact q
theorem IB{f:Ob}{w:dJ}{g j i av k:Option D}{Q:Fl×Ev×Sto->Prop}(C:Ao m w rs)(e:0<m)(hm:m<=8)(hk:mr m rs cs)(hc:cs=(List.range m).filter fun r=>cs.contains r)(st:DT m ws cs)(K:ws.Pairwise (· < ·))(ha:a∈ws)(hb:b∈ws)(l:a<b)(hr:rs.getD a 0=rs.getD b 0)(t:fw f (n+318))(hn:n<=2^30)(y:T.all (Ob.und (T.length+1))=true)(q:∀o' G L z,fw o' (n+10000)->G.all (Ob.und 0)=true->Q (.nx,[g,j,some (.ref 0),i,some (webD w),some (.tup (nmD rs)),some (.tup (nmD ws)),some (.tup (nmD [a,b])),some (eG ws cs),L,z],o'::(T++G))):
  W ((dP (dS (eH (dG (mC (D.str "alike")) (dG (pZ (b2 jP) (mV 6) (dG (m2 (b2 dL) (mV 7) (mC (D.int 0))) dH)) (dG (pZ (b2 jP) (mV 6) (dG (m2 (b2 dL) (mV 7) (mC (D.int 1))) dH)) (dG (mV 5) dH))))) (gN 9)) (dP (dS (mN (dI 3 kj) (dG (mV 4) (dG (mV 8) (dG (mC (D.bl M)) dH)))) (gN 10)) (dP (fr (mB (m2 (b2 hW) (mN (dI 4 d2) (dG (mV 4) (dG (mV 8) (dG (mC (D.bl M)) (dG (mV 9) dH))))) (mC (D.bl M)))) (eg (mC (D.bl J))) kT) (dP (fr (mB (m2 (b2 hW) (mN (dI 4 d2) (dG (mV 4) (dG (mV 8) (dG (mC (D.bl J)) (dG (mV 9) dH))))) (mC (D.bl J)))) (eg (mC (D.bl J))) kT) (dP (fr (Ck (mB (m2 (b2 wo) (mV 10) (mC D.non))) (mB (m2 (b2 hW) (mN (dI 4 d2) (dG (mV 4) (dG (mV 8) (dG (mC (D.bl M)) (dG (mV 10) dH))))) (mC (D.bl M))))) (eg (mC (D.bl J))) kT) (fr (nE (vB (mN (b1 p8) (dG (eA 1 [2,4,8,7] (nJ (dG (mC (D.int 3)) dH)) (gN 0) eZ (ee (mN (dI 4 fy) (dG (mV 1) (dG (mV 2) (dG (mV 3) (dG (mV 4) dH))))))) dH)))) (eg (mC (D.bl J))) kT)))))) [g,j,Z (.ref 0),i,Z (webD w),Z (.tup (nmD rs)),Z (.tup (nmD ws)),Z (.tup (nmD [a,b])),Z (eG ws cs),av,k] (f::T)) Q:=by
 have o:=st.rs;have R:=st.few;have V:∀S,dL (.tup (nmD [a,b])) (.int 0) S=Z (.int (a:Nat),S):=λS=>rfl;have U:∀S,dL (.tup (nmD [a,b])) (.int 1) S=Z (.int (b:Nat),S):=λS=>rfl;have hi:=JT K ha hb l;have x:=df hb;have B:∀c∈ws,ws.getD (ws.idxOf c) 0=c:=λc hc=>by rw[bH,pc hc];rfl
 have h:rs.getD (ws.getD (ws.idxOf a) 0) 0=rs.getD (ws.getD (ws.idxOf b) 0) 0:=by rw[B a ha,B b hb,hr]
 refine d4 (λr S=>S=f::T/\r=[g,j,Z (.ref 0),i,Z (webD w),Z (.tup (nmD rs)),Z (.tup (nmD ws)),Z (.tup (nmD [a,b])),Z (eG ws cs),Z (alD (ws.idxOf a) (ws.idxOf b) rs),k]) ?_ ?_
 ·walk_at"w";refine tL (ws:=ws) (p:=a) O O ha ?_;walk_at"w";refine tL (ws:=ws) (p:=b) O O hb ?_;walk_at"w";exact O
 rintro r S ⟨rfl,rfl⟩;refine d4 (λr S=>∃d,Nv m w ws cs M d/\S=f::T/\r=[g,j,Z (.ref 0),i,Z (webD w),Z (.tup (nmD rs)),Z (.tup (nmD ws)),Z (.tup (nmD [a,b])),Z (eG ws cs),Z (alD (ws.idxOf a) (ws.idxOf b) rs),Z d]) ?_ ?_
 ·walk_at"w";refine Fh C.web.toWebJ e hm o (by lia) λd s=>?_;exact⟨d,s,O,O⟩
 rintro r S ⟨d,s,rfl,rfl⟩;have aq:Fit m w (sgL m ws cs J) (upI rs):=yg C hk;have sh:∀(A:Bool) (Q:D×Sto->Prop),Q (.bl A,f::T)->W (dI 4 d2 [webD w,eG ws cs,.bl A,alD (ws.idxOf a) (ws.idxOf b) rs] (f::T)) Q:=λA Q q=>t0 C.web.toWebJ e hm C.len aq o hi x h q;have u:∀(Q:D×Sto->Prop),Q (.bl M,f::T)->W (dI 4 d2 [webD w,eG ws cs,.bl M,d] (f::T)) Q:=λQ q=>by
  rcases BY C hk o e hi x h s with⟨I,rfl,rfl,hn⟩|⟨p,H,rfl,b1,b2,b3⟩
  ·exact Bb C.web.toWebJ e hm hn q
  ·exact t0 C.web.toWebJ e hm l9 (vf C.web.toWebJ e) o b1 b2 b3 q
 have N:∀S,wo d .non S=Z (.bl J,S):=λS=>by
  rcases BY C hk o e hi x h s with⟨I,rfl,rfl,hn⟩|⟨p,H,rfl,b1,b2,b3⟩<;>rfl
 have E:∀S,hW (.bl M) (.bl M) S=Z (.bl J,S):=λS=>rfl;have F:∀S,hW (.bl J) (.bl J) S=Z (.bl J,S):=λS=>rfl;refine d4 (λr S=>S=f::T/\r=[g,j,Z (.ref 0),i,Z (webD w),Z (.tup (nmD rs)),Z (.tup (nmD ws)),Z (.tup (nmD [a,b])),Z (eG ws cs),Z (alD (ws.idxOf a) (ws.idxOf b) rs),Z d]) ?_ ?_
 ·refine CD (c:=J) (S':=f::T) ?_ ?_
  ·walk_at"w";refine sh M _ ?_
   wp_walk using E
  ·rw[aj (by decide)];walk_at"w"
 rintro r S ⟨rfl,rfl⟩;refine d4 (λr S=>S=f::T/\r=[g,j,Z (.ref 0),i,Z (webD w),Z (.tup (nmD rs)),Z (.tup (nmD ws)),Z (.tup (nmD [a,b])),Z (eG ws cs),Z (alD (ws.idxOf a) (ws.idxOf b) rs),Z d]) ?_ ?_
 ·refine CD (c:=J) (S':=f::T) ?_ ?_
  ·walk_at"w";refine sh J _ ?_
   wp_walk using F
  ·rw[aj (by decide)];walk_at"w"
 rintro r S ⟨rfl,rfl⟩;refine d4 (λr S=>S=f::T/\r=[g,j,Z (.ref 0),i,Z (webD w),Z (.tup (nmD rs)),Z (.tup (nmD ws)),Z (.tup (nmD [a,b])),Z (eG ws cs),Z (alD (ws.idxOf a) (ws.idxOf b) rs),Z d]) ?_ ?_
 ·refine CD (c:=J) (S':=f::T) ?_ ?_
  ·wp_walk using N
   refine u _ ?_
   wp_walk using E
  ·rw[aj (by decide)];walk_at"w"
 rintro r S ⟨rfl,rfl⟩;unfold fr;rw[dN];refine Bp C e hm hk hc st ha hb l hr t (by lia) y O λao xs v P=>?_;walk_at"w";refine q ao [.lst xs] _ _ (v.more (by lia)) ?_;rw[bN,Ob.und,w6 P];rfl
theorem JD{l s p x4 x5 R wq ao t f:Option D}{Q:Fl×Ev×Sto->Prop}(ho:fw o n)(hn:n<=2^30)(hT:T.all (Ob.und 0)=M)(q:∀o' G y4 y5 y6 y7 y8 H k,fw o' (n+10000)->G.all (Ob.und 0)=M->Q (.nx,[l,s,Z (.ref 0),p,y4,y5,y6,y7,y8,H,k],o'::(T++G))):W (sD [l,s,Z (.ref 0),p,x4,x5,R,wq,ao,t,f] (o::T)) Q:=by
 have j:T.all (Ob.und (T.length+1))=M:=bA.mpr λx hx=>gW (bi _) (bA.mp hT x hx);unfold sD;refine d4 (λr S=>∃(m:Nat) (w:dJ) (rs:List Nat) (o':Ob),0<m/\m<=8/\Ao m w rs/\fw o' (n+300)/\S=o'::T/\r=[l,s,Z (.ref 0),p,Z (webD w),Z (.tup (nmD rs)),R,wq,ao,t,f]) ?_ ?_
 ·walk_at"w";refine Db ho (by lia) j λm w rs o' h1 h2 C h=>?_;walk_at"w";exact⟨m,w,rs,o',h1,h2,C,h,O,O⟩
 rintro r S ⟨m,w,rs,o1,y,v,C,K,rfl,rfl⟩;refine d4 (λr S=>∃(ws d:List Nat) (o':Ob),(∀x∈d,x∈ws)/\d.Pairwise (· <= ·)/\ws.Pairwise (· < ·)/\(∀x∈ws,x<m)/\ws.length<=8/\d.length<=2/\fw o' (n+310)/\S=o'::T/\r=[l,s,Z (.ref 0),p,Z (webD w),Z (.tup (nmD rs)),Z (.tup (nmD ws)),Z (.tup (nmD d)),ao,t,f]) ?_ ?_
 ·walk_at"w";refine yI C.web.len y v C.len K (by lia) j λws d o' h1 h2 F A I aq h=>?_;walk_at"w";exact⟨ws,d,o',h1,h2,F,A,I,aq,h,O,O⟩
 rintro r S ⟨ws,d,o2,h1,h2,F,A,I,aq,E,rfl,rfl⟩;refine d4 (λr S=>∃(ks:List Nat) (o':Ob),fw o' (n+318)/\S=o'::T/\r=[l,s,Z (.ref 0),p,Z (webD w),Z (.tup (nmD rs)),Z (.tup (nmD ws)),Z (.tup (nmD d)),Z (eG ws (abv m rs ks)),t,f]) ?_ ?_
 ·simp(implicitDefEqProofs:=J) only[dS,gN,cD,cT,oS1,dN,dV,true_and,DO,dG,mV,gC1,cS,mN,dH,lC1,bf,cU,Oi,Of];refine JK C.web.len v C.len E (by lia) j λks o' h=>?_;walk_at"w";exact⟨ks,o',h,O,O⟩
 rintro r S ⟨ks,B,u,rfl,rfl⟩;have g:∀(S:Sto),Q (.nx,[l,s,Z (.ref 0),p,Z (webD w),Z (.tup (nmD rs)),Z (.tup (nmD ws)),Z (.tup (nmD d)),Z (eG ws (abv m rs ks)),t,f],B::T):=λ_=>by
  have:=q B [] (Z (webD w)) (Z (.tup (nmD rs))) (Z (.tup (nmD ws))) (Z (.tup (nmD d))) (Z (eG ws (abv m rs ks))) t f (u.more (by lia)) O;rw[aN]at this;exact this
 generalize i:abv m rs ks=cs at *
 have hk:mr m rs cs:=i ▸ DE;have hc:cs=(af m).filter λr=>cs.contains r:=i ▸ DC;have st:DT m ws cs:=⟨I,i ▸ (DD v).1,A,i ▸ (DD v).2⟩
 match d,aq with
 |[],_=>
  wp_walk using ej
  exact g T
 |[a],_=>
  wp_walk using ej
  exact g T
 |[a,b],_=>
  have av:a∈ws:=h1 a (by simp);have au:b∈ws:=h1 b (by simp);have X:∀S,dL (.tup (nmD [a,b])) (.int 0) S=Z (.int (a:Nat),S):=λS=>rfl;have U:∀S,dL (.tup (nmD [a,b])) (.int 1) S=Z (.int (b:Nat),S):=λS=>rfl;have ga:∀S,dL (.tup (nmD rs)) (.int (a:Nat)) S=Z (.int (rs.getD a 0:Nat),S):=λS=>yE (by rw[C.len];exact A a av);have V:∀S,dL (.tup (nmD rs)) (.int (b:Nat)) S=Z (.int (rs.getD b 0:Nat),S):=λS=>yE (by rw[C.len];exact A b au);by_cases hh:a≠b/\rs.getD a 0=rs.getD b 0
  ·obtain ⟨hab,P⟩:=hh;have N:a<b:=by
    have:=List.rel_of_pairwise_cons h2 (a':=b) (by simp);lia
   refine CD (c:=M) (S':=B::T) ?_ ?_
   ·wp_walk using X,U,ga,V,ej
    have L:((a:Int) == (b:Int))=J:=by rw[RT];lia
    rw[L,P];simp only[Rn,cI,Qv];exact trivial
   rw[ak O];exact IB C y v hk hc st F av au N P u hn j λo' G H k=>q o' G _ _ _ _ _ H k
  ·refine CD (c:=J) (S':=B::T) ?_ ?_
   ·wp_walk using X,U,ga,V,ej
    by_cases e:a=b
    ·subst e;simp
    ·have L:((a:Int) == (b:Int))=J:=by rw[RT];lia
     have e2:(((rs.getD a 0:Nat):Int) == ((rs.getD b 0:Nat):Int))=J:=by rw[RT];exact λz=>hh ⟨e,by lia⟩
     rw[L,e2];simp
   ·rw[aj (by decide)];walk_at"w";exact g T
inductive TB (N:D)(k:Int)(i:Nat):Ev->Sto->Prop
 |mk (o:Ob) (G:Sto) (x4 x5 x6 x7 x8 x9 x10:Option D) (hi:i<=2) (ho:fw o (10000*i)) (hG:G.all (Ob.und 0)=true) (x3:Option D):TB N k i [some N,some (.int k),some (.ref 0),x3,x4,x5,x6,x7,x8,x9,x10] (o::G)
theorem HG(ns:List Int)(k:Int)(z:0<=k)(hk:k<63):W (sC [Z (.rol (ns.map D.int)),Z (.int k),Y,Y,Y,Y,Y,Y,Y,Y,Y] []) λp=>p.1 = .nx /\ ∃l,p.2.1=Z (.rol (ns.map D.int))::l/\l.length=10:=by
 unfold sC;generalize w:D.rol (ns.map D.int)=N;refine d4 (λr S=>∃o,fw o 0/\S=[o]/\r=[Z N,Z (.int k),Z (.ref 0),Y,Y,Y,Y,Y,Y,Y,Y]) ?_ ?_
 ·obtain⟨o,e,a⟩:=Gc ns k z hk;rw[w]at e
  wp_walk using e
  exact⟨o,a,O,trivial⟩
 rintro r S ⟨o,a,rfl,rfl⟩;walk_at"w";refine⟨eL (n:=2) (by lia),?_⟩;rw[show((2:Int).toNat)=2 from rfl];refine eN (TB N k) (fX 0 2) 0 _ _ ⟨o,[],_,_,_,_,_,_,_,by lia,a,O,_⟩ (λ_ _ _ _=>rfl) ?_ ?_
 ·rintro i d m r S ⟨I,G,q,B,s,x,t,y,b,hi,c,j,u⟩;have g:=(R1 m).1;rw[et]at g;rw[bL]at *
  walk_at"w";refine JD c (by lia) j λo' v F E C ao K H A h f=>?_;exact⟨O,o',G++v,_,_,_,_,_,_,_,by lia,h.more (by lia),by rw[cN,j,f];rfl,_⟩
 ·rintro r S ⟨o,G,q,B,s,x,t,y,b,_,_,_,u⟩;exact⟨O,_,O,O⟩
theorem truth(ns:List Int)(C:ns.length<=63):∃S,m_law [.rol (ns.map D.int)] []=Z (.bl M,S):=by
 have g:W (m_law [.rol (ns.map D.int)] []) λp=>p.1 = .bl M:=by
  unfold m_law;refine i6 ?_;unfold Du;have n:(D.rol (ns.map D.int)).und 0=M:=by simp[D.und,mw]
  have m:=λk v w=>HG ns k v w;generalize s:D.rol (ns.map D.int)=N at *
  have b:eD N []=Z (.int ns.length,[]):=by rw[<- s];simp[eD,dZ]
  refine d4 (λr S=>S=[]/\r=[Z N,Y,Y,Y,Y,Y,Y,Y,Y,Y,Y]) ?_ ?_
  ·simp only [hB,mP1,aZ,lC1,bf,cU,Nat.reduceSub,K8,bj,cP,fE,dN,DP,dG,mN,mC,mV,dH,b1,b2,Gg,Gf,b,dV,oS1,cS,KC];have u:∃ t:Nat,t<=4/\(if (if (ns.length:Int)<4 then (ns.length:Int) else 4)>1 then (if (ns.length:Int)<4 then (ns.length:Int) else 4) else 1)=(t:Int):=by
    by_cases h1:(ns.length:Int)<4
    ·rw[ak h1];by_cases h2:(ns.length:Int)>1
     ·rw[ak h2];exact⟨ns.length,by lia,O⟩
     ·rw[aj h2];exact⟨1,by lia,O⟩
    ·rw[aj h1];exact⟨4,by lia,by decide⟩
   obtain⟨t,A,te⟩:=u;rw[te,Qr];refine⟨eL (by lia),?_⟩;refine eN (λ_ r S=>S=[]/\r=[Z N,Y,Y,Y,Y,Y,Y,Y,Y,Y,Y]) _ 0 _ _ ⟨O,O⟩ (λ_ _ _ _=>rfl) ?_ ?_
   ·rintro i d l r S ⟨rfl,rfl⟩;obtain⟨k,e,o,B⟩:=uC (gM1 l);subst e;simp only[gN,cD,cT,dV];obtain⟨⟨f,r2,z⟩,q,j,y,a,c⟩:=m k o (by lia);dsimp only at j a;subst j;subst a;refine W.of (x:=(.nx,[Z N,Y,Y,Y,Y,Y,Y,Y,Y,Y,Y],[])) ?_ ⟨O,O,O⟩
    match y,c with
    |[z1,z2,z3,z4,z5,z6,z7,z8,z9,z10],_=>
     unfold xB qC;simp[f0,lB,D.und,n,q]
   ·rintro r S ⟨rfl,rfl⟩;exact⟨O,O,O⟩
  ·rintro r S ⟨rfl,rfl⟩;simp only[eg,mC,oS1,dV]
 obtain⟨⟨d,S⟩,e,h⟩:=g;dsimp only at h;exact⟨S,by rw[e,h]⟩
end Law
end
open PySem PySem.W PyProof.Rows
namespace PySem.W.Fast
def tw2113391973035490129:=()
def tw6494575527692580723:=()
def tw8037467653422534406:=()
def tw3840855399034736231:=()
def tw1595309761484774170:=()
def tw16584687777339780745:=()
def tw11847047054002031525:=()
def tw2208818818748320760:=()
def tw10506432564181404780:=()
def tw18149080604135337594:=()
def tw8827110589740545348:=()
def tw12513684992816183162:=()
def tw4567751416097380750:=()
def tw3488602572678777987:=()
def tw1914851318683508674:=()
def tw5428930128987198873:=()
def tw9576147128832361693:=()
def tw4680094104227546386:=()
def tw16297281178580559704:=()
def tw353114170651981565:=()
def tw5670465453007539574:=()
def tw2859285595019875046:=()
def tw13608940547181639960:=()
def tw13012367605360373623:=()
def tw3971668558076792690:=()
def tw17245672979509662140:=()
def tw16769010111848811177:=()
def tw15114166458753814396:=()
def tw5066265662185048408:=()
def tw7813323398742699314:=()
def tw5945862956287035743:=()
def tw386137182277614929:=()
def tw4447077032740960447:=()
def tw6941527384815387572:=()
def tw8681680221581546622:=()
def tw13946249182560350346:=()
def tw2069283022718954194:=()
def tw8359303431384943371:=()
def tw13139700338816680519:=()
def tw16945225039404828647:=()
def tw9273907896759241725:=()
def tw628605668369704770:=()
def tw2514480273379121625:=()
def tw8942086222780403424:=()
def tw9434020258251070334:=()
def tw8657896161194559964:=()
def tw16157860508233900571:=()
def tw15031039585562951160:=()
def tw6941110707988974009:=()
def tw14716006330609124573:=()
def tw2287131071710149316:=()
def tw9408386031872956339:=()
def tw14812034786665995074:=()
def tw9017572977522765395:=()
def tw5562280196782610622:=()
def tw16294174674075242691:=()
def tw1899941003799454896:=()
def tw14206847784582632675:=()
def tw1742807134191568285:=()
def tw1632282879547462103:=()
def tw5373562461447359124:=()
def tw8612084451580540301:=()
def tw791674038149069251:=()
def tw15037659975023382478:=()
def tw4526335928216241475:=()
def tw18167856416855774709:=()
def tw14697935245711504324:=()
def tw8954994816133582162:=()
def tw4212341814063260819:=()
def tw16398695434454067634:=()
def tw12200291864227910212:=()
def tw7894127273291439536:=()
def tw15505189566241641913:=()
def tw10766833682547290727:=()
def tw324238125453050700:=()
def tw12625618899232460146:=()
def tw14476385381421951774:=()
def tw12510989443128581215:=()
def tw15351075334391639441:=()
def tw12364167670140476081:=()
def tw9556943763277788650:=()
def tw10317572902829625861:=()
def tw15283783248431278642:=()
def tw13403289563051027071:=()
def tw2547280908480377973:=()
def tw9611225045018605834:=()
def tw14179785396295506220:=()
def tw12963006555037401222:=()
def tw17199381834507396897:=()
def tw4237449616699446837:=()
def tw16767854451065451325:=()
def tw13063015609476213361:=()
def tw10923694196085260411:=()
def tw7438946122365733725:=()
def tw300879127441861914:=()
def tw17848845526588131448:=()
def tw11403273851030363004:=()
def tw7451701265290084334:=()
def tw7927596832966317682:=()
def tw12349101147930478679:=()
def tw812791958514883617:=()
def tw3139935755638633997:=()
def tw8573220965724468429:=()
def tw14396891109487398350:=()
def tw2816765670745893184:=()
def tw2103408952538606684:=()
def tw638250811097922605:=()
def tw5958770421261541088:=()
def tw17558134707526943809:=()
def tw14199993132251083091:=()
def tw116828115012240846:=()
def tw10232721645418563293:=()
def tw17394224603888826980:=()
def tw7179309215223749036:=()
def tw14555941882815482518:=()
def tw8340342649698324046:=()
def tw2573925913767341550:=()
def tw12989679043394575266:=()
def tw6980825405821224095:=()
def tw4805309473639857552:=()
def tw13719231174525126215:=()
def tw12974034024006443993:=()
def tw882330679130967469:=()
def tw14545273916391411193:=()
def tw15577898926228175596:=()
def tw12461449824164387596:=()
def tw9676466900344882056:=()
def tw12894160477729404549:=()
def tw15192677842021492498:=()
def tw3206853744189959765:=()
def tw5294341390255904286:=()
def tw5010517263302064092:=()
def tw8988807981488807017:=()
def tw3408237619183230587:=()
def tw1757376143242092398:=()
def tw9867073413407797671:=()
def tw6857934491790382368:=()
def tw9307788096228044479:=()
def tw536194573642952016:=()
def tw10658530465693257656:=()
def tw10557376542645752310:=()
def tw12510259956336025475:=()
def tw9528250036200005857:=()
def tw6682401608426872743:=()
def tw9928868929812062100:=()
def tw15845568761295051432:=()
def tw13861874267507485093:=()
def tw14957944504760946081:=()
def tw240572169347047954:=()
def tw15142189591472481187:=()
def tw15783057872289747954:=()
def tw2949677677573028755:=()
def tw8345040963072472248:=()
def tw2303198069913478526:=()
def tw16113793671530179300:=()
def tw16869994030295999104:=()
def tw14417025924125981072:=()
def tw4835015592035891832:=()
def tw11658101627213025799:=()
def tw15470454316366236182:=()
def tw8301018899589525728:=()
def tw9423422683274070076:=()
def tw7419257516579892521:=()
def tw3015215377583728065:=()
def tw10113594645426331117:=()
end PySem.W.Fast
set_option maxRecDepth 100000 in
set_option maxHeartbeats 0 in
theorem PySem.Challenge.cw_ringmeet_k39_whole_alike_ones_never_meet_holds : PySem.Challenge.rw_ringmeet_k39_whole_alike_ones_never_meet.Holds := by
 w_on;refine PySem.W.holds_law (by decide+kernel) fun d=>?_;k_head;(case hw=>w_witness2)
 k_fill
 refine Mi.walk_m (l:=PySem.Challenge.rw_ringmeet_k39_whole_alike_ones_never_meet) (m:=Law.m_law) (k:=6) (x:="_law_script") rfl rfl ⟨rfl,by decide,by decide,rfl⟩ (fun w h Y=>PySem.W.kIn_of Y) Law.truth ?F
 case F=>
  intro w mg f h e G b;refine' Law.all_mk e G b ?a1 ?a2 ?a3 ?a4 ?a5 ?a6 ?a7 ?a8 ?a9 ?a10 ?a11 ?a12 ?a13 ?a14 ?a15 ?a16 ?a17 ?a18 ?a19 ?a20 ?a21 ?a22 ?a23 ?a24 ?a25 ?a26 ?a27 ?a28 ?a29 ?a30 ?a31 ?a32 ?a33 ?a34 ?a35 ?a36 ?a37 ?a38 ?a39 ?a40 ?e_PARTS ?h1 ?h2 ?h5 ?h8 ?h11 ?z
  all_goals try (refine' Mi.LX ?a ?l ?c ?k;(case a=>k_is);(case l=>k_is);(case c=>k_is);(case k=>k_is))
  (case e_PARTS=>k_is)
  (case h1=>k_is)
  (case h2=>k_is)
  (case h5=>k_is)
  (case h8=>k_is)
  (case h11=>k_is)
  (case z=>exact ⟨by k_is,by k_is,by k_is,by k_is,by k_is,by k_is,by k_is,by k_is,by k_is,by k_is,by k_is,by k_is,by k_is,by k_is,by k_is,trivial⟩)

