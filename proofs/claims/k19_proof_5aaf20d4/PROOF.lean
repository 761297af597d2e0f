import PyProof.Rows.All
import Wide.All
import OpenK.AllK
import Wide.FinOn
import Lean
import PyProof.EqAt
import PyProof.EqKinds
import PyProof.TupleCall
import PySem.Challenge.RW_ringmeet_k19_standings_told
set_option Elab.async false
set_option compiler.extract_closed false
set_option genSizeOf false
set_option bootstrap.genMatcherCode false
set_option linter.all false
set_option maxRecDepth 100000
set_option maxHeartbeats 4000000
open List renaming getElem?_eq_some_iff → gE1, getElem?_append_left → gL1, getElem?_eq_getElem → gG1, mem_of_getElem? → gM1, getElem?_set_ne → gS1, length_append → lA1, length_map → lM1, getElem?_cons_succ → gC1, mem_cons_of_mem → mC1, mem_cons_self → mS1, getElem?_map → gP1, getElem?_append_right → gR1, size_toArray → sT1, map_cons → mP1, length_cons → lC1, length_replicate → lR1, mem_append_right → mA1
open Option renaming bind_eq_some_iff → oB1, map_eq_some_iff → oM1, bind_some → oS1, map_some → oP1
open Nat renaming le_refl → nR1, lt_of_lt_of_le → nL1, ne_of_lt → nN1, ne_of_gt → nG1
open Bool renaming and_eq_true → bA1, false_eq_true → bF1
open Array renaming getElem?_eq_getElem → aG1, getElem?_toList → aT1
open PySem.W renaming Frag → Fg1, nsIn → wN1, keepIn → wK1, codeIn → wC1, fnOf → wF1, mg_of → wM1
open PySem.Heap renaming get?_push_of_some → hP1, get?_push_size → hS1, lt_size → hL1, size_push → hZ1, get?_update_ne → hU1, get?_update_self → hW1
open PySem renaming wpAny_bind → wB1, wpAny_pure → wP1, wpAny_setField_rec → wS1, wpAny_newObj_type → wO1, codeAny_builtin → wD1, wpAny_call_entry → wE1
open List renaming take_nil → av, drop_nil → aw, mem_filter → aA, mem_range → aB, filterMap_cons → aE, mem_cons → aF, mem_append → aG, mem_append_left → aH, getElem_inj → aI, getElem?_set_self → aJ, mem_filterMap → aM, any_eq_false → aN, append_nil → aP, nodup_cons → aQ, replicate → aR, length_take → aT, getElem?_replicate → aU, getElem?_take_of_lt → aV, take_sublist → aW, length_drop → aX, length_set → aY, length_singleton → a0, map_nil → bc, find?_cons → bd, any_cons → bf, length_nil → bg, cons_append → bm, prefix_rfl → bo, nodup_nil → bp, getElem?_of_mem → bq, map_map → bv, prefix_append → bw, nodup_append → bB, all_eq_true → bD, drop_drop → bF, mem_replicate → bG, forIn_cons → bH, lookup_cons → bI, append_assoc → bJ, getD_eq_getElem?_getD → bM, zipIdx_cons → bN, not_mem_nil → bO, all_cons → bS, any_eq_true → bU, getElem_mem → bV, zip_cons_cons → bW, drop_eq_getElem_cons → bX, cons_prefix_cons → bY, drop_zero → bZ, take_length → b4, ext_getElem? → b5, getElem?_eq_none → b6, findIdx?_eq_some_iff_getElem → b8, foldl_cons → ca, pairwise_singleton → cb, pairwise_cons → cc, mem_map → cg, getElem?_toArray → ck, mapM_toArray → cq, all_toArray → cr, length_eq_zero_iff → cs, take_succ → cv, map_append → cx, mem_singleton → cA, pairwise_iff_getElem → cC, forall_mem_nil → cD, pairwise_append → cE, take_append_drop → cF, drop_sublist → cG, mem_of_mem_take → cH, perm_append_comm → cI, take_succ_cons → cJ, take_zero → cK, getElem?_drop → cN, extract_eq_take_drop → cP, take_of_length_le → cQ, drop_of_length_le → cS, mem_of_mem_drop → cT, mem_reverse → cU, drop_append_of_le_length → cV, nil_append → cW, set_append_right → cY, set_cons_zero → c5, eraseIdx_cons_succ → c6, flatten_cons → c7, set_cons_succ → c8, length_pos_iff → c9, flatten_append → da, take_left → db, map_congr_left → de, all_append → df, map_id → di, mem_zipIdx_iff_getElem? → dj, getElem?_cons_zero → dk, length_filter_le → dr, pairwise_map → dt, nodup_range → dv, filter_append → dw, getElem?_concat_length → dy, getElem?_zipIdx → dz, getElem?_range → dA, length_range → dB, nodup_iff_pairwise_ne → dD, filter_cons_of_pos → dE, filter_cons_of_neg → dG, eq_nil_or_concat → dH, concat_eq_append → dI, take_add_one → dL
open Option renaming some → ay, isSome_iff_exists → aS, isSome_map → bh, getD_some → b9, join_some → dq
open Nat renaming lt_irrefl → az, le_trans → aC, le_of_lt → aD, le_succ → aZ, lt_trans → bi, zero_le → bj, add_assoc → bn, le_add_right → br, add_sub_cancel_left → bu, not_lt_zero → bA, min_eq_left → bC, lt_succ_self → bE, lt_of_le_of_lt → bK, le_of_succ_le → bL, zero_add → bQ, max_eq_right → ci, lt_succ_of_lt → cB, sub_self → cZ, add_zero → c0, reduceAdd → dm, pow_le_pow_right → dJ
open Array renaming length_toList → aK, mem_toList_iff → aO, perm_iff_toList_perm → cf, mem_of_getElem? → cj, toList_push → cu, toArray_toList → cy, getElem_mem → cM, toList_extract → cO, toList_append → cR, toList_reverse → cX
open Bool renaming false_ne_true → aL, and_true → bP, or_eq_true → bR, eq_iff_iff → bT, not_true → b7, not_false → cm, or_eq_false_iff → dg, eq_false_iff → dh
open PySem renaming Value → dM, Shared → dN, Addr → dP, Program → dQ, Around → dR, World → dS, mainGlobals → dU, starEach → dV, sizeLine → dW, wpAny → dX, codeAny → dY, Heap → dZ, FuncData → d2, Stmt → d3, Scope → d4
open Option renaming some → Z, none → Y
open Bool renaming true → M, false → J
theorem gu0(h0:True:=by repeat first|rfl|exact .inl rfl|assumption|apply Or.inr)(h1:True:=by first|decide|omega)(h2:True:=by intro _;rfl)(h3:True:=by decide+kernel):True:=h0
namespace gu0
end gu0
open gu0 renaming _auto_1 → au0, _auto_2 → bu0, _auto_3 → du0, _auto_4 → eu0
theorem Mi.O{α}{a:α}:a=a:=rfl
open Mi (O)
open PySem.Value renaming int → aa, none → ab, bool → ae, ref → D4, type → KG, notImplemented → OI
open PyProof.Rows renaming IsTup → L3, AllBare → L6, callWith_type1 → Nk, envOfC → NA, slot_tuple_getitem → NQ, subscriptTail → NU, IntsAre → N2, step_dedup → OP, Keyed → OS, SortKind → OT, SortSt → OU, arrOf → OV, failedOf → OW, pendingOf → OX, wpS_bind → OY, wpS_get → OZ, wpS_pure → O0, wpS_lift → O1, wpS_forRange → O2, wpS_mono → O5, wpS_modify → O6, pairsOf → O7, tuples' → O8, listItems_at → Pa, seqObj → Pb, sortedHeap → Pc, listUpdate_at → Pd, seqEpoch_at → Pe
open PySem renaming sysModules → L4, bootBuiltins → L5, model → Mw, backTo → MR, wpAny_mono → MU, wpAny_truthy_bool → MV, wpAny_execs_nil → MY, swapsWith → MZ, assign → M0, assignEach → M3, Operator → M4, holding → M5, standAt → M6, wpAny_holding → M7, wpAny_standAt → M8, swapsWithSole → M9, swappedStores → Na, wpAny_rule → Nb, PassesOwn → Nc, wpAny_passesOwn → Nd, pyNext → Nf, letOwnedTupleGo → Ng, pyIter → Nh, rawInt → Ni, foldedSetIterable → Nl, binaryOp → Nm, compareOp → Nn, CmpOp → No, behindInMarks → Np, sizeLine_eq → Nq, cLine → Nv, codeAny_mono → Nx, Keyword → Ny, NameKind → Nz, cellsFrom → NB, mem_of_lookup → ND, IsPart → NM, wpAny_field → NN, wpAny_callSpecial?_slot → NO, wpAny_typeOf → NS, sliceBounds → NW, attributeBase → NY, keywordEach → NZ, DictEntry → N3, valueAt → N4, atKey → N5, tupleKind_room_in1 → N6, pushCells_keeps → Od, compTurn → Oe, wpAny_seqItems → Oj, firstArgMember → Ol, IsEnum → Om, wpAny_attempt → On, wpAny_newTuple → Op, wpAny_letGo → Ot, wpAny_isInstance → Ou, isSubtype_stop → Ov, IsZip → Ow, IsPair → Ox, wpAny_updateSeq_pair → Oz, richCompare → OD, wpAny_forIn_list → OE, plainId_quiet → OF, richCompare_meets_room → OH, wpAny_specialOf → OJ, wpAny_callSpecialIfBoundUnlessNone?_slot → OK, eqIsQuiet_byValue → OM, scanBound → OQ, wpAny_newList → Pf, wpAny_typeNameOfWhole_keyiter → Pj, wpAny_updateSeq → Pm, wpAny_runValue → Pn, argBest → Pu, wpAny_tryCatch → Pw
open PySem.Heap renaming get?_none_of_le → Ms, SameBut → Mv
open Ne renaming symm → Mt
open False renaming elim → MX
open PySem.Builtin.Range renaming rangeSize → Nj
open PySem.W renaming kitOne → Nr, kia_one → Nt, cellsFrom_some → NC
open True renaming intro → Nu
open PySem.Calls renaming spliced_cons → Nw, callWith_builtin → N0, evalArgs_plain → N1
open PySem.F renaming slot_tuple_add → NE, entry_tuple_add → NF, args_tuple_add_2 → NG, slot_dict_get → N7, slot_tuple_iterator_next → Oi, slot_enumerate_next → Oo, slot_zip_next → Oy, slot_dict_keyiterator_next → Pi, plain_extend_loop → Pk, plain_min_loop → Pv, slot_list_pop → Px, type_list_pop → Py
open Int renaming toNat_natCast → NH
open PySem.Builtin.Slice renaming sliceAdjust → NI, slicePlaces → NK
open PySem.Str renaming ofString → NP
open PySem.Builtin.Tuple renaming tupleItemsOf → NR, tupleExact → NT, tupleHashOf → N8
open PySem.Obj renaming mapSeq → NV
open PySem.SeqAt renaming EqAt → NX, RcAt → OC
open PySem.NameKind renaming free → Oa, cell → Oc
open ForInStep renaming yield → Of, done → Pr
open PySem.Builtin.SmallTypes renaming nextOf → Oh, ownedTupleIsFree → Oq, ownedTupleHandOut → Os
open PySem.Around renaming under_plainId → OG
open Classical renaming byContradiction → OL
open PySem.AutoSeq1 renaming wpAny_loadPart' → ON
open PySem.MeetsSeq renaming plain_index_loop → OO
open List renaming range → OR
open PySem.Builtin.List renaming listItems → O9, listExtendWith → Po
open PyProof.Rows.SortSt renaming mk' → Ph
open PySem.PassesOwn renaming never → Pp
open List.Perm renaming append_left → Ps
open Exists renaming elim → Pt
open List.Pairwise renaming imp_of_mem → Pz
def Mi.NJ:=@if_false
def Mi.NL:=@if_true
noncomputable def Mi.N9:=@of_decide_eq_true
def Mi.OA:=@or_false
noncomputable def Mi.OB:=@beq_self_eq_true
def Mi.O3:=@decide_true
noncomputable def Mi.O4:=@decide_false
noncomputable def Mi.Pg:=@bne_self_eq_false
def Mi.Pq:=@beq_iff_eq
noncomputable def Mi.PB{α}{l:List α}{i:Nat}{a:α}:=(List.getElem?_eq_some_iff (l:=l) (i:=i) (a:=a)).mp
noncomputable def Mi.PC{α β}{x:Option α}{f:α->Option β}{b:β}:=(Option.bind_eq_some_iff (x:=x) (f:=f) (b:=b)).mp
noncomputable def Mi.PD{α β}{x:Option α}{f:α->β}{b:β}:=(Option.map_eq_some_iff (x:=x) (f:=f) (b:=b)).mp
noncomputable def Mi.PF{α β}{f:α->β}{l:List α}{b:β}:=(List.mem_map (f:=f) (l:=l) (b:=b)).mp
open Mi (NJ NL N9 OA OB O3 O4 Pg Pq PB PC PD PF)
theorem Mi.al{p:Prop}[Decidable p]:(decide p=true)=p:=decide_eq_true_eq
theorem Mi.ak{c:Prop}{h:Decidable c}(a:c){α:Sort _}{t e:α}:ite c t e=t:=if_pos a
theorem Mi.aj{c:Prop}{h:Decidable c}(a:¬c){α:Sort _}{t e:α}:ite c t e=e:=if_neg a
theorem Mi.ai{p:Prop}[Decidable p]:¬p→decide p=false:=decide_eq_false
theorem Mi.ah{p:Prop}[Decidable p]:p→decide p=true:=decide_eq_true
open List renaming range → af
open Mi (al ak aj ai ah)
noncomputable section
namespace L2
open PySem PySem.Spec PyProof.Rows
abbrev Key:=Sum Int Str
noncomputable def qh:Key->dM->Bool
 | .inl k,v=>Value.isInt k v
 | .inr x,v=>Value.isStrOf x v
noncomputable def KW(w:dS):Key->Int
 | .inl k=>hashInt k
 | .inr x=>hashStr w x
theorem fA:∀{k:Key} {v:dM},qh k v=M->(∃i t,k=Sum.inl i/\v=aa i t)\/(∃x t,k=Sum.inr x/\v=Value.str x t)
 | .inl i,v,h=>by
  obtain⟨t,e⟩:=Value.isInt_shape (k:=i) (v:=v) h;exact .inl ⟨i,t,O,e⟩
 | .inr x,v,h=>by
  obtain⟨t,e⟩:=Value.isStrOf_shape (x:=x) (v:=v) h;exact .inr ⟨x,t,O,e⟩
theorem yu(i:Int)(t:Tok):qh (.inl i) (.int i t)=M:=by simp[qh,Value.isInt]
theorem yt(x:Str)(t:Tok):qh (.inr x) (.str x t)=M:=by simp[qh,Value.isStrOf]
theorem Ha(a b:Int):decide ((Sum.inl a:Key)=Sum.inl b)=(a == b):=by
 by_cases e:a=b
 ·subst e;simp
 ·have h:¬ (Sum.inl a:Key)=Sum.inl b:=λq=>e (Sum.inl.inj q);rw[ai h];exact(beq_eq_false_iff_ne.mpr e).symm
theorem G6(a b:Str):decide ((Sum.inr a:Key)=Sum.inr b)=decide (a=b):=by
 by_cases e:a=b
 ·subst e;simp
 ·have h:¬ (Sum.inr a:Key)=Sum.inr b:=λq=>e (Sum.inr.inj q);rw[ai h,ai e]
theorem G9(a:Int)(b:Str):decide ((Sum.inl a:Key)=Sum.inr b)=J:=ai (λq=>nomatch q)
theorem G7(a:Str)(b:Int):decide ((Sum.inr a:Key)=Sum.inl b)=J:=ai (λq=>nomatch q)
def fe(prog:dQ)(w:dS):PySem.KeyKind prog w Key where
 is:=qh
 hash:=KW w
 inj:=λv a b ha hb=>by
  rcases fA ha with⟨i,t,rfl,rfl⟩|⟨x,t,rfl,rfl⟩
  ·rcases fA hb with⟨j,u,rfl,e⟩|⟨y,u,rfl,e⟩
   ·injection e with e1 _;rw[e1]
   ·exact nomatch e
  ·rcases fA hb with⟨j,u,rfl,e⟩|⟨y,u,rfl,e⟩
   ·exact nomatch e
   ·injection e with e1 _;rw[e1]
 byValue:=λk v h=>by
  rcases fA h with⟨i,t,rfl,rfl⟩|⟨x,t,rfl,rfl⟩<;>rfl
 pyHash:=λhv h=>by
  rcases fA hv with⟨i,t,rfl,rfl⟩|⟨x,t,rfl,rfl⟩
  ·exact wpAny_pyHash_int h
  ·exact wpAny_pyHash_str h
 eqBool:=λhu hv h=>by
  rcases fA hu with⟨i,t,rfl,rfl⟩|⟨x,t,rfl,rfl⟩
  ·rcases fA hv with⟨j,u,rfl,rfl⟩|⟨y,u,rfl,rfl⟩
   ·rw[Ha]at h;exact wpAny_eqBool_int h
   ·rw[G9]at h;exact SeqAt.EqAt.int_str i t y u _ _ _ _ h
  ·rcases fA hv with⟨j,u,rfl,rfl⟩|⟨y,u,rfl,rfl⟩
   ·rw[G7]at h;exact SeqAt.EqAt.str_int x t j u _ _ _ _ h
   ·rw[G6]at h;exact wpAny_eqBool_str h
 «strs» :=λk x t v h=>by
  rcases fA h with⟨i,u,rfl,e⟩|⟨y,u,rfl,e⟩
  ·exact nomatch e
  ·injection e with e1 _;subst e1;cases v<;>rfl
theorem t7(prog:dQ)(w:dS)(i:Int)(t:Tok):(fe prog w).is (.inl i) (.int i t)=M:=yu i t
theorem t6(prog:dQ)(w:dS)(x:Str)(t:Tok):(fe prog w).is (.inr x) (.str x t)=M:=yt x t
inductive V where
 |non|bl (b:Bool)|int (i:Int)|str (x:Str)|byt (b:Array UInt8)|flt (b:UInt64)|ref (a:dP)|ty (n:String)
 deriving DecidableEq
def eu:V->dM->Prop
 | .non,u=>u=ab
 | .bl b,u=>u=ae b
 | .int i,u=>∃t,u=aa i t
 | .str x,u=>∃t,u=Value.str x t
 | .byt b,u=>∃t,u=Value.bytes b t
 | .flt b,u=>∃t,u=Value.float b t
 | .ref a,u=>u=D4 a
 | .ty n,u=>u=KG n
abbrev eG:List V->List dM->Prop:=Paired eu
theorem eG.length{xs:List V}{a:List dM}(r:eG xs a):xs.length=a.length:=Paired.length r
theorem eG.get:∀{xs:List V} {a:List dM} {i:Nat} {x:V},eG xs a->xs[i]?=Z x -> ∃u,a[i]?=Z u/\eu x u:=by
 intro xs a i x h e
 induction h generalizing i with
 |nil=>cases e
 |cons r t ih=>cases i with
  |zero=>cases e;exact⟨_,O,r⟩
  |succ i=>exact ih (i:=i) e
theorem eG.set{x:V}{u:dM}(r:eu x u):∀{xs:List V} {a:List dM} (i:Nat),eG xs a->eG (xs.set i x) (a.set i u):=by
 intro xs a i h
 induction h generalizing i with
 |nil=>exact .nil
 |cons q t ih=>cases i with
  |zero=>exact .cons r t
  |succ i=>exact .cons q (ih i)
theorem eG.append:∀{xs ys:List V} {a ws:List dM},eG xs a->eG ys ws->eG (xs++ys) (a++ws):=by
 intro xs ys a ws h s
 induction h with
 |nil=>exact s
 |cons r t ih=>exact .cons r ih
theorem eG.take:∀{xs:List V} {a:List dM} (n:Nat),eG xs a->eG (xs.take n) (a.take n):=by
 intro xs a n h
 induction h generalizing n with
 |nil=>rw[av,av];exact .nil
 |cons r t ih=>cases n with
  |zero=>exact .nil
  |succ n=>exact .cons r (ih n)
theorem eG.drop:∀{xs:List V} {a:List dM} (n:Nat),eG xs a->eG (xs.drop n) (a.drop n):=by
 intro xs a n h
 induction h generalizing n with
 |nil=>rw[aw,aw];exact .nil
 |cons r t ih=>cases n with
  |zero=>exact .cons r t
  |succ n=>exact ih n
def lg:Option V->Option dM->Prop
 |some v,Z u=>eu v u
 |none,Y=>True
 |_,_=>False
def KV{κ:Type}:List (κ×V)->List (κ×dM)->Prop:=Paired λ(p:κ×V) (q:κ×dM)=>p.1=q.1/\eu p.2 q.2
noncomputable def kV:Key->V
 | .inl i=>.int i
 | .inr x=>.str x
inductive HO where
 /-- a list -/
 |lst (xs:List V)
 /-- a tuple (never changes) -/
 |tup (xs:List V)
 /-- a dict whose keys are ints and texts; one whose keys are tuples of ints and texts (the empty one is both) -/
 |dK (kvs:List (Key×V))|dT (kvs:List (List Key×V))
 /-- a set of ints: its members, its size -/
 |set (S:Int->Bool) (n:Nat)
 /-- an instance of the class at C, its dict at dx, its attributes -/
 |ins (C dx:dP) (fs:List (Str×V))
 /-- the dict of the instance at x -/
 |own (x:dP)
 /-- the dict of an exception -/
 |xd (fs:List (Str×V))
 /-- a bound method, f of x -/
 |met (f x:dP)
 /-- a range object lo, lo + 1, .. below hi -/
 |rng (lo hi:Int)
 /-- a thing that is known to the object (the script; a dict while a loop walks it): read, never written while it is so -/
 |frz (o:Obj) (u:HO)
 /-- a code object's table -/
 |tbl (ps:Array dM)
 /-- any other thing, by what is true of its one object (a def of one's own: SetO a S n := HO.ext λh => ..) -/
 |ext (φ:dZ->Prop)
abbrev Hp:=dP->Option HO
noncomputable def upd(H:Hp)(a:dP)(o:HO):Hp:=λb=>if b=a then Z o else H b
theorem eI{H:Hp}{a:dP}{o:HO}:upd H a o a=Z o:=by unfold upd;rw[ak O]
theorem eD{H:Hp}{a b:dP}{o:HO}(h:b≠a):upd H a o b=H b:=by unfold upd;rw[aj h]
theorem IQ{H:Hp}{a b:dP}{o u:HO}(h:H a=Z o)(h':H b=Z u)(d:o≠u):a≠b:=by
 intro e;subst e;rw[h]at h';exact d (Option.some.inj h')
theorem eN{H:Hp}{a b:dP}{o:HO}(h:H a=Z o)(h':H b=Y):a≠b:=by
 intro e;subst e;rw[h]at h';cases h'
section
variable(P:dQ) (w:dS)
def fb(H:Hp)(h:dZ)(a:dP):HO->Prop
 | .lst xs=>xs.length<=dW /\ ∃(its:List dM) (n:Nat),eG xs its/\h.get? a=Z {cls:=.type "list",data:=.seq its.toArray n}
 | .tup xs=>xs.length<=dW /\ ∃its:List dM,eG xs its/\L3 h a its.toArray
 | .dK kvs=>kvs.length<=dW/\(a == L4)=J /\ ∃vs,KV kvs vs/\h.DictOf (fe P w) a vs
 | .dT kvs=>kvs.length<=dW/\(a == L4)=false /\ ∃ xs:List (List Key×dP×dM),
   Paired (λ(p:List Key×V) (q:List Key×dP×dM)=>p.1=q.1/\H q.2.1=Z (.tup (p.1.map kV))/\eu p.2 q.2.2) kvs xs /\
   ∃o es ep,h.get? a=Z o/\o.ExactDict/\o.data = .dict es ep/\es.toList=xs.map (entryOfKey (tupleKind (fe P w)))/\(xs.map (·.1)).Nodup
 | .set S n=>h.SetOf (intKind P w) a S n
 | .ins C dx fs=>H dx=some (.own a)/\fs.length<=1000/\dx≠a/\h.get? a=some (PySem.W.instObj C dx) /\
   ∃mA,h.Ns1 dx mA/\(∀f,lg (fs.lookup f) (mA f))/\PySem.Within mA (fs.map (·.1))
 | .own _=>∃o,h.get? a=Z o
 | .xd fs=>∃mA,h.Ns1 a mA /\ ∀f,lg (fs.lookup f) (mA f)
 | .rng lo hi=>∃t u v,h.get? a=Z {cls:=.type "range",data:=.fields #[.int lo t,.int hi u,.int 1 v]}
 | .frz o u=>h.get? a=Z o/\fb H h a u
 | .tbl ps=>h.get? a=Z {cls:=.none,data:=.fields ps}
 | .met f x=>h.get? a=Z (PySem.W.methodObj (.ref f) (.ref x))
 | .ext φ=>φ h/\(∃o,h.get? a=Z o) /\ ∀h1 h2:dZ,φ h1->(∀o,h1.get? a=Z o->h2.get? a=Z o)->φ h2
def lj(H:Hp)(h:dZ):Prop:=∀a o,H a=Z o->fb P w H h a o
end
section
variable{P:dQ}{w:dS}{H H':Hp}{h h':dZ}{a:dP}{o:HO}
theorem fb.lt(x:fb P w H h a o):a<h.objs.size:=by
 cases o with
 |lst xs=>obtain⟨_,_,_,_,e⟩:=x;exact hL1 e
 |tup xs=>obtain⟨_,_,_,p⟩:=x;exact p.lt
 |dK kvs=>obtain⟨_,_,_,_,o,_,_,e,_⟩:=x;exact hL1 e
 |dT kvs=>obtain⟨_,_,_,_,o,_,_,e,_⟩:=x;exact hL1 e
 |set S n=>obtain⟨o,_,_,_,e,_⟩:=x;exact hL1 e
 |ins C dx fs=>obtain⟨_,_,_,e,_⟩:=x;exact hL1 e
 |own y=>obtain⟨_,e⟩:=x;exact hL1 e
 |xd fs=>obtain⟨_,⟨_,_,_,e,_⟩,_⟩:=x;exact hL1 e
 |rng lo hi=>obtain⟨_,_,_,e⟩:=x;exact hL1 e
 |frz b u=>obtain⟨e,_⟩:=x;exact hL1 e
 |tbl ps=>exact hL1 (show h.get? a=Z _ from x)
 |met f y=>exact hL1 (show h.get? a=Z _ from x)
 |ext φ=>obtain⟨_,⟨_,e⟩,_⟩:=x;exact hL1 e
theorem Paired.mapP{α β:Type}{F G:α->β->Prop}:∀{c:List α} {l₂:List β},Paired F c l₂->(∀a b,F a b->G a b)->Paired G c l₂:=by
 intro a b h f
 induction h with
 |nil=>exact .nil
 |cons r t ih=>exact .cons (f _ _ r) ih
theorem fb.stay(x:fb P w H h a o)(k:∀ b u,(b=a\/H b=Z (.own a))->h.get? b=Z u->h'.get? b=Z u)(ho:∀b,H b=Z (.own a)->H' b=Z (.own a))(ht:∀b xs,H b=Z (.tup xs)->H' b=Z (.tup xs)):fb P w H' h' a o:=by
 induction o with
 |lst xs=>obtain⟨z,i,n,r,e⟩:=x;exact⟨z,i,n,r,k _ _ (.inl O) e⟩
 |tup xs=>obtain⟨z,i,r,g,e,c⟩:=x;exact⟨z,i,r,g,k _ _ (.inl O) e,c⟩
 |dK kvs=>obtain⟨z,y,vs,r,g,es,ep,e,c⟩:=x;exact⟨z,y,vs,r,g,es,ep,k _ _ (.inl O) e,c⟩
 |dT kvs=>
  obtain⟨z,y,xs,r,g,es,ep,e,c⟩:=x;exact⟨z,y,xs,Paired.mapP r λp q z=>⟨z.1,ht _ _ z.2.1,z.2.2⟩,g,es,ep,k _ _ (.inl O) e,c⟩
 |set S n=>obtain⟨g,es,ep,t,e,c⟩:=x;exact⟨g,es,ep,t,k _ _ (.inl O) e,c⟩
 |ins C dx fs=>
  obtain⟨d,z,ne,e,mA,⟨j,es,ep,l,c⟩,r⟩:=x;exact⟨ho _ d,z,ne,k _ _ (.inl O) e,mA,⟨j,es,ep,k _ _ (.inr d) l,c⟩,r⟩
 |own y=>obtain⟨g,e⟩:=x;exact⟨g,k _ _ (.inl O) e⟩
 |xd fs=>obtain⟨mA,⟨j,es,ep,e,c⟩,r⟩:=x;exact⟨mA,⟨j,es,ep,k _ _ (.inl O) e,c⟩,r⟩
 |rng lo hi=>obtain⟨t,u,v,e⟩:=x;exact⟨t,u,v,k _ _ (.inl O) e⟩
 |frz g u ih=>obtain⟨e,q⟩:=x;exact⟨k _ _ (.inl O) e,ih q⟩
 |tbl ps=>
  have e:h.get? a=Z {cls:=.none,data:=.fields ps}:=x;show h'.get? a=Z {cls:=.none,data:=.fields ps};exact k a _ (.inl O) e
 |met f y=>
  have e:h.get? a=Z (PySem.W.methodObj (.ref f) (.ref y)):=x;show h'.get? a=Z (PySem.W.methodObj (.ref f) (.ref y));exact k a _ (.inl O) e
 |ext φ=>obtain⟨p,⟨o,e⟩,st⟩:=x;exact⟨st _ _ p λo q=>k _ _ (.inl O) q,⟨o,k _ _ (.inl O) e⟩,st⟩
theorem lj.lt(x:lj P w H h)(e:H a=Z o):a<h.objs.size:=(x a o e).lt
theorem lj.fresh(x:lj P w H h)(e:h.objs.size<=a):H a=Y:=by
 cases q:H a with
 |none=>rfl
 |some u=>exact absurd (nL1 (x.lt q) e) (az _)
theorem lj.kept(x:lj P w H h)(k:∀b u,h.get? b=Z u->h'.get? b=Z u):lj P w H h':=λa o e=>
 (x a o e).stay (λb u _ q=>k b u q) (λ_ q=>q) λ_ _ q=>q
theorem lj.laid(x:lj P w H h)(k:∀b u,h.get? b=Z u->h'.get? b=Z u)(hp:h.objs.size<=a)(new:fb P w (upd H a o) h' a o):lj P w (upd H a o) h':=λb u e=>by
 have f:=x.fresh hp;by_cases d:b=a
 ·subst d;rw[eI]at e;cases e;exact new
 ·rw[eD d]at e;exact(x b u e).stay (λc v _ q=>k c v q) (λc q=>by rw[eD (eN q f)];exact q) λc xs q=>by rw[eD (eN q f)];exact q
end
def Rd(H:Hp)(a:dP)(u:HO):Prop:=H a=Z u \/ ∃o,H a=Z (.frz o u)
theorem Rd.of{H:Hp}{a:dP}{u:HO}(h:H a=Z u):Rd H a u:=.inl h
theorem Rd.ok{P:dQ}{w:dS}{H:Hp}{h:dZ}{a:dP}{u:HO}(r:Rd H a u)(x:lj P w H h):fb P w H h a u:=by
 rcases r with r|⟨o,r⟩
 ·exact x a u r
 ·obtain⟨_,q⟩:=x a _ r;exact q
def HL:Option HO->Prop
 |some (.lst _)=>True
 |some (.dK _)=>True
 |some (.dT _)=>True
 |some (.set _ _)=>True
 |some (.ins _ _ _)=>True
 |some (.ext _)=>True
 |_=>False
section
variable{P:dQ}{w:dS}{H:Hp}{h h':dZ}{x e:dP}{o':HO}
theorem lj.write(ok:lj P w H h)(mu:HL (H x))(he:e=x\/H e=Z (.own x))(k:∀ b u,b≠e->h.get? b=Z u->h'.get? b=Z u)(i:∃ u,h'.get? e=Z u)(new:fb P w (upd H x o') h' x o'):lj P w (upd H x o') h':=λb u q=>by
 have d:∀c y,H c=Z (.own y)->c≠x:=λc y r z=>by subst z;rw[r]at mu;exact mu
 have f:∀c xs,H c=Z (.tup xs)->c≠x:=λc xs r z=>by subst z;rw[r]at mu;exact mu
 by_cases g:b=x
 ·subst g;rw[eI]at q;cases q;exact new
 ·rw[eD g]at q;by_cases a:b=e
  ·have j:H b=some (.own x):=by
    rcases he with z|z
    ·exact absurd (a.trans z) g
    ·rw[a];exact z
   rw[q]at j;cases j;obtain⟨v,l⟩:=i;exact⟨v,by rw[a];exact l⟩
  ·refine(ok b u q).stay (λc v hc r=>k c v ?_ r) (λc r=>by rw[eD (d c b r)];exact r) λc xs r=>by rw[eD (f c xs r)];exact r
   rcases hc with rfl|hc
   ·exact a
   ·rintro rfl;rcases he with z|z
    ·exact d c b hc z
    ·rw[hc]at z;cases z;exact g O
end
structure Un (fs ex:List dP)(H H':Hp)(h h':dZ):Prop where
 keep:∀b o,h.get? b=some o->H b=none->b∉fs->b∉ex->h'.get? b=some o
 slot:∀b o,h.get? b=some o->H b=none->b∈fs->b∉ex -> ∃sl,h'.get? b=some {o with slots:=sl}
 free:∀b o,h.get? b=some o->H b=none->b∉ex->H' b=none
 there:∀b o,h.get? b=some o->b∉ex -> ∃o',h'.get? b=some o'
 tups:∀b xs,H b=some (.tup xs)->H' b=some (.tup xs)
 frzs:∀b o u,H b=some (.frz o u)->H' b=some (.frz o u)
 tbls:∀b ps,H b=some (.tbl ps) -> ∃more,H' b=some (.tbl (ps++more))
section
variable{fs fs' ex ex':List dP}{H H1 H2:Hp}{h h1 h2 h':dZ}{a x e:dP}{o:HO}
theorem Un.any(u:Un fs ex H H1 h h1){b:dP}{a:Obj}(q:h.get? b=Z a)(n:H b=Y)(hx:b∉ex):∃d,h1.get? b=Z {a with slots:=d}:=by
 by_cases c:b∈fs
 ·exact u.slot b a q n c hx
 ·exact⟨a.slots,u.keep b a q n c hx⟩
theorem Un.kept(k:∀b u,h.get? b=Z u->h'.get? b=Z u):Un fs ex H H h h':=
 ⟨λb a q _ _ _=>k b a q,λb a q _ _ _=>⟨a.slots,k b a q⟩,λ_ _ _ n _=>n,λb a q _=>⟨a,k b a q⟩,λ_ _ q=>q,λ_ _ _ q=>q,λ_ ps q=>⟨#[],by rw[q];simp⟩⟩
theorem Un.refl:Un fs ex H H h h:=Un.kept λ_ _ q=>q
theorem Un.laid(k:∀b u,h.get? b=Z u->h'.get? b=Z u)(hp:h.objs.size<=a)(hn:H a=Y):Un fs ex H (upd H a o) h h' where
 keep:=λb u q _ _ _=>k b u q
 slot:=λb u q _ _ _=>⟨u.slots,k b u q⟩
 free:=λb u q n _=>by rw[eD (nN1 (nL1 (hL1 q) hp))];exact n
 there:=λb u q _=>⟨u,k b u q⟩
 tups:=λb xs q=>by rw[eD (eN q hn)];exact q
 frzs:=λb u xs q=>by rw[eD (eN q hn)];exact q
 tbls:=λb ps q=>⟨#[],by rw[eD (eN q hn),q];simp⟩
theorem Un.write(mu:HL (H x))(he:e=x\/H e=Z (.own x))(k:∀b u,b≠e->h.get? b=Z u->h'.get? b=Z u)(c:∃u,h'.get? e=Z u):Un fs ex H (upd H x o) h h':=by
 have g:∀b,H b=Y->b≠x:=λb n z=>by subst z;rw[n]at mu;exact mu
 have f:∀b,H b=Y->b≠e:=λb n z=>by
  subst z;rcases he with r|r
  ·exact g b n r
  ·rw[n]at r;cases r
 have d:∀b u,H b=Z u -> ¬ HL (Z u)->b≠x:=λb u q nm z=>by subst z;rw[q]at mu;exact nm mu
 refine⟨λb u q n _ _=>k b u (f b n) q,λb u q n _ _=>⟨u.slots,k b u (f b n) q⟩,λb u q n _=>by rw[eD (g b n)];exact n,λb u q _=>?_,
  λb xs q=>by rw[eD (d b _ q λz=>z)];exact q,λb u xs q=>by rw[eD (d b _ q λz=>z)];exact q,λb ps q=>⟨#[],by rw[eD (d b _ q λz=>z),q];simp⟩⟩
 by_cases a:b=e
 ·subst a;exact c
 ·exact⟨u,k b u a q⟩
end
noncomputable def trk(h:dZ)(H:Hp):List dP:=(af h.objs.size).filter λa=>(H a).isSome
def sj(h:dZ)(H:Hp):dZ:=PySem.W.hideAll h (trk h H)
theorem yA(h:dZ)(H:Hp):(sj h H).objs.size=h.objs.size:=PySem.W.hideAll_size _ _
theorem Bo{h:dZ}{H:Hp}{b:dP}{o:Obj}(e:h.get? b=Z o)(n:H b=Y):(sj h H).get? b=Z o:=
 PySem.W.hideAll_get _ e λa=>by
  have q:(H b).isSome=M:=(aA.mp a).2;rw[n]at q;simp at q
theorem Db{h:dZ}{H:Hp}{b:dP}{o:Obj}(e:(sj h H).get? b=Z o):h.get? b=Z o/\H b=Y:=by
 have a:h.get? b=Z o:=PySem.W.of_hideAll (trk h H) e;refine⟨a,?_⟩;cases q:H b with
 |none=>rfl
 |some x=>
  have c:b∈trk h H:=aA.mpr ⟨aB.mpr (hL1 a),by simp[q]⟩;have z:(sj h H).get? b=Y:=PySem.W.hideAll_none (trk h H) c;rw[z]at e;cases e
noncomputable def Ei(g h:dZ)(L:dP):List (dP×Obj):=(af h.objs.size).filterMap λa=>if a=L\/(g.get? a).isSome=M then Y else(h.get? a).map λo=>(a,o)
def rest(g h:dZ)(L d:dP):List (dP×Obj):=(Ei g h L).filter λp=>decide (p.1≠d)
structure Mod (K:Fg1)(mg:Str->Option dM)(base:dZ):Prop where
 kin:K.In base
 glob:base.Ns dU mg
 blt:∃mb,base.Ns builtinsNs mb /\ ∀x:Str,x≠"__name__"->mb x=L5 x
 nolimit:base.NoLimit
structure Cx where
 prog:dQ
 w:dS
 K:Fg1
 mg:Str->Option dM
 base:dZ
 A:dR
 N:List Str
 s₀:dN
 H₀:Hp
 env:Env
 outer:List Env
 stack:List Env
 ex:List dP
 fn:Str->Bool
 calm:Bool
 pn:List (dP×Obj)
 xe:dM->dN->Prop
noncomputable def frs(l:List Env):List dP:=l.filterMap (·.frame)
abbrev Cx.fs(X:Cx):List dP:=frs X.outer
def Vis(sc:d4)(x:Str):Prop:=sc.names.lookup x=Z .local\/sc.names.lookup x=Z .cell\/sc.names.lookup x=Z .free
def uX(sc:d4)(x:Str):Prop:=sc.names.lookup x=Z .local\/sc.names.lookup x=Z .cell
def Li(env:Env)(h:dZ)(m:Str->Option dM)(x:Str)(u:dM):Prop:=
 (env.kindOf x=Z .local/\m x=Z u)\/((env.kindOf x=Z .cell\/env.kindOf x=Z .free) /\ ∃c,env.cells.lookup x=Z c/\h.IsCell c (Z u))
structure Cx.Ok (X:Cx):Prop where
 mod:Mod X.K X.mg X.base
 kind:X.env.scope.kind = .function
 glob:X.env.globals=dU
 blt:X.env.builtins=builtinsNs
 above:X.s₀.heap.objs.size<=X.env.locals
 inj:∀x y c,X.env.cells.lookup x=some c->X.env.cells.lookup y=some c->x=y
 has:∀x,(X.env.kindOf x=some .cell\/X.env.kindOf x=some .free) -> ∃c,X.env.cells.lookup x=some c
 cab:∀x c,X.fn x=true->X.env.cells.lookup x=some c->X.s₀.heap.objs.size<=c
 hd:X.calm=true->X.A.handled=none
 frames:X.A.frames=some X.stack
 stk:X.stack=X.outer\/(X.stack=X.env::X.outer/\X.env.frame=some X.env.locals)
 exf:∀b∈X.ex,b≠X.env.locals /\ ∀x c,X.env.cells.lookup x=some c->c≠b
 bs:∀b o,X.base.get? b=some o->X.s₀.heap.get? b=some o/\X.H₀ b=none
 bsz:X.base.objs.size<=X.s₀.heap.objs.size
 noex:∀b o,X.base.get? b=some o->b∉X.ex
 exfs:∀b∈X.ex,b∉X.fs
 funs:X.s₀.heap.FunFrames X.base X.outer
 frf:∀b∈X.fs,X.H₀ b=none
structure Inv (X:Cx)(ag:List (dP×Obj))(σ:List (Option V))(H:Hp)(s:dN):Prop where
 ok:X.Ok
 os:s.os=X.s₀.os
 bare:L6 s.gens
 base:Un X.fs X.ex X.H₀ H X.s₀.heap s.heap
 loc:∃m,s.heap.Ns X.env.locals m /\ ∀(i:Nat) (x:Str) (v:V),X.N[i]?=some x->σ[i]?=some (some v)->Vis X.env.scope x -> ∃u,eu v u/\Li X.env s.heap m x u
 cell:∀x c,X.env.cells.lookup x=some c -> ∃v,s.heap.IsCell c v
 free:H X.env.locals=none
 freeC:∀x c,X.env.cells.lookup x=some c->H c=none
 pin:∀p∈X.pn++ag,s.heap.get? p.1=some p.2/\H p.1=none/\p.1≠X.env.locals/\p.1∉X.fs /\ ∀v,p.2.data ≠ .cell v
 hok:lj X.prog X.w H s.heap
 len:σ.length=X.N.length
variable{X:Cx}
section
variable{ag:List (dP×Obj)}{σ:List (Option V)}{H H':Hp}{s:dN}{h':dZ}
theorem Cx.Ok.nofr(ok:X.Ok){b:dP}{o:Obj}(e:X.base.get? b=Z o):b∉X.fs:=λa=>by
 have:=(ok.funs.mem a).1;rw[e]at this;cases this
theorem Inv.bs(I:Inv X ag σ H s):∀b o,X.base.get? b=Z o->s.heap.get? b=Z o/\H b=Y:=λb o e=>
 ⟨I.base.keep b o (I.ok.bs b o e).1 (I.ok.bs b o e).2 (I.ok.nofr e) (I.ok.noex b o e),I.base.free b o (I.ok.bs b o e).1 (I.ok.bs b o e).2 (I.ok.noex b o e)⟩
theorem Inv.bk(I:Inv X ag σ H s):∀b o,X.base.get? b=Z o->s.heap.get? b=Z o:=λb o e=>(I.bs b o e).1
theorem Inv.mod(I:Inv X ag σ H s):Mod X.K X.mg X.base:=I.ok.mod
theorem Inv.kIn(I:Inv X ag σ H s):X.K.In s.heap:=I.ok.mod.kin.keeps I.bk
theorem Inv.lt(I:Inv X ag σ H s):X.env.locals<s.heap.objs.size:=let ⟨_,hn,_⟩:=I.loc;hn.lt
theorem Inv.sz(I:Inv X ag σ H s):X.s₀.heap.objs.size<=s.heap.objs.size:=aC I.ok.above (aD I.lt)
theorem Inv.nofs(I:Inv X ag σ H s){a:dP}(h:s.heap.objs.size<=a):a∉X.fs:=λc=>by
 obtain⟨_,o,b,_⟩:=I.ok.funs.mem c;exact absurd (nL1 (hL1 b) (aC I.sz h)) (az _)
theorem Inv.cne(I:Inv X ag σ H s):∀x c,X.env.cells.lookup x=Z c->c≠X.env.locals:=λx c e z=>by
 obtain⟨v,o,d,f⟩:=I.cell x c e;obtain⟨m,⟨o',es,ep,a,b,_⟩,_⟩:=I.loc;rw[z,a]at d;cases d;rw[b]at f;cases f
theorem Inv.funs(I:Inv X ag σ H s):s.heap.FunFrames X.base X.outer:=by
 have all:∀(l:List Env),(∀b∈frs l,b∈X.fs)->X.s₀.heap.FunFrames X.base l->s.heap.FunFrames X.base l:=by
  intro l
  induction l with
  |nil=>intro _ _;trivial
  |cons n r ih=>
   intro f m;obtain⟨k,⟨L,o,c,j,h,i⟩,g⟩:=m;have d:L∈X.fs:=f L (by unfold frs;rw[aE,c];exact mS1);obtain⟨p,e⟩:=I.base.slot L o h (I.ok.frf L d) d λz=>I.ok.exfs L z d;exact⟨k,⟨L,_,c,j,e,i⟩,ih (λb a=>f b (by unfold frs;rw[aE,c];exact mC1 _ a)) g⟩
 exact all X.outer (λ_ a=>a) I.ok.funs
theorem Inv.stack(I:Inv X ag σ H s):s.heap.FunFrames X.base X.stack:=by
 rcases I.ok.stk with e|⟨e,a⟩
 ·rw[e];exact I.funs
 ·rw[e];obtain⟨m,b,_⟩:=I.loc;refine .cons (by rw[I.ok.kind];decide) a b ?_ I.funs;exact Ms (aC I.ok.bsz I.ok.above)
theorem Inv.stkSub(I:Inv X ag σ H s):∀b∈frs X.stack,b∈X.env.locals::X.fs:=λb a=>by
 rcases I.ok.stk with e|⟨e,c⟩
 ·rw[e]at a;exact mC1 _ a
 ·rw[e]at a;unfold frs at a;rw[aE,c]at a;exact a
theorem Inv.stkFree(I:Inv X ag σ H s):∀b∈frs X.stack,H b=Y:=λb a=>by
 rcases aF.mp (I.stkSub b a)with e|a
 ·rw[e];exact I.free
 ·obtain⟨_,o,c,_⟩:=I.ok.funs.mem a;exact I.base.free b o c (I.ok.frf b a) λz=>I.ok.exfs b z a
theorem Inv.step{g':Array GenState}{t':Nat}{d':Drawn}{ch:List dP}(I:Inv X ag σ H s)(g:∀b∈ch,(b∈X.ex\/X.s₀.heap.objs.size<=b)/\b≠X.env.locals/\(∀x c,X.env.cells.lookup x=some c->c≠b) /\ ∀p∈X.pn++ag,p.1≠b)(keep:∀b o,b≠X.env.locals->b∉X.fs->b∉ch->s.heap.get? b=some o->H b=none->h'.get? b=some o)(slot:∀b o,b≠X.env.locals->b∈X.fs->b∉ch->s.heap.get? b=some o->H b=none -> ∃K,h'.get? b=some {o with slots:=K})(f:∀b o,b∉ch->s.heap.get? b=some o->H b=none->H' b=none)(A:∀b o,b∉ch->s.heap.get? b=some o -> ∃o',h'.get? b=some o')(F:∀b xs,H b=some (.tup xs)->H' b=some (.tup xs))(G:∀b o u,H b=some (.frz o u)->H' b=some (.frz o u))(E:∀b ps,H b=some (.tbl ps) -> ∃more,H' b=some (.tbl (ps++more)))(ns:∀m,s.heap.Ns X.env.locals m->h'.Ns X.env.locals m)(ao:lj X.prog X.w H' h')(hg:L6 g'):
  Inv X ag σ H' {s with heap:=h',gens:=g',drawn:=d',toks:=t'}:=by
 have C:∀b o,X.s₀.heap.get? b=Z o->b≠X.env.locals:=λb o e=>nN1 (nL1 (hL1 e) I.ok.above);have t:∀b o,X.s₀.heap.get? b=Z o->b∉X.ex->b∉ch:=λb o e a y=>by
  rcases(g b y).1 with z|z
  ·exact a z
  ·exact absurd (nL1 (hL1 e) z) (az _)
 have j:∀x c,X.env.cells.lookup x=Z c -> ∀v,s.heap.IsCell c v->h'.IsCell c v:=λx c e v ⟨o,B,L⟩=>by
  have h:c∉ch:=λz=>(g c z).2.2.1 x c e O;by_cases hc:c∈X.fs
  ·obtain⟨K,q⟩:=slot c o (I.cne x c e) hc h B (I.freeC x c e);exact⟨_,q,L⟩
  ·exact⟨o,keep c o (I.cne x c e) hc h B (I.freeC x c e),L⟩
 refine⟨I.ok,I.os,hg,⟨λb o e n y a=>?_,λb o e n y a=>?_,λb o e n a=>?_,λb o e a=>?_,λb xs e=>F b xs (I.base.tups b xs e),λb o xs e=>G b o xs (I.base.frzs b o xs e),λb ps e=>?_⟩,?_,λx c e=>?_,?_,λx c e=>?_,λp N=>?_,ao,I.len⟩
 ·exact keep b o (C b o e) y (t b o e a) (I.base.keep b o e n y a) (I.base.free b o e n a)
 ·obtain⟨K,w⟩:=I.base.slot b o e n y a;obtain⟨am,D⟩:=slot b _ (C b o e) y (t b o e a) w (I.base.free b o e n a);exact⟨am,D⟩
 ·obtain⟨o',w⟩:=I.base.there b o e a;exact f b o' (t b o e a) w (I.base.free b o e n a)
 ·obtain⟨o',w⟩:=I.base.there b o e a;exact A b o' (t b o e a) w
 ·obtain⟨m1,w⟩:=I.base.tbls b ps e;obtain⟨m2,D⟩:=E b _ w;exact⟨m1++m2,by rw[D,Array.append_assoc]⟩
 ·obtain⟨m,Q,R⟩:=I.loc;refine⟨m,ns m Q,λi x v w D P=>?_⟩;obtain⟨u,r,l⟩:=R i x v w D P;refine⟨u,r,?_⟩;rcases l with l|⟨k,c,e,z⟩
  ·exact .inl l
  ·exact .inr ⟨k,c,e,j x c e _ z⟩
 ·obtain⟨v,z⟩:=I.cell x c e;exact⟨v,j x c e v z⟩
 ·obtain⟨m,⟨o,_,_,B,_⟩,_⟩:=I.loc;exact f _ o (λz=>(g _ z).2.1 O) B I.free
 ·obtain⟨v,o,B,L⟩:=I.cell x c e;exact f c o (λz=>(g c z).2.2.1 x c e O) B (I.freeC x c e)
 ·obtain⟨e,n,ne,au,d⟩:=I.pin p N;have h:p.1∉ch:=λz=>(g p.1 z).2.2.2 p N O;exact⟨keep p.1 p.2 ne au h e n,f p.1 p.2 h e n,ne,au,d⟩
theorem Inv.un{t':Nat}(I:Inv X ag σ H s)(u:Un X.fs [] H H' s.heap h')(d:lj X.prog X.w H' h'):Inv X ag σ H' {s with heap:=h',toks:=t'}:=by
 obtain⟨m,⟨o,es,ep,h,r⟩,_⟩:=id I.loc;obtain⟨l,j⟩:=u.any h I.free (by simp);exact I.step (g':=s.gens) (d':=s.drawn) (ch:=[]) (λ_ z=>nomatch z) (λb o _ c _ e n=>u.keep b o e n c (by simp)) (λb o _ c _ e n=>u.slot b o e n c (by simp)) (λb o _ e n=>u.free b o e n (by simp)) (λb o _ e=>u.there b o e (by simp)) u.tups u.frzs u.tbls (λp k=>by
  obtain⟨o',g,f,a,i⟩:=k;rw[h]at a;cases a;exact⟨_,g,f,j,i⟩) d I.bare
theorem Inv.call{g':Array GenState}{t':Nat}{d':Drawn}{ch:List dP}(I:Inv X ag σ H s)(u:Un (frs X.stack) ch H H' s.heap h')(f:lj X.prog X.w H' h')(hg:L6 g')(d:∀b∈ch,(b∈X.ex\/X.s₀.heap.objs.size<=b)/\b≠X.env.locals/\(∀x c,X.env.cells.lookup x=some c->c≠b) /\ ∀p∈X.pn++ag,p.1≠b):
  Inv X ag σ H' {s with heap:=h',gens:=g',drawn:=d',toks:=t'}:=by
 obtain⟨m,⟨o,es,ep,j,r⟩,_⟩:=id I.loc;obtain⟨t,g⟩:=u.any j I.free λz=>(d _ z).2.1 O;exact I.step (ch:=ch) d (λb o g l hc e n=>u.keep b o e n (λz=>(aF.mp (I.stkSub b z)).elim g l) hc) (λb o _ _ hc e n=>u.any e n hc) (λb o hc e n=>u.free b o e n hc) (λb o hc e=>u.there b o e hc) u.tups u.frzs u.tbls (λv q=>by
  obtain⟨o',i,h,a,k⟩:=q;rw[j]at a;cases a;exact⟨_,i,h,g,k⟩) f hg
theorem Inv.turned{t':Nat}{it:dP}(I:Inv X ag σ H s)(k:∀ b o,b≠it->s.heap.get? b=Z o->h'.get? b=Z o)(hn:H it=Y)(d:it≠X.env.locals)(h1:it∈X.ex\/X.s₀.heap.objs.size<=it)(h2:∀x c,X.env.cells.lookup x=Z c->c≠it)(h:∀p∈X.pn++ag,p.1≠it):Inv X ag σ H {s with heap:=h',toks:=t'}:=by
 have a:∀b u,H b=Z u->b≠it:=λb u e z=>by rw[z,hn]at e;cases e
 refine I.step (g':=s.gens) (d':=s.drawn) (ch:=[it]) (λb g=>?_) (λb o _ _ hc e _=>k b o (λz=>hc (by simp[z])) e) (λb o _ _ hc e _=>⟨o.slots,k b o (λz=>hc (by simp[z])) e⟩) (λ_ _ _ _ n=>n)
  (λb o hc e=>⟨o,k b o (λz=>hc (by simp[z])) e⟩) (λ_ _ e=>e) (λ_ _ _ e=>e) (λb ps e=>⟨#[],by rw[e];simp⟩) (λm i=>?_) (λb u e=>?_) I.bare
 ·have e:b=it:=by simpa using g
  subst e;exact⟨h1,d,h2,h⟩
 ·obtain⟨o,es,ep,f,r⟩:=i;exact⟨o,es,ep,k _ o (Mt d) f,r⟩
 ·refine(I.hok b u e).stay (λc v hc q=>k c v ?_ q) (λ_ q=>q) λ_ _ q=>q;rcases hc with z|z
  ·rw[z];exact a b u e
  ·exact a c _ z
theorem Inv.tok(I:Inv X ag σ H s)(t:Nat):Inv X ag σ H {s with toks:=t}:=I.un (h':=s.heap) (t':=t) Un.refl I.hok
theorem Inv.kept{t':Nat}(I:Inv X ag σ H s)(k:∀b u,s.heap.get? b=Z u->h'.get? b=Z u):Inv X ag σ H {s with heap:=h',toks:=t'}:=I.un (Un.kept k) (I.hok.kept k)
theorem Inv.laid{a:dP}{o:HO}{t':Nat}(I:Inv X ag σ H s)(k:∀ b u,s.heap.get? b=some u->h'.get? b=some u)(hp:s.heap.objs.size<=a)(new:fb X.prog X.w (upd H a o) h' a o):
  Inv X ag σ (upd H a o) {s with heap:=h',toks:=t'}:=I.un (Un.laid k hp (I.hok.fresh hp)) (I.hok.laid k hp new)
theorem Inv.write{x e:dP}{o:HO}{t':Nat}(I:Inv X ag σ H s)(mu:HL (H x))(he:e=x\/H e=Z (.own x))(k:∀ b u,b≠e->s.heap.get? b=Z u->h'.get? b=Z u)(a:∃ u,h'.get? e=Z u)(new:fb X.prog X.w (upd H x o) h' x o):Inv X ag σ (upd H x o) {s with heap:=h',toks:=t'}:=I.un (Un.write mu he k a) (I.hok.write mu he k a new)
theorem Inv.pins_of{a:List (dP×Obj)}(I:Inv X ag σ H s)(h:∀p∈a,s.heap.get? p.1=Z p.2/\H p.1=Y/\p.1≠X.env.locals/\p.1∉X.fs /\ ∀v,p.2.data ≠ .cell v):Inv X a σ H s:=
 ⟨I.ok,I.os,I.bare,I.base,I.loc,I.cell,I.free,I.freeC,λp b=>(aG.mp b).elim (λz=>I.pin p (aH _ z)) (h p),I.hok,I.len⟩
theorem t3{N:List Str}(hN:N.Nodup){i j:Nat}{x:Str}(a:N[i]?=Z x)(b:N[j]?=Z x):i=j:=by
 obtain⟨h1,c⟩:=PB a;obtain⟨h2,d⟩:=PB b;exact(aI hN).mp (c.trans d.symm)
theorem xW{ao:Model}{A:dR}{E:dM->dN->Prop}{i:Nat}{x:Str}{v:V}{u:dM}{Q:Unit->dN->Prop}(I:Inv X ag σ H s)(hN:X.N.Nodup)(hi:X.N[i]? = Z x)(hx:uX X.env.scope x)(r:eu v u)(h:∀s',Inv X ag (σ.set i (Z v)) H s'->(∃a,Mv a s.heap s'.heap/\(a=X.env.locals\/X.env.cells.lookup x=Z a))->Q () s')(hf:autoParam (X.fn x=M\/X.env.scope.names.lookup x=Z .local) au0):dX ao A (storeName X.env x u) Q E s:=by
 obtain⟨m,hn,hl⟩:=id I.loc;have am:(X.env.scope.kind == .class||(X.env.scope.kind == .module&&X.env.locals != X.env.globals))=J:=by rw[I.ok.kind];rfl
 have w:i<σ.length:=by rw[I.len];exact(PB hi).1
 have cne:=I.cne;have tracked:∀{a:dP} {h':dZ},(∃o,s.heap.get? a=Z o/\H a=Y)->Mv a s.heap h'->lj X.prog X.w H h':=λ{a h'} ha f b ob e=>by
  obtain⟨_,_,l⟩:=ha;refine(I.hok b ob e).stay (λc au hc q=>(f.2 c ?_).trans q) (λ_ q=>q) λ_ _ q=>q;rintro rfl;rcases hc with rfl|hc
  ·rw[l]at e;cases e
  ·rw[l]at hc;cases hc
 rcases hx with B|B
 ·refine wpAny_storeName_local B hn (λh' W f=>?_) am;obtain⟨oL,_,_,wq,_⟩:=id hn;refine h _ ⟨I.ok,I.os,I.bare,⟨λb o e n C hx=>?_,λb o e n C hx=>?_,I.base.free,λb o e hx=>?_,I.base.tups,I.base.frzs,I.base.tbls⟩,⟨_,W,λj y T g t S=>?_⟩,λy c e=>?_,I.free,I.freeC,λp U=>?_,tracked ⟨oL,wq,I.free⟩ f,by simpa using I.len⟩ ⟨_,f,.inl O⟩
  ·exact(f.2 b (nN1 (nL1 (hL1 e) I.ok.above))).trans (I.base.keep b o e n C hx)
  ·obtain⟨sl,g⟩:=I.base.slot b o e n C hx;exact⟨sl,(f.2 b (nN1 (nL1 (hL1 e) I.ok.above))).trans g⟩
  ·obtain⟨o',g⟩:=I.base.there b o e hx;exact⟨o',(f.2 b (nN1 (nL1 (hL1 e) I.ok.above))).trans g⟩
  ·by_cases F:j=i
   ·subst F;rw[hi]at g;cases g;rw[aJ w]at t;cases t;exact⟨u,r,.inl ⟨B,by simp⟩⟩
   ·rw[gS1 (Mt F)]at t;obtain⟨R,r',q⟩:=hl j y T g t S;refine⟨R,r',?_⟩;rcases q with⟨k,e⟩|⟨k,c,e,z⟩
    ·refine .inl ⟨k,?_⟩;have:y≠x:=λe=>F (t3 hN g (e ▸ hi));simp[this,e]
    ·exact .inr ⟨k,c,e,z.sameBut f (cne y c e)⟩
  ·obtain⟨au,z⟩:=I.cell y c e;exact⟨au,z.sameBut f (cne y c e)⟩
  ·obtain⟨e,n,ne,aq,d⟩:=I.pin p U;exact⟨(f.2 p.1 ne).trans e,n,ne,aq,d⟩
 ·have D:X.fn x=true:=by
   rcases hf with z|z
   ·exact z
   ·rw[z]at B;cases B
  obtain⟨c,hc⟩:=I.ok.has x (.inl B);obtain⟨au,z⟩:=I.cell x c hc;refine wpAny_storeName_cell I.ok.kind B hc z (λh' L f=>?_);obtain⟨oc,N,G⟩:=id z;refine h {s with heap:=h'} ⟨I.ok,I.os,I.bare,⟨λb o e n C hx=>?_,λb o e n C hx=>?_,I.base.free,λb o e hx=>?_,I.base.tups,I.base.frzs,I.base.tbls⟩,⟨m,hn.sameBut f (Mt (cne x c hc)),λj y T g t S=>?_⟩,λy P e=>?_,I.free,I.freeC,λp U=>?_,tracked ⟨oc,N,I.freeC x c hc⟩ f,by simpa using I.len⟩ ⟨c,f,.inr hc⟩
  ·exact(f.2 b (nN1 (nL1 (hL1 e) (I.ok.cab x c D hc)))).trans (I.base.keep b o e n C hx)
  ·obtain⟨sl,g⟩:=I.base.slot b o e n C hx;exact⟨sl,(f.2 b (nN1 (nL1 (hL1 e) (I.ok.cab x c D hc)))).trans g⟩
  ·obtain⟨o',g⟩:=I.base.there b o e hx;exact⟨o',(f.2 b (nN1 (nL1 (hL1 e) (I.ok.cab x c D hc)))).trans g⟩
  ·by_cases F:j=i
   ·subst F;rw[hi]at g;cases g;rw[aJ w]at t;cases t;exact⟨u,r,.inr ⟨.inl B,c,hc,L⟩⟩
   ·rw[gS1 (Mt F)]at t;obtain⟨R,r',q⟩:=hl j y T g t S;refine⟨R,r',?_⟩;rcases q with q|⟨k,P,e,z'⟩
    ·exact .inl q
    ·refine .inr ⟨k,P,e,z'.sameBut f ?_⟩;rintro rfl;exact F (t3 hN g (I.ok.inj _ _ _ e hc ▸ hi))
  ·by_cases K:P=c
   ·subst K;exact⟨_,L⟩
   ·obtain⟨w2,z2⟩:=I.cell y P e;exact⟨w2,z2.sameBut f K⟩
  ·obtain⟨e,n,ne,aq,d⟩:=I.pin p U;refine⟨(f.2 p.1 ?_).trans e,n,ne,aq,d⟩;intro q;rw[q,N]at e;have q':oc=p.2:=Option.some.inj e;exact d au (by rw[<- q'];exact G)
theorem jz{ao:Model}{A:dR}{E:dM->dN->Prop}{i:Nat}{x:Str}{v:V}{u:dM}{Q:Unit->dN->Prop}(I:Inv X ag σ H s)(hN:X.N.Nodup)(hi:X.N[i]? = Z x)(hx:uX X.env.scope x)(r:eu v u)(h:∀s',Inv X ag (σ.set i (Z v)) H s'->Q () s')(hf:autoParam (X.fn x=M\/X.env.scope.names.lookup x=Z .local) au0):dX ao A (storeName X.env x u) Q E s:=
 xW I hN hi hx r (λs' a _=>h s' a) hf
theorem Inv.call'{s':dN}{ch:List dP}(I:Inv X ag σ H s)(ho:s'.os=s.os)(u:Un (frs X.stack) ch H H' s.heap s'.heap)(a:lj X.prog X.w H' s'.heap)(hg:L6 s'.gens)(d:∀b∈ch,(b∈X.ex\/X.s₀.heap.objs.size<=b)/\b≠X.env.locals/\(∀x c,X.env.cells.lookup x=Z c->c≠b) /\ ∀p∈X.pn++ag,p.1≠b):Inv X ag σ H' s':=by
 obtain⟨h',h,g,f,o'⟩:=s';have e:o'=s.os:=ho;subst e;exact I.call (g':=h) (t':=f) (d':=g) u a hg d
end
abbrev XK:=dM->Option dP->Hp->Prop
abbrev St:=List (Option V)
abbrev VK:=V->Hp->Prop
abbrev TE:=St->Hp->VK->Prop
abbrev TT:=St->Hp->(Bool->Hp->Prop)->Prop
abbrev TA:=St->Hp->(List V->Hp->Prop)->Prop
structure jt where
 nx:St->Hp->Prop
 rt:VK
 bk:St->Hp->Prop:=λ_ _=>False
 ct:St->Hp->Prop:=λ_ _=>False
abbrev TS:=jt->St->Hp->Prop
def EP(X:Cx)(ag:List (dP×Obj))(σ:St)(Q:VK)(u:dM)(s':dN):Prop:=∃v H',Inv X ag σ H' s'/\eu v u/\Q v H'
def TP(X:Cx)(ag:List (dP×Obj))(σ:St)(Q:Bool->Hp->Prop)(b:Bool)(s':dN):Prop:=∃H',Inv X ag σ H' s'/\Q b H'
def AP(X:Cx)(ag:List (dP×Obj))(σ:St)(Q:List V->Hp->Prop)(us:List dM)(s':dN):Prop:=∃vs H',Inv X ag σ H' s'/\eG vs us/\Q vs H'
def SP(X:Cx)(ag:List (dP×Obj))(D:jt)(f:Flow)(s':dN):Prop:=
 match f with
 | .next=>∃ σ' H',Inv X ag σ' H' s'/\D.nx σ' H'
 | .brk=>∃ σ' H',Inv X ag σ' H' s'/\D.bk σ' H'
 | .cont=>∃ σ' H',Inv X ag σ' H' s'/\D.ct σ' H'
 | .ret u=>∃v σ' H',Inv X ag σ' H' s'/\eu v u/\D.rt v H'
def PE(X:Cx)(e:Expr)(t:TE):Prop:=
 ∀(ag:List (dP×Obj)) (s:dN) (σ:St) (H:Hp) (Q:VK),Inv X ag σ H s->t σ H Q->dX (Mw X.prog X.w) X.A (eval e X.env) (EP X ag σ Q) X.xe s
def PT(X:Cx)(e:Expr)(t:TT):Prop:=
 ∀(ag:List (dP×Obj)) (s:dN) (σ:St) (H:Hp) (Q:Bool->Hp->Prop),Inv X ag σ H s->t σ H Q->dX (Mw X.prog X.w) X.A (isTrue e X.env (eval e X.env)) (TP X ag σ Q) X.xe s
def PW(X:Cx)(e:Expr)(t:TT):Prop:=
 ∀(whole:Sem dM) (ag:List (dP×Obj)) (s:dN) (σ:St) (H:Hp) (Q:Bool->Hp->Prop),Inv X ag σ H s->t σ H Q->dX (Mw X.prog X.w) X.A (isTrue e X.env whole) (TP X ag σ Q) X.xe s
theorem PW.pt{X:Cx}{e:Expr}{t:TT}(h:PW X e t):PT X e t:=h _
def PA(X:Cx)(es:List Expr)(t:TA):Prop:=
 ∀(pos:Pos) (ag:List (dP×Obj)) (s:dN) (σ:St) (H:Hp) (Q:List V->Hp->Prop),Inv X ag σ H s->t σ H Q->dX (Mw X.prog X.w) X.A (spliced (MR pos (dV es X.env))) (AP X ag σ Q) X.xe s
def PS(X:Cx)(st:d3)(t:TS):Prop:=
 ∀(ag:List (dP×Obj)) (s:dN) (σ:St) (H:Hp) (D:jt),Inv X ag σ H s->t D σ H->dX (Mw X.prog X.w) X.A (exec st X.env) (SP X ag D) X.xe s
def u8(X:Cx)(st:List d3)(t:TS):Prop:=
 ∀(ag:List (dP×Obj)) (s:dN) (σ:St) (H:Hp) (D:jt),Inv X ag σ H s->t D σ H->dX (Mw X.prog X.w) X.A (execs st X.env) (SP X ag D) X.xe s
theorem fr{α:Type}{t:Sem α}{Q b:α->dN->Prop}{ao:Model}{A:dR}{E:dM->dN->Prop}{s:dN}(h:dX ao A t Q E s)(c:∀a s,Q a s->b a s):dX ao A t b E s:=MU h c λ_ _ x=>x
section
theorem MK{a b:Expr}{ta tb:TE}(ha:PE X a ta)(hb:PE X b tb){ag:List (dP×Obj)}{s:dN}{σ:St}{H:Hp}{R:V->V->Hp->Prop}(I:Inv X ag σ H s)(h:ta σ H fun x H1=>tb σ H1 fun y H2=>R x y H2){α:Type}{Q:α->dN->Prop}{f:dM->dM->Sem α}(hf:∀v u e x y H2,Inv X ag σ H2 e->eu x v->eu y u->R x y H2->dX (Mw X.prog X.w) X.A (f v u) Q X.xe e):
  dX (Mw X.prog X.w) X.A (eval a X.env) (λv d=>dX (Mw X.prog X.w) X.A (eval b X.env) (λu c=>dX (Mw X.prog X.w) X.A (f v u) Q X.xe c) X.xe d) X.xe s:=by
 refine fr (ha ag s σ H _ I h) λv i ⟨x,H1,j,m,g⟩=>?_;refine fr (hb ag i σ H1 _ j g) λu e ⟨y,H2,k,r2,l⟩=>?_;exact hf v u e x y H2 k m r2 l
noncomputable def H0(i:Nat):TE:=fun σ H Q=>∃v,σ[i]?=Z (Z v)/\Q v H
noncomputable def tC(v:V):TE:=λ_ H Q=>Q v H
theorem Ai {i:Nat}{x:Str}{pos:Pos}(hN:X.N[i]?=Z x)(hv:Vis X.env.scope x)(hd:autoParam ((x == ("__debug__":Str))=J) bu0)(hcd:autoParam ((x == ("__classdict__":Str))=J) bu0):PE X (.Name x pos) (H0 i):=by
 intro ag s σ H Q I h;obtain⟨v,e,h⟩:=h;obtain⟨m,f,g⟩:=I.loc;obtain⟨u,r,l⟩:=g i x v hN e hv;have b:EP X ag σ Q u s:=⟨v,H,I,r,h⟩;rcases l with⟨d,j⟩|⟨d,c,hc,a⟩
 ·exact wpAny_Name (wpAny_loadName_local I.ok.kind d f j b) hd
 ·rcases d with d|d
  ·exact wpAny_Name (wpAny_loadName_cell I.ok.kind d hc a b) hd
  ·exact wpAny_Name (wpAny_loadName_free I.ok.kind d hc a b hcd) hd
theorem Gb{i j pos}:PE X (.Constant (.int i) j pos) (tC (.int i)):=λ_ _ _ H _ I h=>wpAny_Constant_int ⟨.int i,H,I.tok _,⟨_,O⟩,h⟩
theorem IE{b j pos}:PE X (.Constant (.bool b) j pos) (tC (.bl b)):=λ_ _ _ H _ I h=>Constant_bool ⟨.bl b,H,I,O,h⟩
theorem F9{j pos}:PE X (.Constant .none j pos) (tC .non):=λ_ _ _ H _ I h=>Constant_none ⟨.non,H,I,O,h⟩
def Gl(X:Cx)(x:Str):Prop:=X.env.kindOf x=Z .globalImplicit
theorem DD {E:dM->dN->Prop}{ag:List (dP×Obj)}{s:dN}{σ:St}{H:Hp}{x:Str}{u:dM}{pos:Pos}{Q:dM->dN->Prop}(I:Inv X ag σ H s)(hg:Gl X x)(hm:X.mg x=some u)(h:Q u s)
  (hd:autoParam ((x == ("__debug__":Str))=J) bu0):dX (Mw X.prog X.w) X.A (eval (.Name x pos) X.env) Q E s:=
 Calls.Name_function_global I.ok.kind hg (Calls.loadGlobal_global (by rw[I.ok.glob];exact I.mod.glob.keeps I.bk) hm h) hd
theorem jV {E:dM->dN->Prop}{ag:List (dP×Obj)}{s:dN}{σ:St}{H:Hp}{x:Str}{u:dM}{pos:Pos}{Q:dM->dN->Prop}(I:Inv X ag σ H s)(hg:Gl X x)(hm:X.mg x=none)(hv:L5 x=some u)(h:Q u s)
  (hn:autoParam (x≠"__name__") bu0) (hd:autoParam ((x == ("__debug__":Str))=J) bu0):dX (Mw X.prog X.w) X.A (eval (.Name x pos) X.env) Q E s:=by
 obtain⟨a,h1,h2⟩:=I.mod.blt;exact Calls.Name_function_global I.ok.kind hg (Calls.loadGlobal_builtin (by rw[I.ok.glob];exact I.mod.glob.keeps I.bk) hm (by rw[I.ok.blt];exact h1.keeps I.bk) ((h2 x hn).trans hv) h) hd
theorem C7 {x:Str}{v:V}{u:dM}{pos:Pos}(hg:Gl X x)(hm:X.mg x=Y)(hv:L5 x=Z u)(r:eu v u)(hn:autoParam (x≠"__name__") bu0)(hd:autoParam ((x == ("__debug__":Str))=J) bu0):PE X (.Name x pos) (tC v):=
 λ_ _ _ H _ I h=>jV I hg hm hv ⟨v,H,I,r,h⟩ hn hd
variable{a b:Expr}{ta tb:TE}{pos:Pos}
noncomputable def tB(t:TE):TT:=fun σ H Q=>t σ H λx H1=>∃c,x = .bl c/\Q c H1
variable{tA tB':TT}{rest:List Expr}
noncomputable def KB(t u:TT):TT:=fun σ H Q=>t σ H λc H1=>if c=M then u σ H1 Q else Q J H1
noncomputable def LV(t u:TT):TT:=fun σ H Q=>t σ H λc H1=>if c=M then Q M H1 else u σ H1 Q
noncomputable def Kt(t:TT):TT:=fun σ H Q=>t σ H λc H1=>Q (!c) H1
theorem CL(ha:PT X a tA):PW X (.BoolOp .And [a] pos) tA:=by
 intro b ag s σ H Q I h;refine isTrue_and (fr (ha ag s σ H Q I h) λc d e=>?_);cases c with
 |true=>exact isTrue_and_nil e
 |false=>exact e
theorem FJ(ha:PT X a tA):PW X (.BoolOp .Or [a] pos) tA:=by
 intro b ag s σ H Q I h;refine isTrue_or (fr (ha ag s σ H Q I h) λc d e=>?_);cases c with
 |false=>exact isTrue_or_nil e
 |true=>exact e
theorem FK(ha:PT X a tA)(hb:PW X (.BoolOp .And (b::rest) pos) tB'):PW X (.BoolOp .And (a::b::rest) pos) (KB tA tB'):=by
 intro f ag s σ H Q I h;refine isTrue_and (fr (ha ag s σ H _ I h) λc g ⟨H1,e,d⟩=>?_);cases c with
 |true=>exact hb f ag g σ H1 Q e d
 |false=>exact⟨H1,e,d⟩
theorem Iv(ha:PT X a tA)(hb:PW X (.BoolOp .Or (b::rest) pos) tB'):PW X (.BoolOp .Or (a::b::rest) pos) (LV tA tB'):=by
 intro f ag s σ H Q I h;refine isTrue_or (fr (ha ag s σ H _ I h) λc g ⟨H1,e,d⟩=>?_);cases c with
 |true=>exact⟨H1,e,d⟩
 |false=>exact hb f ag g σ H1 Q e d
theorem FM(ha:PT X a tA):PT X (.UnaryOp .Not a pos) (Kt tA):=by
 intro ag s σ H Q I h;exact isTrue_not (ha ag s σ H (λc H1=>Q (!c) H1) I h)
noncomputable def Il(ta tb:TE):TE:=fun σ H Q=>ta σ H λx H1=>∃c,x = .bl c/\if c=M then tb σ H1 Q else Q (.bl J) H1
noncomputable def Ib(ta:TE):TE:=fun σ H Q=>ta σ H λx H1=>∃c,x = .bl c/\Q (.bl (!c)) H1
theorem F7{op}{t:TE}(h:PE X a t):PE X (.BoolOp op [a] pos) t:=λag s σ H Q I b=>BoolOp_one (h ag s σ H Q I b)
theorem Ge(ha:PE X a ta)(hb:PE X (.BoolOp .And (b::rest) pos) tb):PE X (.BoolOp .And (a::b::rest) pos) (Il ta tb):=by
 intro ag s σ H Q I h;refine BoolOp_and (fr (ha ag s σ H _ I h) λv g ⟨x,H1,e,f,d⟩=>?_);obtain⟨c,rfl,d⟩:=d;cases f;refine MV ?_;cases c with
 |true=>exact hb ag g σ H1 Q e d
 |false=>exact⟨.bl J,H1,e,O,d⟩
theorem F8(ha:PE X a ta):PE X (.UnaryOp .Not a pos) (Ib ta):=by
 intro ag s σ H Q I h;refine UnaryOp_ (fr (ha ag s σ H _ I h) λv f ⟨x,H1,e,d,b⟩=>?_);obtain⟨c,rfl,b⟩:=b;cases d;exact not_of (MV ⟨.bl (!c),H1,e,O,b⟩)
noncomputable def LX(t:TT)(ta tb:TE):TE:=fun σ H Q=>t σ H λc H1=>if c=M then ta σ H1 Q else tb σ H1 Q
theorem Ak{c:Expr}(hc:PT X c tA)(ha:PE X a ta)(hb:PE X b tb):PE X (.IfExp c a b pos) (LX tA ta tb):=by
 intro ag s σ H Q I h;refine wpAny_IfExp (fr (hc ag s σ H _ I h) λd f ⟨H1,g,e⟩=>?_);cases d with
 |true=>exact ha ag f σ H1 Q g e
 |false=>exact hb ag f σ H1 Q g e
end
def nG(K:Fg1)(H:Hp)(a:dP)(xs:List V):Prop:=
 Rd H a (.lst xs) \/
  ∃(o:Obj) (its:Array dM) (n:Nat),K.lookup a=Z o/\o.cls = .type "list"/\o.dict=Y/\o.data = .seq its n/\its.size<=dW/\eG xs its.toList
def kF(K:Fg1)(H:Hp)(a:dP)(xs:List V):Prop:=
 Rd H a (.tup xs) \/
  ∃(o:Obj) (its:Array dM) (n:Nat),K.lookup a=Z o/\o.cls = .type "tuple"/\o.data = .seq its n/\its.size<=dW/\eG xs its.toList
noncomputable def La:dM->Option V
 | .none=>Z .non
 | .bool b=>Z (.bl b)
 | .int i _=>Z (.int i)
 | .str x _=>Z (.str x)
 | .bytes b _=>Z (.byt b)
 | .float b _=>Z (.flt b)
 | .ref a=>Z (.ref a)
 | .type n=>Z (.ty n)
 |_=>Y
theorem eu.abs{x:V}{u:dM}(r:eu x u):La u=Z x:=by
 cases x with
 |non=>cases r;rfl
 |bl _=>cases r;rfl
 |int _=>obtain⟨t,rfl⟩:=r;rfl
 |str _=>obtain⟨t,rfl⟩:=r;rfl
 |byt _=>obtain⟨t,rfl⟩:=r;rfl
 |flt _=>obtain⟨t,rfl⟩:=r;rfl
 |ref _=>cases r;rfl
 |ty _=>cases r;rfl
theorem eu.inj{x y:V}{u:dM}(r:eu x u)(q:eu y u):x=y:=Option.some.inj (r.abs.symm.trans q.abs)
theorem eG.inj:∀{xs ys:List V} {a:List dM},eG xs a->eG ys a->xs=ys:=by
 intro xs ys a h g
 induction h generalizing ys with
 |nil=>cases g;rfl
 |cons r t ih=>cases g with
  |cons c b=>rw[r.inj c,ih b]
section
variable{ag:List (dP×Obj)}{σ:St}{H:Hp}{s:dN}{a:dP}{xs ys:List V}
theorem nG.of{K:Fg1}(h:H a=Z (.lst xs)):nG K H a xs:=.inl (.inl h)
theorem kF.of{K:Fg1}(h:H a=Z (.tup xs)):kF K H a xs:=.inl (.inl h)
theorem Inv.list(I:Inv X ag σ H s)(h:nG X.K H a xs):∃b:List dM,eG xs b/\PlainL s.heap a b.toArray/\xs.length<=dW:=by
 rcases h with h|⟨o,b,n,f,hc,c,d,g,r⟩
 ·obtain⟨z,b,n,r,e⟩:=h.ok I.hok;exact⟨b,r,⟨_,n,e,O,O,O⟩,z⟩
 ·refine⟨b.toList,r,⟨o,n,I.kIn a o f,hc,c,by simpa using d⟩,?_⟩;have e:=r.length;simp only[aK]at e;lia
theorem Inv.tuple(I:Inv X ag σ H s)(h:kF X.K H a xs):∃b:List dM,eG xs b/\L3 s.heap a b.toArray/\xs.length<=dW:=by
 rcases h with h|⟨o,b,n,d,hc,c,f,r⟩
 ·obtain⟨z,b,r,p⟩:=h.ok I.hok;exact⟨b,r,p,z⟩
 ·refine⟨b.toList,r,⟨o,I.kIn a o d,hc,n,by simpa using c⟩,?_⟩;have e:=r.length;simp only[aK]at e;lia
theorem Inv.list_inj(I:Inv X ag σ H s)(h:nG X.K H a xs)(h':nG X.K H a ys):xs=ys:=by
 obtain⟨b,r,⟨o,n,e,_,_,d⟩,_⟩:=I.list h;obtain⟨its',g,⟨o',j,f,_,_,c⟩,_⟩:=I.list h';rw[e]at f;cases f;rw[d]at c;injection c with i _;have:b=its':=by simpa using congrArg Array.toList i
 subst this;exact r.inj g
theorem Inv.tuple_inj(I:Inv X ag σ H s)(h:kF X.K H a xs)(h':kF X.K H a ys):xs=ys:=by
 obtain⟨b,r,⟨o,e,_,n,d⟩,_⟩:=I.tuple h;obtain⟨its',g,⟨o',f,_,j,c⟩,_⟩:=I.tuple h';rw[e]at f;cases f;rw[d]at c;injection c with i _;have:b=its':=by simpa using congrArg Array.toList i
 subst this;exact r.inj g
end
abbrev Cx.wish(X:Cx)(E:dM->dN->Prop):Cx:={X with xe:=E}
abbrev Cx.nox(X:Cx):Cx:=X.wish λ_ _=>False
theorem Cx.Ok.wish{X:Cx}(ok:X.Ok)(E:dM->dN->Prop):(X.wish E).Ok:=
 ⟨ok.mod,ok.kind,ok.glob,ok.blt,ok.above,ok.inj,ok.has,ok.cab,ok.hd,ok.frames,ok.stk,ok.exf,ok.bs,ok.bsz,ok.noex,ok.exfs,ok.funs,ok.frf⟩
theorem Cx.Ok.unwish{X:Cx}{E:dM->dN->Prop}(ok:(X.wish E).Ok):X.Ok:=
 ⟨ok.mod,ok.kind,ok.glob,ok.blt,ok.above,ok.inj,ok.has,ok.cab,ok.hd,ok.frames,ok.stk,ok.exf,ok.bs,ok.bsz,ok.noex,ok.exfs,ok.funs,ok.frf⟩
section
variable{ag:List (dP×Obj)}{σ:St}{H:Hp}{s:dN}{E:dM->dN->Prop}
theorem Inv.wish(I:Inv X ag σ H s)(E:dM->dN->Prop):Inv (X.wish E) ag σ H s:=⟨I.ok.wish E,I.os,I.bare,I.base,I.loc,I.cell,I.free,I.freeC,I.pin,I.hok,I.len⟩
theorem Inv.unwish(I:Inv (X.wish E) ag σ H s):Inv X ag σ H s:=⟨I.ok.unwish,I.os,I.bare,I.base,I.loc,I.cell,I.free,I.freeC,I.pin,I.hok,I.len⟩
theorem SP.unwish{D:jt}{f:Flow}{s':dN}(h:SP (X.wish E) ag D f s'):SP X ag D f s':=by
 cases f with
 |next=>obtain⟨a,H',I,q⟩:=h;exact⟨a,H',I.unwish,q⟩
 |brk=>obtain⟨a,H',I,q⟩:=h;exact⟨a,H',I.unwish,q⟩
 |cont=>obtain⟨a,H',I,q⟩:=h;exact⟨a,H',I.unwish,q⟩
 |ret u=>obtain⟨v,a,H',I,r,q⟩:=h;exact⟨v,a,H',I.unwish,r,q⟩
theorem u8.nox{st:List d3}{t:TS}(h:u8 X.nox st t):u8 X st t:=λag s σ H D I a=>
 MU (h ag s σ H D (I.wish _) a) (λ_ _ q=>q.unwish) λ_ _ z=>MX z
end
section
variable{st:d3}{rest:List d3}{t u:TS}{e:Expr}{te:TE}{pos:Pos}
noncomputable def Ic:TS:=λD σ H=>D.nx σ H
noncomputable def Kq(t u:TS):TS:=λD σ H=>t {D with nx:=u D} σ H
theorem CQ:u8 X [] Ic:=λ_ _ σ H _ I h=>MY ⟨σ,H,I,h⟩
theorem zX(h1:PS X st t)(h2:u8 X rest u):u8 X (st::rest) (Kq t u):=by
 intro ag s σ H D I h;refine wpAny_execs_cons (fr (h1 ag s σ H {D with nx:=u D} I h) λf c q=>?_);cases f with
 |next=>
  obtain⟨a,H',b,q⟩:=q;exact h2 ag c a H' D b q
 |ret v=>exact q
 |brk=>exact q
 |cont=>exact q
theorem CP(h1:PS X st t):u8 X [st] t:=by
 intro ag s σ H D I h;refine wpAny_execs_cons (fr (h1 ag s σ H D I h) λf a q=>?_);cases f with
 |next=>exact MY q
 |ret v=>exact q
 |brk=>exact q
 |cont=>exact q
theorem Inv.quiet{ag:List (dP×Obj)}{σ:St}{H:Hp}{s:dN}(I:Inv X ag σ H s):interactive X.env=J:=by simp[interactive,I.ok.kind]
noncomputable def Ih(te:TE):TS:=λD σ H=>te σ H λ_ H1=>D.nx σ H1
theorem CS(he:PE X e te)(hs:autoParam (MZ e Y pos.line X.env=pure J) au0):PS X (.Expr e pos) (Ih te):=by
 intro ag s σ H D I h;exact wpAny_Expr_any (fr (he ag s σ H _ I h) λv d ⟨x,H1,b,c,a⟩=>⟨σ,H1,b,a⟩) I.quiet hs
noncomputable def Kr(te:TE):TS:=λD σ H=>te σ H D.rt
theorem FQ(he:PE X e te):PS X (.Return (Z e) pos) (Kr te):=by
 intro ag s σ H D I h;exact wpAny_Return_some (fr (he ag s σ H _ I h) λv d ⟨x,H1,c,a,b⟩=>⟨x,σ,H1,c,a,b⟩)
noncomputable def Ky(c:TT)(t u:TS):TS:=λD σ H=>c σ H λb H1=>if b=M then t D σ H1 else u D σ H1
theorem Ix{c:Expr}{a b:List d3}{tc:TT}(hc:PT X c tc)(ha:u8 X a t)(hb:u8 X b u):PS X (.If c a b pos) (Ky tc t u):=by
 intro ag s σ H D I h;refine wpAny_If (fr (hc ag s σ H _ I h) λd f ⟨H1,g,e⟩=>?_);cases d with
 |true=>exact ha ag f σ H1 D g e
 |false=>exact hb ag f σ H1 D g e
end
abbrev TG:=V->St->Hp->(St->Hp->Prop)->Prop
abbrev ET:=List V->St->Hp->(St->Hp->Prop)->Prop
def PG(X:Cx)(target:Expr)(t:TG):Prop:=
 ∀(ag:List (dP×Obj)) (s:dN) (σ:St) (H:Hp) (v:V) (u:dM) (Q:St->Hp->Prop),Inv X ag σ H s->eu v u->t v σ H Q ->
  dX (Mw X.prog X.w) X.A (M0 target X.env u) (λ_ s'=>∃ σ' H',Inv X ag σ' H' s'/\Q σ' H') X.xe s
def HJ(X:Cx)(ts:List Expr)(t:ET):Prop:=
 ∀(ag:List (dP×Obj)) (s:dN) (σ:St) (H:Hp) (vs:List V) (us:List dM) (Q:St->Hp->Prop),Inv X ag σ H s->eG vs us->t vs σ H Q ->
  dX (Mw X.prog X.w) X.A (assignInOrder ((M3 ts X.env).map (·.2)) us) (λ_ s'=>∃ σ' H',Inv X ag σ' H' s'/\Q σ' H') X.xe s
abbrev HI:=V->V->V->Hp->(Hp->Prop)->Prop
def wf(X:Cx)(t:HI):Prop:=
 ∀(ag:List (dP×Obj)) (s:dN) (σ:St) (H:Hp) (o i v:V) (ov iv u:dM) (Q:Hp->Prop),Inv X ag σ H s->eu o ov->eu i iv->eu v u->t o i v H Q ->
  dX (Mw X.prog X.w) X.A (setItem ov iv u) (λ_ s'=>∃H',Inv X ag σ H' s'/\Q H') X.xe s
abbrev Lf:=V->V->Hp->VK->Prop
def Kj(X:Cx)(op:M4)(t:Lf):Prop:=
 ∀(ag:List (dP×Obj)) (s:dN) (σ:St) (H:Hp) (x y:V) (v u:dM) (Q:VK),Inv X ag σ H s->eu x v->eu y u->t x y H Q ->
  dX (Mw X.prog X.w) X.A (inplaceOp op v u) (EP X ag σ Q) X.xe s
section
variable{pos:Pos}
noncomputable def xf(i:Nat):TG:=λv σ H Q=>Q (σ.set i (Z v)) H
theorem wG{i:Nat}{x:Str}(hN:X.N.Nodup)(hi:X.N[i]?=Z x)(hx:uX X.env.scope x)(hf:autoParam (X.fn x=M\/X.env.scope.names.lookup x=Z .local) au0):PG X (.Name x pos) (xf i):=by
 intro ag s σ H v u Q I r h;exact wpAny_assign_Name (jz I hN hi hx r (λs' a=>⟨_,H,a,h⟩) hf)
noncomputable def KZ:ET:=λvs σ H Q=>vs=[]/\Q σ H
noncomputable def Jr(t:TG)(u:ET):ET:=λvs σ H Q=>∃v r,vs=v::r/\t v σ H fun σ' H'=>u r σ' H' Q
theorem C2:HJ X [] KZ:=by
 intro ag s σ H vs a Q I r h;obtain⟨e,h⟩:=h;subst e;cases r;exact assignInOrder_nil ⟨σ,H,I,h⟩
theorem Ah{e:Expr}{es:List Expr}{t:TG}{u:ET}(h1:PG X e t)(h2:HJ X es u)(hs:autoParam ((M3 (e::es) X.env).map (·.2)=M0 e X.env::(M3 es X.env).map (·.2)) au0):HJ X (e::es) (Jr t u):=by
 intro ag s σ H vs i Q I r h;obtain⟨v,j,f,h⟩:=h;subst f;cases r with
 |cons r g=>
  rw[hs];refine assignInOrder_cons (fr (h1 ag s σ H _ _ _ I r h) λ_ c ⟨a,H1,d,b⟩=>?_);exact h2 ag c a H1 _ _ Q d g b
noncomputable def gTup(K:Fg1)(n:Nat)(t:ET):TG:=λv σ H Q=>∃a xs,v = .ref a/\kF K H a xs/\xs.length=n/\t xs σ H Q
theorem F4{es:List Expr}{k:Nat}{t:ET}{n:Nat}(hc:X.calm=M)(h:HJ X es t)(hn:autoParam ((M3 es X.env).length=n) au0)(hst:autoParam ((M3 es X.env).findIdx? (·.1)=Y) au0):PG X (.Tuple es k pos) (gTup X.K n t):=by
 intro ag s σ H v u Q I r c;obtain⟨a,xs,p,g,l,c⟩:=c;subst p;cases r;obtain⟨f,d,j,q⟩:=I.tuple g;refine assign_Tuple_tuple (I.ok.hd hc) j (by simp[hn,<- l,d.length]) hst λh' m=>?_;have i:Inv X ag σ H {s with heap:=h'}:=I.kept (t':=s.toks) λb o e=>m b o (nN1 (hL1 e)) e;exact h ag _ σ H xs _ Q i (by simpa using d) c
noncomputable def gSub(to ti:TE)(t:HI):TG:=λv σ H Q=>to σ H λo H1=>ti σ H1 λi H2=>t o i v H2 λH3=>Q σ H3
theorem F5{o i:Expr}{to c:TE}{t:HI}(ho:PE X o to)(hi:PE X i c)(hs:wf X t)(ha:autoParam (∀v,M0 (.Subscript o i pos) X.env v=(do
   let a<-M5 [v] (eval o X.env)
   let b<-M5 [v,a] (eval i X.env)
   M6 pos
   M5 [v,a,b] (setItem a b v)
   release [v,a,b] [])) du0):PG X (.Subscript o i pos) (gSub to c t):=by
 intro ag s σ H v u Q I r h;rw[ha];refine wB1 (M7 (fr (ho ag s σ H _ I h) λa e ⟨x,H1,f,n,d⟩=>?_));refine wB1 (M7 (fr (hi ag e σ H1 _ f d) λb l ⟨y,H2,g,r2,m⟩=>?_));refine wB1 (M8 (wB1 (M7 (fr (hs ag l σ H2 x y v a b u _ g n r2 r m) λ_ q ⟨k,j,p⟩=>?_))));exact wpAny_release ⟨σ,k,j,p⟩
noncomputable def zB(te:TE)(g:TG):TS:=λD σ H=>te σ H λx H1=>g x σ H1 D.nx
theorem FY{tg e:Expr}{te:TE}{g:TG}(he:PE X e te)(hg:PG X tg g)(hs:autoParam (M9 [tg] e pos.line X.env=pure J) au0)(hw:autoParam (Na [tg] e X.env=pure Y) au0)(h1:autoParam ((M3 [tg] X.env).map (·.2)=[M0 tg X.env]) au0):PS X (.Assign [tg] e pos) (zB te g):=by
 intro ag s σ H D I h;refine wpAny_Assign_stores (fr (he ag s σ H _ I h) λv b ⟨x,H1,c,d,a⟩=>?_) hs hw;rw[h1];exact fr (hg ag b σ H1 x v _ c d a) λ_ f q=>q
theorem FP{i:Nat}{x:Str}{e:Expr}{te:TE}{pos':Pos}(hN:X.N.Nodup)(hi:X.N[i]? = some x)(hx:uX X.env.scope x)(he:PE X e te)(hs:autoParam (MZ e (some (.Name x pos')) pos.line X.env=pure false) au0)(hf:autoParam (X.fn x=true\/X.env.scope.names.lookup x=some .local) au0):
  PS X (.Assign [.Name x pos'] e pos) (zB te (xf i)):=by
 intro ag s σ H D I h;refine wpAny_Assign_Name (fr (he ag s σ H _ I h) λv f ⟨y,H1,b,d,a⟩=>?_) hs;exact jz b hN hi hx d (λg c=>⟨_,H1,c,a⟩) hf
noncomputable def Ks(i j:Nat)(ta:TA):TS:=λD σ H=>ta σ H λvs H1=>∃v w,vs=[v,w]/\D.nx ((σ.set i (Z v)).set j (Z w)) H1
theorem FR{i j:Nat}{x y:Str}{a b:Expr}{ta:TA}{l n pt:Pos}{kt k2 pt2}(hc:X.calm=true)(hN:X.N.Nodup)(hi:X.N[i]? = some x)(B:X.N[j]? = some y)(g:i≠j)(hx:X.env.scope.names.lookup x=some .local)(hy:X.env.scope.names.lookup y=some .local)(ha:PA X [a,b] ta)(hw:Na [.Tuple [.Name x l,.Name y n] kt pt] (.Tuple [a,b] k2 pt2) X.env=pure (some [x,y]))(hs:autoParam (M9 [.Tuple [.Name x l,.Name y n] kt pt] (.Tuple [a,b] k2 pt2) pos.line X.env=pure false) au0):
  PS X (.Assign [.Tuple [.Name x l,.Name y n] kt pt] (.Tuple [a,b] k2 pt2) pos) (Ks i j ta):=by
 intro ag s σ H D I h;rw[exec_Assign_arm];refine wB1 (M8 ?_);rw[hs];refine wB1 (wP1 ?_);rw[aj (by decide)];refine wB1 (Tuple_ (fr (ha _ ag s σ H _ I h) λC c ⟨vs,H1,am,A,m⟩=>?_));obtain⟨v,w,F,m⟩:=m;subst F;obtain⟨d,u2,rfl,G,k⟩:∃d u2,C=[d,u2]/\eu v d/\eu w u2:=by
  cases A with
  |cons p q=>
   cases q with
   |cons t u=>
    cases u;exact⟨_,_,O,p,t⟩
 refine wO1 ?_ (by show 2<=dW;decide);have K:Inv X ag σ H1 {c with heap:=c.heap.push {cls:=.type "tuple",data:=.seq [d,u2].toArray}}:=am.kept (t':=c.toks) λb o e=>hP1 _ e;rw[hw];refine wB1 (wP1 ?_);show dX (Mw X.prog X.w) X.A (do rule "assign.swapped-stores";let items<-unpackItems (.ref c.heap.objs.size) 2 Y;assignInOrder [λv=>bindName X.env y v,λv=>bindName X.env x v] items.reverse;pure Flow.next) _ _ _;refine wB1 (Nb (wB1 (unpackItems_tuple (items:= #[d,u2]) (I.ok.hd hc) (IsTup.new c.heap _) λh' f=>?_)));have E:=K.kept (h':=h') (t':=c.toks) λb o e=>f b o (nN1 (hL1 e)) e;show dX _ _ (assignInOrder [λv=>bindName X.env y v,λv=>bindName X.env x v] [u2,d] >>= λ_=>pure Flow.next) _ _ _;refine wB1 (assignInOrder_cons (wpAny_bindName (jz E hN B (.inl hy) k (λL z=>?_) (.inr hy))));refine assignInOrder_cons (wpAny_bindName (jz z hN hi (.inl hx) G (λao r=>assignInOrder_nil (wP1 ?_)) (.inr hx)));rw[List.set_comm _ _ (Mt g)]at r;exact⟨_,H1,r,m⟩
noncomputable def KA(i:Nat)(te:TE)(ti:Lf):TS:=λD σ H=>∃x,σ[i]?=Z (Z x)/\te σ H λy H1=>ti x y H1 λz H2=>D.nx (σ.set i (Z z)) H2
theorem FX{i:Nat}{x:Str}{e:Expr}{te:TE}{op:M4}{j:Lf}{pos':Pos}(hN:X.N.Nodup)(hi:X.N[i]? = some x)(hx:uX X.env.scope x)(he:PE X e te)(ho:Kj X op j)(hf:autoParam (X.fn x=true\/X.env.scope.names.lookup x=some .local) au0):
  PS X (.AugAssign (.Name x pos') op e pos) (KA i te j):=by
 intro ag s σ H D I h;obtain⟨v,A,h⟩:=h;obtain⟨m,o,am⟩:=I.loc;have g:Vis X.env.scope x:=by rcases hx with k|k;exact .inl k;exact .inr (.inl k)
 obtain⟨u,r,l⟩:=am i x v hi A g;refine wpAny_AugAssign_Name ?_;have n:dX (Mw X.prog X.w) X.A (eval e X.env) (λw d=>dX (Mw X.prog X.w) X.A (inplaceOp op u w) (λr f=>dX (Mw X.prog X.w) X.A (storeName X.env x r) (λ_=>SP X ag D .next) X.xe f) X.xe d) X.xe s:=by
  refine fr (he ag s σ H _ I h) λw C ⟨y,H1,E,p,B⟩=>?_;refine fr (ho ag C σ H1 v y u w _ E r p B) λz L ⟨K,H2,F,r2,G⟩=>?_;exact jz F hN hi hx r2 (λao t=>⟨_,H2,t,G⟩) hf
 rcases l with⟨a,q⟩|⟨a,c,hc,b⟩
 ·exact wpAny_loadName_local I.ok.kind a o q n
 ·rcases a with a|a
  ·exact wpAny_loadName_cell I.ok.kind a hc b n
  ·rcases hx with k|k
   ·have:X.env.scope.names.lookup x=Z .free:=a;rw[k]at this;cases this
   ·have:X.env.scope.names.lookup x=Z .free:=a;rw[k]at this;cases this
noncomputable def zw(c:TT)(tb:TS):TS:=λD σ H=>∃W:Nat->St->Hp->Prop,(∃m,W m σ H) /\ ∀m σ H,W m σ H ->
 c σ H λb H1=>if b=M then∃N:St->Hp->Prop,(∀ σ' H',N σ' H' -> ∃m',m'<m/\W m' σ' H')/\tb {D with nx:=N,ct:=N,bk:=D.nx} σ H1 else D.nx σ H1
theorem zY{c:Expr}{e:List d3}{tc:TT}{tb:TS}(hp:Nc (Mw X.prog X.w) X.A X.env X.xe)(hc:PT X c tc)(hb:u8 X e tb):PS X (.While c e [] pos) (zw tc tb):=by
 intro ag s σ H D I h;obtain⟨W,⟨z,w⟩,j⟩:=h;refine wpAny_While (codeAny_whileLoop (λn s'=>∃i H',Inv X ag i H' s'/\W n i H') ?_ z ⟨σ,H,I,w⟩);rintro n A ⟨d,H1,B,y⟩;refine Nd hp (fr (hc ag A d H1 _ B (j n d H1 y)) λb x ⟨H2,u,l⟩=>?_);cases b with
 |true=>
  obtain⟨N,t,l⟩:=l;rw[ak O];refine Nd hp (fr (hb ag x d H2 _ u l) λf C k=>?_);cases f with
  |next=>
   obtain⟨a,g,q,m⟩:=k;obtain⟨r,p,o⟩:=t a g m;exact⟨r,p,a,g,q,o⟩
  |cont=>
   obtain⟨a,g,q,m⟩:=k;obtain⟨r,p,o⟩:=t a g m;exact⟨r,p,a,g,q,o⟩
  |brk=>exact k
  |ret v=>exact k
 |false=>
  rw[aj aL];exact MY ⟨d,H2,u,l⟩
end
structure It where
 go:Nat->Hp->Prop
 yld:Nat->Hp->V->Hp->Prop
 stop:Nat->Hp->Prop
def kG(X:Cx)(ag:List (dP×Obj))(H:Hp)(b:dP):Prop:=
 H b=Y/\b≠X.env.locals/\b∉X.fs/\(b∈X.ex\/X.s₀.heap.objs.size<=b)/\(∀x c,X.env.cells.lookup x=Z c->c≠b) /\ ∀p∈X.pn++ag,p.1≠b
theorem Inv.fpOk{X:Cx}{ag:List (dP×Obj)}{σ:St}{H H':Hp}{s:dN}{b:dP}(I:Inv X ag σ H s)(hb:s.heap.objs.size<=b)(hn:H' b=Y):kG X ag H' b:=by
 refine⟨hn,nG1 (nL1 I.lt hb),I.nofs hb,.inr (aC I.sz hb),λx c e z=>?_,λp a z=>?_⟩
 ·obtain⟨v,q⟩:=I.cell x c e;exact absurd (nL1 q.lt (by rw[z];exact hb)) (az _)
 ·exact absurd (nL1 (hL1 (I.pin p a).1) (by rw[z];exact hb)) (az _)
structure wd (P:dQ)(w:dS)(K:Fg1)(tg:Expr)(am:It)(fp:List dP)(it:dP)(tn:Nat->dZ->Prop):Prop where
 mem:it∈fp
 obj:∀i h,tn i h -> ∀b∈fp,∃o,h.get? b=some o /\ ∀v,o.data ≠ .cell v
 keep:∀i h h',tn i h->(∀b∈fp,∀o,h.get? b=some o->h'.get? b=some o)->tn i h'
 item:∀(X:Cx),X.prog=P->X.w=w->X.K=K->X.calm=true -> ∀(i:Nat) (ag:List (dP×Obj)) (s:dN) (σ:St) (H:Hp) (E:dM->dN->Prop),Inv X ag σ H s->(∀b∈fp,kG X ag H b)->tn i s.heap->am.go i H ->
  dX (Mw P w) X.A (Nf (.ref it)) (λr s1=>∃u,r=some u /\
   dX (Mw P w) X.A (Ng tg (.ref it) u) (λ_ s2=>∃x H',Inv X ag σ H' s2/\eu x u/\am.yld i H x H'/\tn (i+1) s2.heap /\ ∀b∈fp,H' b=none) E s1) E s
 done:∀(X:Cx),X.prog=P->X.w=w->X.K=K->X.calm=true -> ∀(i:Nat) (ag:List (dP×Obj)) (s:dN) (σ:St) (H:Hp) (E:dM->dN->Prop),Inv X ag σ H s->(∀b∈fp,kG X ag H b)->tn i s.heap->am.stop i H ->
  dX (Mw P w) X.A (Nf (.ref it)) (λr s1=>r=none/\Inv X ag σ H s1) E s
 self:∀(A:dR) (i:Nat) (s:dN) (Q:dM->dN->Prop) (E:dM->dN->Prop),tn i s.heap->Q (.ref it) s->dX (Mw P w) A (Nh (.ref it)) Q E s
abbrev TI:=St->Hp->(It->Hp->Prop)->Prop
def LG(X:Cx)(ag:List (dP×Obj))(σ:St)(tg:Expr)(R:It->Hp->Prop)(itv:dM)(s2:dN):Prop:=
 ∃(it:dP) (fp:List dP) (tn:Nat->dZ->Prop) (am:It) (H':Hp),itv = .ref it/\Inv X ag σ H' s2/\wd X.prog X.w X.K tg am fp it tn/\tn 0 s2.heap/\(∀b∈fp,kG X ag H' b)/\R am H'
def PI(X:Cx)(tg iter:Expr)(wi:TI):Prop:=
 ∀(ag:List (dP×Obj)) (s:dN) (σ:St) (H:Hp) (R:It->Hp->Prop),Inv X ag σ H s->wi σ H R ->
  dX (Mw X.prog X.w) X.A (eval iter X.env) (λv s1=>dX (Mw X.prog X.w) X.A (Nh v) (LG X ag σ tg R) X.xe s1) X.xe s
theorem Bq {ao:Model}{A:dR}{E:dM->dN->Prop}{s:dN}{tg:Expr}{it:dP}{u:dM}{o:Obj}{n:String}{vs:Array dM}{Q:Unit->dN->Prop}(ho:s.heap.get? it=some o)(hc:o.cls = .type n)(hd:o.data = .fields vs)
   (hn:["enumerate","zip","dict_itemiterator","dict_reverseitemiterator","odict_iterator","itertools.zip_longest","itertools.pairwise"].contains n=J) (a:Q () s):dX ao A (Ng tg (.ref it) u) Q E s:=by
 unfold Ng;cases tg <;> first
   |exact wP1 a
   | (cases u<;>first
       |exact wP1 a
       | (refine wB1 (wpAny_load ho ?_)
          rw[hc,hd];show dX ao A (if(["enumerate","zip","dict_itemiterator","dict_reverseitemiterator","odict_iterator","itertools.zip_longest","itertools.pairwise"].contains n&&vs[0]? == Z (Ni _))=M then _ else _) Q E s;rw[aj (by intro h;rw[hn,Bool.false_and]at h;cases h)];exact wP1 a))
noncomputable def LO(K:Fg1)(a:dP):It:=
 ⟨λi H=>∃xs x,nG K H a xs/\xs[i]?=Z x,λi H x H'=>H'=H /\ ∀xs,nG K H a xs->xs[i]?=Z x,λi H=>∃xs,nG K H a xs/\xs.length<=i⟩
noncomputable def LN(K:Fg1)(a:dP):It:=
 ⟨λi H=>∃xs x,kF K H a xs/\xs[i]?=Z x,λi H x H'=>H'=H /\ ∀xs,kF K H a xs->xs[i]?=Z x,λi H=>∃xs,kF K H a xs/\xs.length<=i⟩
noncomputable def JT(lo:Int)(n:Nat):It:=⟨λi _=>i<n,λi H x H'=>H'=H/\x = .int (lo+i),λi _=>n<=i⟩
theorem xT{P:dQ}{w:dS}{K:Fg1}{tg:Expr}(a it:dP):wd P w K tg (LO K a) [it] it (λi h=>h.IsListIter it a i) where
 mem:=by simp
 obj:=λi h st b f=>by
  have e:b=it:=by simpa using f
  subst e;obtain⟨o,e,c,d⟩:=st;exact⟨o,e,λv z=>by rw[d]at z;cases z⟩
 keep:=λi h h' st k=>st.at λo e=>k it (by simp) o e
 item:=by
  intro X B y m hc i ag s σ H E I g st r;subst B y m;obtain⟨xs,x,j,F⟩:=r;obtain⟨A,t,p,au⟩:=I.list j;obtain⟨u,L,Q⟩:=t.get F;obtain⟨n,C,N,l,D,q⟩:=g it (by simp);refine wpAny_pyNext_list_item st p.isList (x:=u) (by simpa using L) λh' st' G=>?_;have ao:Inv X ag σ H {s with heap:=h'}:=I.turned (t':=s.toks) (λb o f e=>(G.2 b f).trans e) n C l D q;obtain⟨o,e,c,d⟩:=id st';exact⟨u,O,Bq (s:={s with heap:=h'}) e c d (by decide) ⟨x,H,ao,Q,⟨O,λys am=>by rw[I.list_inj am j];exact F⟩,st',λb f=>(g b f).1⟩⟩
 done:=by
  intro X B y m hc i ag s σ H E I g st r;subst B y m;obtain⟨xs,j,F⟩:=r;obtain⟨A,t,p,au⟩:=I.list j;obtain⟨n,C,N,l,D,q⟩:=g it (by simp);have S:=t.length;exact wpAny_pyNext_list_end (I.ok.hd hc) st p.isList (by simp;lia) λh' R=>⟨O,I.turned (t':=s.toks) (λb o f e=>R b o f e) n C l D q⟩
 self:=λ_ _ _ _ _ st h=>wpAny_pyIter_listiter st h
theorem vg{P:dQ}{w:dS}{K:Fg1}{tg:Expr}(a it:dP):wd P w K tg (LN K a) [it] it (λi h=>h.IsTupleIter it a i) where
 mem:=by simp
 obj:=λi h st b f=>by
  have e:b=it:=by simpa using f
  subst e;obtain⟨o,e,c,d⟩:=st;exact⟨o,e,λv z=>by rw[d]at z;cases z⟩
 keep:=λi h h' st k=>st.at λo e=>k it (by simp) o e
 item:=by
  intro X B A n hc i ag s σ H E I j st t;subst B A n;obtain⟨xs,x,l,F⟩:=t;obtain⟨g,y,p,au⟩:=I.tuple l;obtain⟨u,L,Q⟩:=y.get F;obtain⟨q,C,N,m,D,r⟩:=j it (by simp);refine wpAny_pyNext_tuple_item st (show s.heap.IsTuple a g.toArray from p) (x:=u) (by simpa using L) λh' st' G=>?_;have ao:Inv X ag σ H {s with heap:=h'}:=I.turned (t':=s.toks) (λb o f e=>(G.2 b f).trans e) q C m D r;obtain⟨o,e,c,d⟩:=id st';exact⟨u,O,Bq (s:={s with heap:=h'}) e c d (by decide) ⟨x,H,ao,Q,⟨O,λys am=>by rw[I.tuple_inj am l];exact F⟩,st',λb f=>(j b f).1⟩⟩
 done:=by
  intro X B A n hc i ag s σ H E I j st t;subst B A n;obtain⟨xs,l,F⟩:=t;obtain⟨g,y,p,au⟩:=I.tuple l;obtain⟨q,C,N,m,D,r⟩:=j it (by simp);have S:=y.length;exact wpAny_pyNext_tuple_end (I.ok.hd hc) st (show s.heap.IsTuple a g.toArray from p) (by simp;lia) λh' R=>⟨O,I.turned (t':=s.toks) (λb o f e=>R b o f e) q C m D r⟩
 self:=λ_ _ _ _ _ st h=>wpAny_pyIter_tupleiter st h
theorem vh{P:dQ}{w:dS}{K:Fg1}{tg:Expr}(it:dP)(lo:Int)(n:Nat):wd P w K tg (JT lo n) [it] it (λi h=>IsRangeIter h it (lo+(i:Nat)*1) ((n:Int)-(i:Nat)) 1) where
 mem:=by simp
 obj:=λi h st b a=>by
  have e:b=it:=by simpa using a
  subst e;exact⟨_,st,λv z=>by
   have B:Data.fields _=Data.cell v:=z;cases B⟩
 keep:=λi h h' st k=>k it (by simp) _ st
 item:=by
  intro X j r g hc i ag s σ H E I c st p;subst j r g;obtain⟨l,m,A,d,q,f⟩:=c it (by simp);have W:=Walks.range (prog:=X.prog) (w:=X.w) (I.ok.hd hc) it lo 1 n;refine W.item i s _ _ p st λv h' tk y st' u=>?_;obtain⟨t,rfl⟩:=y;have x:Inv X ag σ H {s with heap:=h',toks:=tk}:=I.turned (λb o a e=>u b o (by simpa using a) e) l m d q f;refine⟨_,O,Bq (s:={s with heap:=h',toks:=tk}) (n:="range_iterator") st' O O (by decide) ⟨.int (lo+i),H,x,⟨t,?_⟩,⟨O,O⟩,st',λb a=>(c b a).1⟩⟩;rw[Int.mul_one]
 done:=by
  intro X j r g hc i ag s σ H E I c st p;subst j r g;obtain⟨l,m,A,d,q,f⟩:=c it (by simp);exact wpAny_pyNext_range_end (I.ok.hd hc) st (by have:n<=i:=p;lia) λh' C=>⟨O,I.turned (t':=s.toks) (λb o a e=>C b o a e) l m d q f⟩
 self:=λ_ _ _ _ _ st h=>wpAny_pyIter_rangeiter st h
section
variable{tg:Expr}
def Jj(K:Fg1)(tl:TE):TI:=fun σ H R=>tl σ H λx H1=>∃a,x = .ref a/\(∃xs,nG K H1 a xs)/\R (LO K a) H1
def KY(K:Fg1)(tl:TE):TI:=fun σ H R=>tl σ H λx H1=>∃a,x = .ref a/\(∃xs,kF K H1 a xs)/\R (LN K a) H1
theorem C0{l:Expr}{tl:TE}(k:PE X l tl):PI X tg l (Jj X.K tl):=by
 intro ag s σ H R I h;refine fr (k ag s σ H _ I h) λv c ⟨x,H1,d,m,i⟩=>?_;obtain⟨a,e,⟨xs,g⟩,q⟩:=i;subst e;cases m;obtain⟨f,r,p,n⟩:=d.list g;refine wpAny_pyIter_list p.isList ?_;refine⟨c.heap.objs.size,[c.heap.objs.size],_,_,H1,O,d.kept (t':=c.toks) λb o e=>hP1 _ e,xT a _,⟨_,hS1 _ O,O,O⟩,λb j=>?_,q⟩;have e:b=c.heap.objs.size:=by simpa using j
 subst e;exact d.fpOk (nR1 _) (d.hok.fresh (nR1 _))
theorem F3{l:Expr}{tl:TE}(k:PE X l tl):PI X tg l (KY X.K tl):=by
 intro ag s σ H R I h;refine fr (k ag s σ H _ I h) λv c ⟨x,H1,d,m,i⟩=>?_;obtain⟨a,e,⟨xs,g⟩,q⟩:=i;subst e;cases m;obtain⟨f,r,p,n⟩:=d.tuple g;refine wpAny_pyIter_tuple (show c.heap.IsTuple a f.toArray from p) ?_;refine⟨c.heap.objs.size,[c.heap.objs.size],_,_,H1,O,d.kept (t':=c.toks) λb o e=>hP1 _ e,vg a _,⟨_,hS1 _ O,O,O⟩,λb j=>?_,q⟩;have e:b=c.heap.objs.size:=by simpa using j
 subst e;exact d.fpOk (nR1 _) (d.hok.fresh (nR1 _))
theorem tH{ag:List (dP×Obj)}{σ:St}{H:Hp}{s:dN}{R:It->Hp->Prop}{E:dM->dN->Prop}{lo hi:Int}{t u v:Tok}{tk:Nat}(I:Inv X ag σ H s)(h1: -(2^62)<=lo)(h2:lo<2^62)(g: -(2^62)<=hi)(c:hi<2^62)(q:R (JT lo (hi-lo).toNat) H):dX (Mw X.prog X.w) X.A (Nh (.ref s.heap.objs.size)) (LG X ag σ tg R) E {s with heap:=s.heap.push {cls:=.type "range",data:=.fields #[.int lo t,.int hi u,.int 1 v]},toks:=tk}:=by
 refine wpAny_pyIter_range (IsRange.new ..) (small_one h1 h2 g c) ?_;have a:Inv X ag σ H {s with heap:=s.heap.push {cls:=.type "range",data:=.fields #[.int lo t,.int hi u,.int 1 v]},toks:=tk}:=I.kept λb o e=>hP1 _ e;refine⟨(s.heap.push {cls:=.type "range",data:=.fields #[.int lo t,.int hi u,.int 1 v]}).objs.size,[(s.heap.push {cls:=.type "range",data:=.fields #[.int lo t,.int hi u,.int 1 v]}).objs.size],_,_,H,O,
  a.kept (t':=tk) λb o e=>hP1 _ e,vh _ lo (hi-lo).toNat,?_,λb d=>?_,q⟩
 ·have h:lo+((0:Nat):Int)*1=lo:=by simp
  have f:(((hi-lo).toNat:Nat):Int)-((0:Nat):Int)=Nj lo hi 1:=by rw[rangeSize_one];split<;>lia
  show IsRangeIter _ _ (lo+((0:Nat):Int)*1) ((((hi-lo).toNat:Nat):Int)-((0:Nat):Int)) 1;rw[h,f];exact hS1 _ O
 ·have e:b=(s.heap.push {cls:=.type "range",data:=.fields #[.int lo t,.int hi u,.int 1 v]}).objs.size:=by simpa using d
  subst e;exact a.fpOk (nR1 _) (a.hok.fresh (nR1 _))
def Ji(ta:TA):TI:=fun σ H R=>ta σ H λvs H1=>∃j:Int,vs=[.int j] /\ -(2^62)<=j/\j<2^62/\R (JT 0 j.toNat) H1
def Jh(ta:TA):TI:=fun σ H R=>ta σ H λvs H1=>∃i j:Int,vs=[.int i,.int j]/\(-(2^62)<=i/\i<2^62 /\ -(2^62)<=j/\j<2^62)/\R (JT i (j-i).toNat) H1
theorem yc {a:Expr}{ta:TA}{p pos:Pos}(hg:Gl X "range")(hm:X.mg "range"=Y)(ha:PA X [a] ta)(hs:autoParam (dV [a] X.env=[(J,eval a X.env)]) au0):PI X tg (.Call (.Name "range" p) [a] [] pos) (Ji ta):=by
 intro ag s σ H R I h;refine Call_ (jV I hg hm boot_range (Nk (fr (ha pos ag s σ H _ I h) λk i ⟨vs,H1,c,f,b⟩=>?_) hs O));obtain⟨j,e,b,d,q⟩:=b;subst e;cases f with
 |cons r g=>
  cases g;obtain⟨t,rfl⟩:=r;exact call_range_1 (tH c (by lia) (by lia) b d (by simpa using q))
theorem yb {a b:Expr}{ta:TA}{p pos:Pos}(hg:Gl X "range")(hm:X.mg "range"=none)(ha:PA X [a,b] ta)(hs:autoParam (dV [a,b] X.env=[(false,eval a X.env),(false,eval b X.env)]) au0)(hs2:autoParam (dV [b] X.env=[(false,eval b X.env)]) au0):
  PI X tg (.Call (.Name "range" p) [a,b] [] pos) (Jh ta):=by
 intro ag s σ H R I h;refine Call_ (jV I hg hm boot_range (Nk (fr (ha pos ag s σ H _ I h) λv o ⟨vs,H1,g,m,c⟩=>?_) (by rw[hs,hs2]) (by rw[hs2];rfl)));obtain⟨i,j,e,⟨c,l,n,k⟩,q⟩:=c;subst e;cases m with
 |cons r d=>
  cases d with
  |cons f d=>
   cases d;obtain⟨t,rfl⟩:=r;obtain⟨u,rfl⟩:=f;exact call_range_2 (tH g c l n k q)
noncomputable def Ig(wi:TI)(g:TG)(tb:TS):TS:=λD σ H=>wi σ H λam H1=>∃W:Nat->Nat->St->Hp->Prop,(∃m,W 0 m σ H1) /\ ∀i m σ H,W i m σ H ->
 (am.stop i H/\D.nx σ H)\/(am.go i H /\ ∃N:St->Hp->Prop,(∀ σ' H',N σ' H' -> ∃m',m'<m/\W (i+1) m' σ' H') /\ ∀x H',am.yld i H x H'->g x σ H' fun σ2 H2=>tb {D with nx:=N,ct:=N,bk:=D.nx} σ2 H2)
noncomputable def ot(fp:List dP)(h:dZ):List (dP×Obj):=fp.filterMap λb=>(h.get? b).map λo=>(b,o)
theorem jf{fp:List dP}{h:dZ}{b:dP}{o:Obj}(hb:b∈fp)(e:h.get? b=Z o):(b,o)∈ot fp h:=aM.mpr ⟨b,hb,by rw[e];rfl⟩
theorem ye{fp:List dP}{h:dZ}{p:dP×Obj}(hp:p∈ot fp h):p.1∈fp/\h.get? p.1=Z p.2:=by
 obtain⟨b,a,e⟩:=aM.mp hp;cases q:h.get? b with
 |none=>rw[q]at e;cases e
 |some o=>
  rw[q]at e;have c:(b,o)=p:=Option.some.inj e;subst c;exact⟨a,q⟩
theorem Inv.pinned{ag:List (dP×Obj)}{σ:St}{H:Hp}{s:dN}{fp:List dP}(I:Inv X ag σ H s)(hf:∀b∈fp,kG X ag H b)(ho:∀b∈fp,∃o,s.heap.get? b=Z o /\ ∀v,o.data ≠ .cell v):Inv X (ag++ot fp s.heap) σ H s:=
 I.pins_of λp i=>(aG.mp i).elim (λz=>I.pin p (mA1 _ z)) λz=>by
  obtain⟨a,e⟩:=ye z;obtain⟨f,g,h,_⟩:=hf p.1 a;obtain⟨o,c,d⟩:=ho p.1 a;rw[e]at c;cases c;exact⟨e,f,g,h,d⟩
theorem Inv.unpinned{ag pl:List (dP×Obj)}{σ:St}{H:Hp}{s:dN}(I:Inv X (ag++pl) σ H s):Inv X ag σ H s:=I.pins_of λp a=>I.pin p (mA1 _ (aH _ a))
theorem FW{iter:Expr}{q:List d3}{V:TI}{g:TG}{tb:TS}{pos:Pos}(hp:Nc (Mw X.prog X.w) X.A X.env X.xe)(hc:X.calm=M)(hi:PI X tg iter V)(hg:PG X tg g)(hb:u8 X q tb)(hs:autoParam (∀x,Nl iter X.env x=pure x) du0):PS X (.For tg iter q [] pos) (Ig V g tb):=by
 intro ag s σ H D I h;refine wpAny_For (fr (hi ag s σ H _ I h) λv s1 h1=>fr h1 λitv s2 h2=>?_) hs;obtain⟨it,fp,tn,am,H2,e,I2,T,au,U,W,⟨m0,w0⟩,C⟩:=h2;subst e
 -- what stays M of the iterator's objects through the loop
 have c:∀{H':Hp},(∀b∈fp,H' b=Y) -> ∀b∈fp,kG X ag H' b:=λhn b hb=>⟨hn b hb,(U b hb).2⟩;refine codeAny_forLoop_any (λn s'=>∃i l H',Inv X ag l H' s'/\tn i s'.heap/\(∀b∈fp,H' b=Y)/\W i n l H') ?_ m0 ⟨0,σ,H2,I2,au,λb hb=>(U b hb).1,w0⟩;rintro n P ⟨i,p,E,R,A,B,w3⟩;rcases C i n p E w3 with⟨y,qn⟩|⟨go,N,aq,step⟩
 ·refine Nd hp (fr (T.done X O O O hc i ag P p E X.xe R (c B) A y) λr s4 ⟨G,I4⟩=>?_);subst G;exact MY ⟨p,E,I4,qn⟩
 ·refine Nd hp (fr (T.item X rfl rfl rfl hc i ag P p E X.xe R (c B) A go) fun r s4 ⟨u,G,h4⟩=>?_);subst G;refine Nd hp (fr h4 fun _ Q ⟨x,S,I5,r5,y5,w,L⟩=>?_);have K:=I5.pinned (c L) (T.obj _ _ w);refine Nd hp (fr (hg _ Q p S x u _ K r5 (step x S y5)) fun _ s6 ⟨ao,H6,I6,q6⟩=>?_);refine Nd hp (fr (hb _ s6 ao H6 _ I6 q6) fun f F t=>?_);have again:∀ {a:St} {k:Hp},Inv X (ag++ot fp Q.heap) a k F->N a k -> ∃ m,m<n /\ ∃ i l H',Inv X ag l H' F/\tn i F.heap/\(∀ b∈fp,H' b=none)/\W i m l H':=fun {a k} j z=>by
   obtain⟨m',hm,w7⟩:=aq a k z;refine⟨m',hm,i+1,a,k,j.unpinned,T.keep _ _ _ w λb hb o e=>(j.pin (b,o) (mA1 _ (mA1 _ (jf hb e)))).1,λb hb=>?_,w7⟩;obtain⟨o,e,d⟩:=T.obj _ _ w b hb;exact(j.pin (b,o) (mA1 _ (mA1 _ (jf hb e)))).2.1
  cases f with
  |next=>obtain⟨a,k,j,z⟩:=t;exact again j z
  |cont=>obtain⟨a,k,j,z⟩:=t;exact again j z
  |brk=>obtain⟨a,k,j,t⟩:=t;exact⟨a,k,j.unpinned,t⟩
  |ret v=>obtain⟨wq,a,k,j,r7,t⟩:=t;exact⟨wq,a,k,j.unpinned,r7,t⟩
end
abbrev R2:=V->V->Hp->VK->Prop
def gJ(X:Cx)(f:dM->dM->Sem dM)(r:R2):Prop:=
 ∀(ag:List (dP×Obj)) (s:dN) (σ:St) (H:Hp) (x y:V) (v u:dM) (Q:VK),Inv X ag σ H s->eu x v->eu y u->r x y H Q ->
  dX (Mw X.prog X.w) X.A (f v u) (EP X ag σ Q) X.xe s
def HR(X:Cx)(f:dM->Sem dM)(r:V->Hp->VK->Prop):Prop:=
 ∀(ag:List (dP×Obj)) (s:dN) (σ:St) (H:Hp) (x:V) (v:dM) (Q:VK),Inv X ag σ H s->eu x v->r x H Q ->
  dX (Mw X.prog X.w) X.A (f v) (EP X ag σ Q) X.xe s
def fi(X:Cx)(f:dM)(r:List V->Hp->VK->Prop):Prop:=
 ∀(ag:List (dP×Obj)) (s:dN) (σ:St) (H:Hp) (xs:List V) (us:List dM) (Q:VK),Inv X ag σ H s->eG xs us->r xs H Q ->
  dX (Mw X.prog X.w) X.A (call f us) (EP X ag σ Q) X.xe s
def Le(X:Cx)(r:V->Hp->(Bool->Hp->Prop)->Prop):Prop:=
 ∀(ag:List (dP×Obj)) (s:dN) (σ:St) (H:Hp) (x:V) (v:dM) (Q:Bool->Hp->Prop),Inv X ag σ H s->eu x v->r x H Q ->
  dX (Mw X.prog X.w) X.A (truthy v) (TP X ag σ Q) X.xe s
noncomputable def Ia(r:R2)(ta tb:TE):TE:=fun σ H Q=>ta σ H λx H1=>tb σ H1 λy H2=>r x y H2 Q
def Lo(r:V->Hp->VK->Prop)(ta:TE):TE:=fun σ H Q=>ta σ H λx H1=>r x H1 Q
def rI(C:Int->Int->Prop)(g:Int->Int->V):R2:=λx y H Q=>∃i j,x = .int i/\y = .int j/\C i j/\Q (g i j) H
noncomputable def ED(g:Int->Int->V):R2:=λx y H Q=>∃i j,x = .int i/\y = .int j/\Q (g i j) H
def rU(g:Int->V):V->Hp->VK->Prop:=λx H Q=>∃i,x = .int i/\Q (g i) H
section
variable{a b c:Expr}{ta tb tc:TE}{pos:Pos}
theorem HA(ha:PE X a ta)(hb:PE X b tb){ag:List (dP×Obj)}{s:dN}{σ:St}{H:Hp}{R:V->V->Hp->Prop}(I:Inv X ag σ H s)(h:ta σ H fun x H1=>tb σ H1 fun y H2=>R x y H2){Q:dM->dN->Prop}{f:dM->dM->Sem dM}(hf:∀v u e x y H2,Inv X ag σ H2 e->eu x v->eu y u->R x y H2->dX (Mw X.prog X.w) X.A (f v u) Q X.xe e):
  dX (Mw X.prog X.w) X.A (eval a X.env) (λv d=>dX (Mw X.prog X.w) X.A (eval b X.env) (λu c=>dX (Mw X.prog X.w) X.A (f v u) Q X.xe c) X.xe d) X.xe s:=by
 refine fr (ha ag s σ H _ I h) λv i ⟨x,H1,j,m,g⟩=>?_;refine fr (hb ag i σ H1 _ j g) λu e ⟨y,H2,k,r2,l⟩=>?_;exact hf v u e x y H2 k m r2 l
theorem IB{op:M4}{r:R2}(ho:gJ X (Nm op) r)(ha:PE X a ta)(hb:PE X b tb):PE X (.BinOp a op b pos) (Ia r ta tb):=by
 intro ag s σ H Q I h;exact wpAny_BinOp (HA ha hb I h λv u e x y H2 c f d q=>ho ag e σ H2 x y v u Q c f d q)
theorem IA{op:UnaryOp}{r:V->Hp->VK->Prop}(ho:HR X (unaryOp op) r)(ha:PE X a ta):PE X (.UnaryOp op a pos) (Lo r ta):=by
 intro ag s σ H Q I h;exact UnaryOp_ (fr (ha ag s σ H _ I h) λv d ⟨x,H1,e,b,c⟩=>ho ag d σ H1 x v Q e b c)
theorem J3{f:dM->dM->Sem dM}{C:Int->Int->Prop}{g:Int->Int->Int}(a:∀(i j:Int) (t u:Tok) (s:dN) (Q:dM->dN->Prop) (E:dM->dN->Prop),C i j->Q (.int (g i j) s.toks) {s with toks:=s.toks+1}->dX (Mw X.prog X.w) X.A (f (.int i t) (.int j u)) Q E s):
  gJ X f (rI C λi j=>.int (g i j)):=by
 intro ag s σ H x y v u Q I d b h;obtain⟨i,j,rfl,rfl,hc,q⟩:=h;obtain⟨t,rfl⟩:=d;obtain⟨c,rfl⟩:=b;exact a i j t c s _ _ hc ⟨.int (g i j),H,I.tok _,⟨_,O⟩,q⟩
theorem IJ{f:dM->dM->Sem dM}{g:Int->Int->Int}(a:∀(i j:Int) (t u:Tok) (s:dN) (Q:dM->dN->Prop) (E:dM->dN->Prop),Q (.int (g i j) s.toks) {s with toks:=s.toks+1}->dX (Mw X.prog X.w) X.A (f (.int i t) (.int j u)) Q E s):
  gJ X f (ED λi j=>.int (g i j)):=by
 intro ag s σ H x y v u Q I d b h;obtain⟨i,j,rfl,rfl,q⟩:=h;obtain⟨t,rfl⟩:=d;obtain⟨c,rfl⟩:=b;exact a i j t c s _ _ ⟨.int (g i j),H,I.tok _,⟨_,O⟩,q⟩
theorem Gn{f:dM->dM->Sem dM}{g:Int->Int->Bool}(a:∀(i j:Int) (t u:Tok) (s:dN) (Q:dM->dN->Prop) (E:dM->dN->Prop),Q (.bool (g i j)) s->dX (Mw X.prog X.w) X.A (f (.int i t) (.int j u)) Q E s):
  gJ X f (ED λi j=>.bl (g i j)):=by
 intro ag s σ H x y v u Q I d b h;obtain⟨i,j,rfl,rfl,q⟩:=h;obtain⟨t,rfl⟩:=d;obtain⟨c,rfl⟩:=b;exact a i j t c s _ _ ⟨.bl (g i j),H,I,O,q⟩
def JW(i j:Int):Prop:=0<j/\j<1073741824
def JV(i j:Int):Prop:=0<=j/\j<=1000000/\i.natAbs<2^64
theorem Gm:gJ X (Nm .Add) (ED λi j=>.int (i+j)):=IJ λ_ _ _ _ _ _ _ q=>add_int q
theorem C8:gJ X (Nm .FloorDiv) (rI JW λi j=>.int (i/j)):=J3 λi j _ _ _ _ _ hc q=>by
 have h1:(0:Int)<j:=hc.1;have h2:j<1073741824:=hc.2;exact floordiv_int (by lia) (by rw[Int.fdiv_eq_ediv_of_nonneg i (by lia)];exact q) (.inl (PyProof.noPylong_small (by lia)))
theorem Gi:gJ X (Nm .Mod) (rI (λ_ j=>0<j) λi j=>.int (i%j)):=J3 λi j _ _ _ _ _ hc q=>by
 have h1:(0:Int)<j:=hc;exact mod_int' (by lia) (by rw[Int.fmod_eq_emod_of_nonneg i (by lia)];exact q)
theorem Gh:gJ X (Nm .Pow) (rI JV λi j=>.int (i^j.toNat)):=J3 λ_ _ _ _ _ _ _ hc q=>pow_int_small hc.1 hc.2.1 hc.2.2 q
theorem DY:gJ X (inplaceOp .Add) (ED λi j=>.int (i+j)):=IJ λ_ _ _ _ _ _ _ q=>iadd_int q
theorem LS{f:dM->Sem dM}{g:Int->Int}(a:∀(i:Int) (t:Tok) (s:dN) (Q:dM->dN->Prop) (E:dM->dN->Prop),Q (.int (g i) s.toks) {s with toks:=s.toks+1}->dX (Mw X.prog X.w) X.A (f (.int i t)) Q E s):
  HR X f (rU λi=>.int (g i)):=by
 intro ag s σ H x v Q I b h;obtain⟨i,rfl,q⟩:=h;obtain⟨t,rfl⟩:=b;exact a i t s _ _ ⟨.int (g i),H,I.tok _,⟨_,O⟩,q⟩
theorem EZ:HR X (unaryOp .USub) (rU λi=>.int (-i)):=LS λ_ _ _ _ _ q=>neg_int q
theorem Hm{ag:List (dP×Obj)}{σ:St}{H:Hp}{s:dN}{Q:VK}{k k':Bool}(I:Inv X ag σ H s)(q:Q (.bl k) H)(e:k=k'):EP X ag σ Q (.bool k') s:=by
 subst e;exact⟨.bl k,H,I,O,q⟩
theorem IG:gJ X (Nn .LtE) (ED λi j=>.bl (decide (i<=j))):=Gn λ_ _ _ _ _ _ _ q=>le_int q
theorem IH:gJ X (Nn .Gt) (ED λi j=>.bl (decide (j<i))):=Gn λ_ _ _ _ _ _ _ q=>gt_int q
theorem II:gJ X (Nn .GtE) (ED λi j=>.bl (decide (j<=i))):=Gn λ_ _ _ _ _ _ _ q=>ge_int q
theorem Gj:gJ X (Nn .Is) (λx y H Q=>y = .non/\Q (.bl (decide (x = .non))) H):=by
 intro ag s σ H x y v u Q I a b h;obtain⟨rfl,q⟩:=h;cases b;refine is_none_gen (Hm I q ?_);cases x<;>first
  |(cases a;rfl)
  |(obtain⟨t,rfl⟩:=a;rfl)
theorem Ax(b:Expr){op:No}(h:autoParam (op ≠ .In) bu0)(h2:autoParam (op ≠ .NotIn) bu0):Np op b=J:=by
 have a:(op == CmpOp.In)=J:=by cases op<;>first|rfl|exact absurd rfl h
 have c:(op == CmpOp.NotIn)=J:=by cases op<;>first|rfl|exact absurd rfl h2
 cases b<;>simp[Np,a,c]
theorem C5{op:No}{r:R2}(ho:gJ X (Nn op) r)(ha:PE X a ta)(hb:PE X b tb)(hm:Np op b=J):PE X (.Compare a [op] [b] pos) (Ia r ta tb):=by
 intro ag s σ H Q I h;exact wpAny_Compare1 (HA ha hb I h λv u e x y H2 c f d q=>ho ag e σ H2 x y v u Q c f d q) hm
noncomputable def Ey(t:TE):TT:=fun σ H Q=>t σ H λx H'=>∃k,x = .bl k/\Q k H'
theorem CO{op:No}{r:R2}(ho:gJ X (Nn op) r)(ha:PE X a ta)(hb:PE X b tb)(hm:Np op b=J):PT X (.Compare a [op] [b] pos) (Ey (Ia r ta tb)):=by
 intro ag s σ H Q I h;refine wpAny_isTrue_Compare1 (fr (ha ag s σ H _ I h) λv f ⟨x,H1,g,p,d⟩=>fr (hb ag f σ H1 _ g d) λu n ⟨y,H2,i,r2,o⟩=>
  fr (ho ag n σ H2 x y v u _ i p r2 o) λc t ⟨z,m,l,j,k,e,q⟩=>?_) hm
 subst e;cases j;exact MV ⟨m,l,q⟩
noncomputable def vj(r r':R2)(ta tb tc:TE):TE:=fun σ H Q=>ta σ H λx H1=>tb σ H1 λy H2=>r x y H2 λz H3=>∃k,z = .bl k /\
 (if k=M then tc σ H3 λw' H4=>r' y w' H4 Q else Q (.bl J) H3)
theorem An{op op':No}{r j:R2}(ho:gJ X (Nn op) r)(ho':gJ X (Nn op') j)(ha:PE X a ta)(hb:PE X b tb)(hc:PE X c tc)(hm:lastMarks [op,op'] [b,c]=J:=by with_unfolding_all rfl):PE X (.Compare a [op,op'] [b,c] pos) (vj r j ta tb tc):=by
 intro ag s σ H Q I h;refine Compare_chain (fr (ha ag s σ H _ I h) λv B ⟨x,H1,C,q,A⟩=>chain_link (fr (hb ag B σ H1 _ C A) λu t ⟨y,H2,D,r2,G⟩=>
  fr (ho ag t σ H2 x y v u _ D q r2 G) λd w ⟨z,f,i,E,k,e,g⟩=>?_)) hm
 subst e;cases E;refine MV ?_;cases k with
 |false=>exact ite_ff ⟨.bl J,f,i,O,g⟩
 |true=>exact ite_tt (chain_last (fr (hc ag w σ f _ i g) λn F ⟨p,o,m,am,l⟩=>ho' ag F σ o y p u n Q m r2 am l))
theorem zW{op op':No}{r j:R2}(ho:gJ X (Nn op) r)(ho':gJ X (Nn op') j)(ha:PE X a ta)(hb:PE X b tb)(hc:PE X c tc)(hm:autoParam (lastMarks [op,op'] [b,c]=J) An._auto_1):PT X (.Compare a [op,op'] [b,c] pos) (Ey (vj r j ta tb tc)):=by
 intro ag s σ H Q I h;refine isTrue_chain (fr (ha ag s σ H _ I h) λv am ⟨x,H1,K,A,G⟩=>test_link (fr (hb ag am σ H1 _ K G) λu B ⟨y,H2,ao,r2,P⟩=>
  fr (ho ag B σ H2 x y v u _ ao A r2 P) λd C ⟨z,f,i,N,k,e,g⟩=>?_)) hm
 subst e;cases N;refine MV ?_;cases k with
 |false=>
  obtain⟨T,n,l⟩:=g;cases n;exact ite_ff ⟨f,i,l⟩
 |true=>
  refine ite_tt (test_last (fr (hc ag C σ f _ i g) λq au ⟨w,t,p,R,o⟩=>fr (ho' ag au σ t y w u q _ p r2 R o) λS U ⟨W,E,D,F,V,m,L⟩=>?_));subst m;cases F;exact MV ⟨E,D,L⟩
def Em(K:Fg1)(x:V)(H:Hp)(k:Bool):Prop:=
 match x with
 | .non=>k=J
 | .bl b=>k=b
 | .int i=>k=(i != 0)
 | .str y=>y.length<=dW/\k=((y.length:Int) != 0)
 | .byt y=>y.size<=dW/\k=((y.size:Int) != 0)
 | .ref p=>(∃xs,nG K H p xs/\k = !xs.isEmpty)\/(∃xs,kF K H p xs/\k = !xs.isEmpty) \/ ∃kvs,H p=Z (.dK kvs)/\k = !kvs.isEmpty
 |_=>False
theorem vO{κ:Type}{kvs:List (κ×V)}{vs:List (κ×dM)}(r:KV kvs vs):(!vs.isEmpty) = !kvs.isEmpty:=by
 cases r<;>rfl
theorem oN{xs:List V}{its:List dM}(r:eG xs its):(!its.toArray.isEmpty) = !xs.isEmpty:=by
 cases r<;>simp
theorem mR:(dW:Nat)<2^63:=by rw[Nq];decide
theorem E7:Le X (λx H Q=>∃k,Em X.K x H k/\Q k H):=by
 intro ag s σ H x v Q I d h;obtain⟨k,e,q⟩:=h;have u:=mR;have o:dW=16777216:=Nq;cases x with
 |non=>
  cases d;have a:k=J:=e;subst a;exact truthy_none ⟨H,I,q⟩
 |bl b=>
  cases d;have a:k=b:=e;subst a;exact MV ⟨H,I,q⟩
 |int i=>
  obtain⟨t,rfl⟩:=d;have a:k=(i != 0):=e;subst a;exact PySem.P.truthy_int ⟨H,I,q⟩
 |str y=>
  obtain⟨t,rfl⟩:=d;obtain⟨l,a⟩:y.length<=dW/\k=((y.length:Int) != 0):=e;subst a;exact PySem.P.truthy_str (by lia) ⟨H,I.tok _,q⟩
 |byt y=>
  obtain⟨t,rfl⟩:=d;obtain⟨l,a⟩:y.size<=dW/\k=((y.size:Int) != 0):=e;subst a;exact PySem.W.truthy_bytes (by lia) ⟨H,I.tok _,q⟩
 |ref p=>
  cases d;have a:(∃xs,nG X.K H p xs/\k = !xs.isEmpty)\/(∃xs,kF X.K H p xs/\k = !xs.isEmpty) \/ ∃kvs,H p=Z (.dK kvs)/\k = !kvs.isEmpty:=e;rcases a with⟨xs,f,a⟩|⟨xs,f,a⟩|⟨kvs,f,a⟩
  ·subst a;obtain⟨g,r,pl,j⟩:=I.list f;have c:=r.length;exact wpAny_truthy_list pl.isList (by simp only[sT1];lia) ⟨H,I.tok _,by rw[oN r];exact q⟩
  ·subst a;obtain⟨g,r,pl,j⟩:=I.tuple f;have c:=r.length;exact truthy_tuple pl (by simp only[sT1];lia) ⟨H,I.tok _,by rw[oN r];exact q⟩
  ·subst a;obtain⟨j,n,vs,r,m⟩:kvs.length<=dW/\(p == L4)=false /\ ∃vs,KV kvs vs/\s.heap.DictOf (fe X.prog X.w) p vs:=I.hok p _ f;have c:kvs.length=vs.length:=Paired.length r;exact wpAny_truthy_dict n m (by lia) ⟨H,I.tok _,by rw[vO r];exact q⟩
 |_=>exact(show False from e).elim
theorem zV(ha:PE X a ta)(he:∀ b,isTrue a X.env b=(do let v<-b;M6 a.pos;M5 [v] (truthy v))):
  PT X a (fun σ H Q=>ta σ H λx H'=>∃k,Em X.K x H' k/\Q k H'):=by
 intro ag s σ H Q I h;exact isTrue_plain (fr (ha ag s σ H _ I h) λv d ⟨x,H1,e,f,c⟩=>E7 ag d σ H1 x v Q e f c) (he _)
theorem vy:gJ X (Nm .Add) (λx y H Q=>∃i j,x = .str i/\y = .str j/\i.length+j.length<=dW/\Q (.str (i++j)) H):=by
 intro ag s σ H x y v u Q I d b h;obtain⟨i,j,rfl,rfl,a,q⟩:=h;obtain⟨t,rfl⟩:=d;obtain⟨c,rfl⟩:=b;exact add_str (λc tk=>⟨.str (i++j),H,I.tok _,⟨_,O⟩,q⟩) a
theorem iO{x:V}{a:List dM}(r:eG [x] a):∃u,a=[u]/\eu x u:=by
 cases r with
 |cons b r2=>cases r2;exact⟨_,O,b⟩
theorem zi{x y:V}{a:List dM}(r:eG [x,y] a):∃u w',a=[u,w']/\eu x u/\eu y w':=by
 cases r with
 |cons c r2=>
  cases r2 with
  |cons b d=>cases d;exact⟨_,_,O,c,b⟩
theorem yO(hc:X.calm=M):fi X (.builtin "max") (λxs H Q=>∃i j,xs=[.int i,.int j]/\Q (.int (if j>i then j else i)) H):=by
 intro ag s σ H xs c Q I r h;obtain⟨i,j,rfl,q⟩:=h;obtain⟨u,b,rfl,⟨t,rfl⟩,⟨d,rfl⟩⟩:=zi r;refine max_two_ints (I.ok.hd hc) λh' tk k=>⟨_,H,I.kept k,?_,q⟩;by_cases a:j>i
 ·rw[ak a,ak a];exact⟨_,O⟩
 ·rw[aj a,aj a];exact⟨_,O⟩
theorem yN(hc:X.calm=M):fi X (.builtin "min") (λxs H Q=>∃i j,xs=[.int i,.int j]/\Q (.int (if j<i then j else i)) H):=by
 intro ag s σ H xs c Q I r h;obtain⟨i,j,rfl,q⟩:=h;obtain⟨u,b,rfl,⟨t,rfl⟩,⟨d,rfl⟩⟩:=zi r;refine min_two_ints (I.ok.hd hc) λh' tk k=>⟨_,H,I.kept k,?_,q⟩;by_cases a:j<i
 ·rw[ak a,ak a];exact⟨_,O⟩
 ·rw[aj a,aj a];exact⟨_,O⟩
theorem qw:fi X (.type "int") (λxs H Q=>(∃i,xs=[.int i]/\Q (.int i) H) \/ ∃k,xs=[.bl k]/\Q (.int (if k then 1 else 0)) H):=by
 intro ag s σ H xs b Q I r h;rcases h with⟨i,rfl,q⟩|⟨k,rfl,q⟩
 ·obtain⟨u,rfl,t,rfl⟩:=iO r;exact call_int_int ⟨.int i,H,I,⟨_,O⟩,q⟩
 ·obtain⟨u,rfl,a⟩:=iO r;cases a;exact call_int_bool ⟨.int (if k then 1 else 0),H,I.tok _,⟨_,O⟩,q⟩
end
structure HK (h:dZ)(x dx C:dP)(mA:Str->Option dM):Prop where
 obj:h.get? x=some (PySem.W.instObj C dx)
 ns:h.Ns1 dx mA
 ne:dx≠x
theorem yq{h:dZ}{dx:dP}{mA:Str->Option dM}(n:h.Ns1 dx mA):∃c,h.get? dx=Z c /\ ∀name,PySem.W.lookIn name c=Z (mA name):=by
 obtain⟨o,es,ep,d,i,j,_,k⟩:=n;refine⟨o,d,λname=>?_⟩;have e:=k name;unfold nsFind findBy at e;rw[<- Array.find?_toList]at e;unfold PySem.W.lookIn;rw[i];dsimp only;split
 ·rename_i y q;rw[q]at e;exact congrArg Z e
 ·rename_i q;rw [q] at e;have a:es.toList.any (·.refKey)=false:=by
   rw[aN];intro y f;obtain⟨z,t,b⟩:=j y (aO.mp f);simp[DictEntry.refKey,b]
  have g:¬ es.toList.any (·.refKey)=M:=by rw[a];exact aL
  rw[aj g];exact congrArg Z e
theorem HK.look{h:dZ}{x dx C:dP}{mA:Str->Option dM}(I:HK h x dx C mA):∃a,PySem.W.InstAt h x (PySem.W.instObj C dx) C (Z a) /\ ∀name,PySem.W.lookIn name a=Z (mA name):=
 let ⟨a,ho,hl⟩:=yq I.ns
 ⟨a,⟨I.obj,O,O,ho⟩,hl⟩
section
variable{prog:dQ}{w:dS}{A:dR}{E:dM->dN->Prop}{s:dN}{K:Fg1}{x dx C f:dP}{mA:Str->Option dM}{name:Str}{v:dM}
end
theorem lg.some_of{v:V}{o:Option dM}(r:lg (Z v) o):∃u,o=Z u/\eu v u:=by
 cases o with
 |none=>exact(show False from r).elim
 |some u=>exact⟨u,O,r⟩
section
variable{P:dQ}{w:dS}{H H':Hp}{h h':dZ}{a C dx:dP}{fs fs':List (Str×V)}
theorem DZ(b:lj P w H h)(e:H a=Z (.ins C dx fs)):∃mA,HK h a dx C mA/\(∀f,lg (fs.lookup f) (mA f))/\PySem.Within mA (fs.map (·.1))/\fs.length<=1000/\H dx=Z (.own a):=by
 obtain⟨d,z,ne,c,mA,n,r,q⟩:=(show fb P w H h a (.ins C dx fs)from b a _ e);exact⟨mA,⟨c,n,ne⟩,r,q,z,d⟩
end
structure Ll (K:Fg1)(C:dP):Prop where
 pg:PySem.W.plainGet K C Str.empty=true
 hd:PySem.W.hasDictIn K C=true
 po:PySem.W.plainOver K C=true
 sa:PySem.W.findIn K (.ref C) "__setattr__"=some (some (.builtin "object.__setattr__"))
theorem Ll.get{K:Fg1}{C:dP}(c:Ll K C)(f:Str):PySem.W.plainGet K C f=M:=c.pg
section
variable{ag:List (dP×Obj)}{σ:St}{H:Hp}{s:dN}{a C dx:dP}{fs:List (Str×V)}{f:Str}{v:V}{A:dR}{E:dM->dN->Prop}
end
section
variable{o e value:Expr}{f:Str}{pos pos' tpos:Pos}{ta tv:TE}
end
section
variable{ag:List (dP×Obj)}{σ:St}{H:Hp}{s:dN}{A:dR}{E:dM->dN->Prop}{Q:dM->dN->Prop}{c:dM}{b:Bool}
inductive nF (K:Fg1)(H:Hp):V->dM->Prop where
 |non:nF K H .non (.type "NoneType")
 |bl (x:Bool):nF K H (.bl x) (.type "bool")
 |int (i:Int):nF K H (.int i) (.type "int")
 |str (x:Str):nF K H (.str x) (.type "str")
 |flt (x:UInt64):nF K H (.flt x) (.type "float")
 |lst {a:dP} {xs:List V} (e:H a=some (.lst xs)):nF K H (.ref a) (.type "list")
 |frz {a:dP} {o:Obj} {xs:List V} (e:H a=some (.frz o (.lst xs))):nF K H (.ref a) (.type "list")
 |tup {a:dP} {xs:List V} (e:H a=some (.tup xs)):nF K H (.ref a) (.type "tuple")
 |dK {a:dP} {kvs:List (Key×V)} (e:H a=some (.dK kvs)):nF K H (.ref a) (.type "dict")
 |dT {a:dP} {kvs:List (List Key×V)} (e:H a=some (.dT kvs)):nF K H (.ref a) (.type "dict")
 | ins {a C dx:dP} {fs:List (Str×V)} (e:H a=some (.ins C dx fs)) (cl:Ll K C) (ha:PySem.W.findIn K (.ref C) "__class__"=some (some (.builtin "object.__class__")))
   (hn:PySem.W.specialIn K (.builtin "object.__class__") "__get__"=some (some (.builtin "getset_descriptor.__get__"))) (htk:PySem.W.takesIn K (.builtin "object.__class__")=some true)
   (hm:PySem.W.mroIn K C (.type "object")=some true):nF K H (.ref a) (.ref C)
theorem i0{x:V}{u t:dM}(I:Inv X ag σ H s)(f:eu x u)(ty:nF X.K H x t)(e:Nr X.K t c=some b)(h:∀ tk,Q (.bool b) {s with toks:=tk}):
  dX (Mw X.prog X.w) A (call (.builtin "isinstance") [u,c]) Q E s:=by
 cases ty with
 |non=>cases(show u=ab from f);exact Nt PySem.W.kitx_none I.kIn Nu e (λz=>nomatch z) h
 |bl y=>cases(show u=ae y from f);exact Nt PySem.W.kitx_bool I.kIn Nu e (λz=>nomatch z) h
 |int i=>obtain⟨t,q⟩:=(show∃t,u=aa i t from f);cases q;exact Nt PySem.W.kitx_int I.kIn Nu e (λz=>nomatch z) h
 |str y=>obtain⟨t,q⟩:=(show∃t,u=Value.str y t from f);cases q;exact Nt PySem.W.kitx_str I.kIn Nu e (λz=>nomatch z) h
 |flt y=>obtain⟨t,q⟩:=(show∃t,u=Value.float y t from f);cases q;exact Nt PySem.W.kitx_float I.kIn Nu e (λz=>nomatch z) h
 | @lst a xs d=>
  cases(show u=D4 a from f);obtain⟨_,_,n,_,h1⟩:=(show fb X.prog X.w H s.heap a (.lst xs)from I.hok a _ d);exact Nt PySem.W.kitx_list I.kIn ⟨_,h1,O⟩ e (λz=>nomatch z) h
 | @frz a m xs d=>
  cases(show u=D4 a from f);obtain⟨_,_,_,n,_,h1⟩:=(show fb X.prog X.w H s.heap a (.frz m (.lst xs))from I.hok a _ d);exact Nt PySem.W.kitx_list I.kIn ⟨_,h1,O⟩ e (λz=>nomatch z) h
 | @tup a xs d=>
  cases(show u=D4 a from f);obtain⟨_,_,_,p⟩:=(show fb X.prog X.w H s.heap a (.tup xs)from I.hok a _ d);obtain⟨o,h1,h2,_⟩:=p;exact Nt PySem.W.kitx_tuple I.kIn ⟨o,h1,h2⟩ e (λz=>nomatch z) h
 | @dK a kvs d=>
  cases(show u=D4 a from f);obtain⟨_,_,vs,_,p⟩:=(show fb X.prog X.w H s.heap a (.dK kvs)from I.hok a _ d);obtain⟨o,es,ep,h1,h2,_⟩:=p;exact Nt PySem.W.kitx_dict I.kIn ⟨o,h1,h2.1⟩ e (λz=>nomatch z) h
 | @dT a kvs d=>
  cases(show u=D4 a from f);obtain⟨_,_,xs,_,o,es,ep,h1,h2,_⟩:=(show fb X.prog X.w H s.heap a (.dT kvs)from I.hok a _ d);exact Nt PySem.W.kitx_dict I.kIn ⟨o,h1,h2.1⟩ e (λz=>nomatch z) h
 | @ins a C dx fs d j k l g r=>
  cases(show u=D4 a from f);obtain⟨mA,au,_⟩:=DZ I.hok d;obtain⟨v,am,_⟩:=au.look;exact Nt (PySem.W.kitx_own (j.get _) j.hd k l g r) I.kIn am e (λz=>nomatch z) h
end
structure gl (k:Nat)(A:dR):Prop where
 hd:A.handled=none
 dp:A.depth+3*k+5<recursionLimit
 un:A.units+16*k+200<Nv
 gd:A.guards=some []
theorem gl.mono{j k:Nat}{A:dR}(r:gl k A)(h:j<=k):gl j A:=⟨r.hd,by have:=r.dp;lia,by have:=r.un;lia,r.gd⟩
theorem gl.deeper{k:Nat}{A:dR}(r:gl (k+1) A)(env:Env):gl k (A.deeper env):=
 ⟨r.hd,by have:=r.dp;show A.depth+1+3*k+5<_;lia,by have:=r.un;show A.units+3+16*k+200<_;lia,r.gd⟩
theorem gl.depth{k:Nat}{A:dR}(r:gl k A):A.depth<recursionLimit:=by have:=r.dp;lia
theorem gl.units{k:Nat}{A:dR}(r:gl k A):A.units+64<Nv:=by have:=r.un;lia
noncomputable def Ku:TA:=λ_ H Q=>Q [] H
noncomputable def Ij(ta:TE)(tr:TA):TA:=fun σ H Q=>ta σ H λx H1=>tr σ H1 λxs H2=>Q (x::xs) H2
section
variable{e:Expr}{es:List Expr}{te:TE}{t:TA}{pos:Pos}
theorem rG:PA X [] Ku:=λ_ _ _ _ H Q I h=>Calls.spliced_nil ⟨[],H,I,.nil,h⟩
theorem lV(ha:PE X e te)(hr:PA X es t)(hs:autoParam (dV (e::es) X.env=(J,eval e X.env)::dV es X.env) au0):PA X (e::es) (Ij te t):=by
 intro pos ag s σ H Q I h;rw[hs];show dX _ _ (spliced ((J,eval e X.env)::MR pos (dV es X.env))) _ _ s;refine Nw (fr (ha ag s σ H _ I h) λu b ⟨x,H1,c,g,a⟩=>?_);exact fr (hr pos ag b σ H1 _ c a) λi j ⟨xs,H2,d,r2,f⟩=>⟨x::xs,H2,d,.cons g r2,f⟩
def Ko(t:TA):TE:=fun σ H Q=>t σ H λxs H1=>xs.length<=dW /\ ∀p,H1 p=Y->Q (.ref p) (upd H1 p (.tup xs))
def Kx(t:TA):TE:=fun σ H Q=>t σ H λxs H1=>xs.length<=dW /\ ∀p,H1 p=Y->Q (.ref p) (upd H1 p (.lst xs))
theorem F6{x1}(h:PA X es t):PE X (.Tuple es x1 pos) (Ko t):=by
 intro ag s σ H Q I d;refine wpAny_Tuple_spliced (fr (h pos ag s σ H _ I d) λg a ⟨xs,H1,c,r,z,q⟩=>⟨by rw[<- r.length];exact z,?_⟩);have f:H1 a.heap.objs.size=Y:=c.hok.fresh (nR1 _);refine⟨.ref a.heap.objs.size,upd H1 a.heap.objs.size (.tup xs),c.laid (t':=a.toks) (λb u e=>hP1 _ e) (nR1 _) ?_,O,q _ f⟩;exact⟨z,g,r,⟨_,hS1 _ O,O,_,O⟩⟩
theorem Ga(h:PA X es t):PE X (.List es pos) (Kx t):=by
 intro ag s σ H Q I d;refine wpAny_List_spliced (fr (h pos ag s σ H _ I d) λg a ⟨xs,H1,c,r,z,q⟩=>⟨by rw[<- r.length];exact z,?_⟩);have f:H1 a.heap.objs.size=Y:=c.hok.fresh (nR1 _);refine⟨.ref a.heap.objs.size,upd H1 a.heap.objs.size (.lst xs),c.laid (t':=a.toks) (λb u e=>hP1 _ e) (nR1 _) ?_,O,q _ f⟩;exact⟨z,g,0,r,hS1 _ O⟩
end
abbrev Sp:=List V->Hp->VK->XK->Prop
abbrev yU:=List Env->Hp->dN->XK->dM->dN->Prop
structure Er (P:dQ)(w:dS)(K:Fg1)(mg:Str->Option dM)(base:dZ)(A:dR)(outer:List Env)(s:dN)(H:Hp):Prop where
 frames:A.frames=some outer
 mod:Mod K mg base
 bs:∀b o,base.get? b=some o->s.heap.get? b=some o/\H b=none
 bsz:base.objs.size<=s.heap.objs.size
 funs:s.heap.FunFrames base outer
 frf:∀b∈frs outer,H b=none
 hok:lj P w H s.heap
 bare:L6 s.gens
def CE(outer:List Env)(P:dQ)(w:dS)(H:Hp)(s:dN)(Q:VK)(u:dM)(s':dN):Prop:=
 ∃v H',s'.os=s.os/\L6 s'.gens/\Un (frs outer) [] H H' s.heap s'.heap/\lj P w H' s'.heap/\eu v u/\Q v H'
def CR(CX:yU)(outer:List Env)(P:dQ)(w:dS)(H:Hp)(s:dN)(Q:VK)(E:XK)(r:Result)(s':dN):Prop:=
 match r with
 | .ok (.ret u)=>CE outer P w H s Q u s'
 | .ok _=>False
 | .error e=>CX outer H s E e s'
structure m3 (P:dQ)(w:dS)(K:Fg1)(mg:Str->Option dM)(base:dZ)(CX:yU)(k:Nat)(f:dP)(fd:d2)(ps:List Str)(sp:Sp):Prop where
 len:∀vs H Q E,sp vs H Q E->vs.length=ps.length
 run:∀(A:dR) (outer:List Env) (s:dN) (H:Hp) (args:Args) (us:List dM) (vs:List V) (Q:VK) (E:XK),gl k A->Er P w K mg base A outer s H->BindsTo s fd args (ps.zip us)->eG vs us->sp vs H Q E ->
  dY (Mw P w) A (.call (.ref f) args) (CR CX outer P w H s Q E) s
section
variable{ag:List (dP×Obj)}{σ:St}{H:Hp}{s s':dN}
theorem Inv.env0(I:Inv X ag σ H s):Er X.prog X.w X.K X.mg X.base X.A X.stack s H:=
 ⟨I.ok.frames,I.ok.mod,I.bs,aC I.ok.bsz I.sz,I.stack,I.stkFree,I.hok,I.bare⟩
theorem Inv.after{Q:VK}{u:dM}(I:Inv X ag σ H s)(h:CE X.stack X.prog X.w H s Q u s'):EP X ag σ Q u s':=by
 obtain⟨v,H',i,a,un,c,r,q⟩:=h;obtain⟨f,g,d,t,e⟩:=s';obtain rfl:e=s.os:=i;exact⟨v,H',I.call (h':=f) (g':=g) (d':=d) (t':=t) (ch:=[]) un c a (λb z=>absurd z (by simp)),r,q⟩
end
noncomputable def Ik(sp:Sp)(dvs:List V)(E:XK)(t:TA):TE:=fun σ H Q=>t σ H λvs H1=>sp (vs++dvs) H1 Q E
def kb(K:Fg1)(fd:d2)(ps:List Str)(ds:List dM):Prop:=
 ∀(s:dN) (us:List dM),K.In s.heap->(us++ds).length=ps.length->BindsTo s fd ⟨us,[]⟩ (ps.zip (us++ds))
theorem kb.all{K:Fg1}{fd:d2}{ps:List Str}(h:∀a:List dM,a.length=ps.length->bindArgs fd ⟨a,[]⟩=pure (ps.zip a)):kb K fd ps []:=λs a _ b=>by
 rw[aP]at b ⊢;exact .of_eq (h a b)
def we(CX:yU)(X:Cx)(E:XK):Prop:=∀(ag:List (dP×Obj)) (σ:St) (H:Hp) (s:dN) (e:dM) (s':dN),Inv X ag σ H s->CX X.stack H s E e s'->X.xe e s'
section
variable{CX:yU}{k:Nat}{f C:dP}{fd:d2}{ps:List Str}{sp:Sp}{dvs:List V}{ds:List dM}{E:XK}{x m:Str}{p pos apos:Pos}{e o:Expr}{es:List Expr}{ta:TE}{t:TA}
theorem Fy{ag:List (dP×Obj)}{σ:St}{H:Hp}{s:dN}{Q:VK}{a:List dM}{vs:List V}(F:m3 X.prog X.w X.K X.mg X.base CX k f fd ps sp)(hr:gl k X.A)(hb:kb X.K fd ps ds)(hd:eG dvs ds)(hx:we CX X E)(I:Inv X ag σ H s)(r:eG vs a)(h:sp (vs++dvs) H Q E):dX (Mw X.prog X.w) X.A (call (.ref f) a) (EP X ag σ Q) X.xe s:=by
 have r2:eG (vs++dvs) (a++ds):=r.append hd;have c:(a++ds).length=ps.length:=by rw[<- r2.length];exact F.len _ _ _ _ h
 refine wpAny_call (Nx (F.run X.A X.stack s H ⟨a,[]⟩ (a++ds) (vs++dvs) Q E hr I.env0 (hb s a I.kIn c) r2 h) λr s' b=>?_);cases r with
 |error e=>exact hx ag σ H s e s' I b
 |ok d=>
  cases d with
  |ret u=>exact I.after b
  |next=>exact MX b
  |brk=>exact MX b
  |cont=>exact MX b
theorem C6 (F:m3 X.prog X.w X.K X.mg X.base CX k f fd ps sp)(hr:gl k X.A)(hg:Gl X x)(hm:X.mg x=some (.ref f))(hk:wK1 X.K (.ref f)=true)(hb:kb X.K fd ps ds)(hd:eG dvs ds)(hx:we CX X E)
  (ha:PA X (e::es) t) (hdb:autoParam ((x == ("__debug__":Str))=J) bu0) (he:autoParam (dV (e::es) X.env=(J,eval e X.env)::dV es X.env) au0) (hpl:autoParam ((MR pos (dV es X.env)).any (·.1)=J) au0):
  PE X (.Call (.Name x p) (e::es) [] pos) (Ik sp dvs E t):=by
 intro ag s σ H Q I h;refine wpAny_Call_Name_kw (DD I hg hm ?_ hdb);refine PySem.W.callWith_K (h₀:=X.base) I.ok.mod.kin hk (fr (ha pos ag s σ H _ I h) λb c ⟨vs,H1,a,r,q⟩=>⟨a.kIn,?_⟩) he hpl;exact Fy F hr hb hd hx a r q
end
section
variable{CX:yU}{k:Nat}{f C:dP}{fd:d2}{ps ks:List Str}{sp:Sp}{E:XK}{x m:Str}{p pos apos kpos:Pos}{e o:Expr}{es:List Expr}{kws:List Ny}{te ta:TE}{t tk:TA}{nm:Option Str}
variable{g:List dM->List dM->List dM}{gV:List V->List V->List V}
end
structure gR (N P:List Str)(sc:d4):Prop where
 kind:sc.kind = .function
 co:sc.isCoroutine=false
 gen:sc.isGenerator=false
 nd:N.Nodup
 pre:N.take P.length=P
 par:∀x∈P,sc.names.lookup x=some .local\/sc.names.lookup x=some .cell
 nofree:∀y∈sc.names,y.2 ≠ .free
theorem qy{kindOf:Str->Option Nz}{x:Str}:∀{binds:List (Str×dM)} {m:Str->Option dM},(∀v,(x,v)∉binds)->bindL kindOf binds m x=m x
 |[],_,_=>rfl
 |(n,v)::r,m,h=>by
  unfold bindL;rw[qy λw a=>h w (mC1 _ a)];split
  ·have:x≠n:=by rintro rfl;exact h v mS1
   simp[this]
  ·rfl
theorem qB{kindOf:Str->Option Nz}{x:Str}:∀{binds:List (Str×dM)} {m:Str->Option dM},(∀v,(x,v)∉binds)->bindC kindOf binds m x=m x
 |[],_,_=>rfl
 |(n,v)::r,m,h=>by
  unfold bindC;rw[qB λw a=>h w (mC1 _ a)];split
  ·rfl
  ·have:x≠n:=by rintro rfl;exact h v mS1
   simp[this]
theorem qz{kindOf:Str->Option Nz}{x:Str}{v:dM}:∀ {P:List Str} {vs:List dM} {i:Nat} {m:Str->Option dM},P.Nodup->P[i]? = some x->vs[i]? = some v->kindOf x=some .local ->
  bindL kindOf (P.zip vs) m x=Z v
 |[],_,_,_,_,h,_,_=>by simp at h
 |_::_,[],_,_,_,_,h,_=>by simp at h
 |p::P,w::vs,0,m,nd,h1,h2,hk=>by
  simp at h1 h2;subst h1;subst h2;show bindL kindOf ((p,w)::P.zip vs) m p=_;unfold bindL;rw[qy λv a=>(aQ.mp nd).1 (List.of_mem_zip a).1,ak hk];simp
 |p::P,w::vs,i+1,m,nd,h1,h2,hk=>by
  show bindL kindOf ((p,w)::P.zip vs) m x=_;unfold bindL;exact qz (i:=i) (aQ.mp nd).2 (by simpa using h1) (by simpa using h2) hk
theorem qC{kindOf:Str->Option Nz}{x:Str}{v:dM}:∀ {P:List Str} {vs:List dM} {i:Nat} {m:Str->Option dM},P.Nodup->P[i]? = some x->vs[i]? = some v->kindOf x≠some .local ->
  bindC kindOf (P.zip vs) m x=Z v
 |[],_,_,_,_,h,_,_=>by simp at h
 |_::_,[],_,_,_,_,h,_=>by simp at h
 |p::P,w::vs,0,m,nd,h1,h2,hk=>by
  simp at h1 h2;subst h1;subst h2;show bindC kindOf ((p,w)::P.zip vs) m p=_;unfold bindC;rw[qB λv a=>(aQ.mp nd).1 (List.of_mem_zip a).1,aj hk];simp
 |p::P,w::vs,i+1,m,nd,h1,h2,hk=>by
  show bindC kindOf ((p,w)::P.zip vs) m x=_;unfold bindC;exact qC (i:=i) (aQ.mp nd).2 (by simpa using h1) (by simpa using h2) hk
noncomputable def jA(N:List Str)(vs:List V):St:=vs.map Z++aR (N.length-vs.length) Y
noncomputable def nE(CX:yU)(P:dQ)(w:dS)(K:Fg1)(mg:Str->Option dM)(base:dZ)(N:List Str)(qual:Str)(scope:d4)(f:dP)(cd:dM)(A:dR)(outer:List Env)(s:dN)(H:Hp)(E:XK):Cx where
 prog:=P
 w:=w
 K:=K
 mg:=mg
 base:=base
 A:=A.deeper (NA qual scope s.heap.objs.size f cd)
 N:=N
 s₀:=s
 H₀:=H
 env:=NA qual scope s.heap.objs.size f cd
 outer:=outer
 stack:=NA qual scope s.heap.objs.size f cd::outer
 ex:=[]
 calm:=M
 fn:=λ_=>M
 pn:=[]
 xe:=λe s'=>dX (Mw P w) (A.deeper (NA qual scope s.heap.objs.size f cd)) (leaving (NA qual scope s.heap.objs.size f cd) e) (λ_ s''=>CX outer H s E e s'') (λe' s''=>CX outer H s E e' s'') s'
theorem uM{a:d4}{n:Nat}{x:Str}(h:a.names.lookup x=Z .cell):∃c,(NB n a.names []).lookup x=Z c:=by
 have q:=NC a.names n [] (.inl h);exact aS.mp q
theorem yv{CX:yU}{P:dQ}{w:dS}{K:Fg1}{mg:Str->Option dM}{base:dZ}{N ps:List Str}{g:Str}{scope:d4}{f:dP}{cd:dM}{A:dR}{d:List Env}{s s1:dN}{H:Hp}{E:XK}{B:List dM}{vs:List V}(S:gR N ps scope)(hd:A.handled=none)(j:Er P w K mg base A d s H)(L:vs.length=ps.length)(r:eG vs B)(x:InCallC s s.heap.objs.size (bindL (NA g scope s.heap.objs.size f cd).kindOf (ps.zip B) fun _=>none) (NB (s.heap.objs.size+1) scope.names []) (bindC (NA g scope s.heap.objs.size f cd).kindOf (ps.zip B) fun _=>none) s1):
  Inv (nE CX P w K mg base N g scope f cd A d s H E) [] (jA N vs) H s1:=by
 have G:ps.length<=N.length:=by have:=congrArg List.length S.pre;rw[aT]at this;lia
 obtain⟨h1,tk,rfl,D⟩:=x.done;have m:∀b:dP,b∉(nE CX P w K mg base N g scope f cd A d s H E).ex:=λb z=>absurd (show b∈([]:List dP)from z) (by simp);refine⟨⟨j.mod,S.kind,O,O,nR1 _,λy z c h1 h2=>?_,λy l=>?_,λy c _ h=>?_,λ_=>hd,Around.frames_deeper j.frames,.inr ⟨O,O⟩,λb z=>absurd z (m b),j.bs,j.bsz,λb _ _=>m b,λb z=>absurd z (m b),j.funs,j.frf⟩,
  rfl,j.bare,Un.kept D,⟨_,x.toInCall.ns,λi y v h1 h2 am=>?_⟩,λy c h=>⟨_,x.cell y c h⟩,j.hok.fresh (nR1 _),λy c h=>?_,λp t=>absurd (show p∈([]:List (dP×Obj))from t) (by simp),j.hok.kept D,?_⟩
 ·exact name_of_addr x.apart (ND h1) (ND h2)
 ·have l:scope.names.lookup y=Z .cell\/scope.names.lookup y=Z .free:=l;rcases l with l|l
  ·exact uM l
  ·exact absurd O (S.nofree _ (ND l))
 ·exact aD (x.above y c (ND h))
 ·have hi:i<vs.length:=by
   unfold jA at h2;by_cases hi:i<vs.length
   ·exact hi
   ·rw[gR1 (by simpa using hi)]at h2;rw[aU]at h2;split at h2<;>cases h2
  have F:vs[i]?=Z v:=by
   unfold jA at h2;rw[gL1 (by simpa using hi),gP1]at h2;cases e:vs[i]? with
   |none=>rw[e]at h2;cases h2
   |some a=>rw[e]at h2;cases h2;rfl
  obtain⟨u,C,I⟩:=r.get F;have t:ps[i]?=Z y:=by
   rw[<- S.pre,aV (by lia)];exact h1
  have o:ps.Nodup:=by rw[<- S.pre];exact S.nd.sublist (aW _ _)
  refine⟨u,I,?_⟩;rcases S.par y (gM1 t)with k|k
  ·exact .inl ⟨k,qz o t C k⟩
  ·obtain⟨c,e⟩:=uM (n:=s.heap.objs.size+1) k;refine .inr ⟨.inl k,c,e,?_⟩;have q:=x.cell y c e;rw[qC o t C (by show scope.names.lookup y≠_;rw[k];decide)]at q;exact q
 ·exact j.hok.fresh (aD (x.above y c (ND h)))
 ·unfold jA;show _=N.length;rw[lA1,lM1,lR1];lia
theorem Js{CX:yU}{P:dQ}{w:dS}{K:Fg1}{mg:Str->Option dM}{base:dZ}{k:Nat}{f:dP}{name c:Str}{params:Arguments}{g:List d3}{scope:d4}{ao kV B R d ct oc:dM}{L aq:Option dP}{C:Array (Option dM)}{N ps:List Str}{sp:Sp}(W:K.lookup f=some ⟨oc,aq,.func (wF1 name c params g scope ao kV B R L d ct),C⟩)(hcd:wC1 K d c=true)(S:gR N ps scope)(len:∀vs H Q E,sp vs H Q E->vs.length=ps.length)(i:∀(A:dR) (a:List Env) (s:dN) (H:Hp) (vs:List V) (Q:VK) (E:XK),gl k (A.deeper (NA c scope s.heap.objs.size f d))->sp vs H Q E ->
   ∃t,u8 (nE CX P w K mg base N c scope f d A a s H E) g t/\t {nx:=λ_ H'=>Q .non H',rt:=Q} (jA N vs) H):
  m3 P w K mg base CX (k+1) f (wF1 name c params g scope ao kV B R L d ct) ps sp:=by
 refine⟨len,λA a s H au us vs Q E D z U r m=>?_⟩;have hl:=len _ _ _ _ m;have T:K.In s.heap:=z.mod.kin.keeps λb o e=>(z.bs b o e).1;have G:s.heap.NoLimit:=z.mod.nolimit.keeps λb o e=>(z.bs b o e).1;have j:∀y∈ps.zip us,scope.names.lookup y.1=Z .local\/(scope.names.lookup y.1=Z .cell/\((NB (s.heap.objs.size+1) scope.names []).lookup y.1).isSome=M):=λ⟨n,v⟩ hy=>by
  rcases S.par n (List.of_mem_zip hy).1 with q|q
  ·exact .inl q
  ·exact .inr ⟨q,NC _ _ _ (.inl q)⟩
 refine codeAny_call_function D.depth (T _ _ W) O S.co S.gen O (PySem.W.codeRec_of T hcd) (U _ _ _ _ ?_);refine wpAny_newFunctionEnv_cells S.kind j λenv X s1 x=>?_;subst X;refine⟨G.keeps x.toInCall.keep,codeAny_func ?_⟩;obtain⟨t,ht,wq⟩:=i A a s H vs Q E (D.deeper _) m;have I:Inv (nE CX P w K mg base N c scope f d A a s H E) [] (jA N vs) H s1:=yv S D.hd z hl r x;refine MU (ht [] s1 (jA N vs) H _ I wq) (λfl s' l=>?_) λe s' l=>l;have p:∀{h:St} {H':Hp} {v:V} {u:dM},Inv (nE CX P w K mg base N c scope f d A a s H E) [] h H' s'->eu v u->Q v H'->CE a P w H s Q u s':=
  λ{h H' v u} am F q=>⟨v,H',am.os,am.bare,am.base,am.hok,F,q⟩
 cases fl with
 |ret u=>
  obtain⟨v,h,H',am,F,q⟩:=l;exact p am F q
 |next=>
  obtain⟨h,H',am,q⟩:=l;exact p (v:=V.non) (u:=ab) am O q
 |brk=>
  obtain⟨_,_,_,q⟩:=l;exact MX q
 |cont=>
  obtain⟨_,_,_,q⟩:=l;exact MX q
section
variable{x:Str}{p pos:Pos}{e:Expr}{es:List Expr}{t:TA}{id T:String}{r:List V->Hp->VK->Prop}
def Lq(r:List V->Hp->VK->Prop)(t:TA):TE:=fun σ H Q=>t σ H λvs H1=>r vs H1 Q
theorem tO (hc:fi X (.builtin id) r)(hg:Gl X x)(hm:X.mg x=none)(hv:L5 x=some (.builtin id))(ha:PA X (e::es) t)(hn:autoParam (x≠"__name__") bu0)(hdb:autoParam ((x == ("__debug__":Str))=false) bu0)
  (he:autoParam (dV (e::es) X.env=(J,eval e X.env)::dV es X.env) au0) (hpl:autoParam ((MR pos (dV es X.env)).any (·.1)=J) au0):PE X (.Call (.Name x p) (e::es) [] pos) (Lq r t):=by
 intro ag s σ H Q I h;refine wpAny_Call_Name_kw (jV I hg hm hv ?_ hn hdb);exact PyProof.Rows.callWith_builtin1 (fr (ha pos ag s σ H _ I h) λd b ⟨vs,H1,c,f,a⟩=>hc ag b σ H1 vs d Q c f a) he hpl
theorem mL (hc:fi X (.type T) r)(hg:Gl X x)(hm:X.mg x=none)(hv:L5 x=some (.type T))(ha:PA X (e::es) t)(hn:autoParam (x≠"__name__") bu0)(hdb:autoParam ((x == ("__debug__":Str))=false) bu0)
  (he:autoParam (dV (e::es) X.env=(J,eval e X.env)::dV es X.env) au0) (hpl:autoParam ((MR pos (dV es X.env)).any (·.1)=J) au0):PE X (.Call (.Name x p) (e::es) [] pos) (Lq r t):=by
 intro ag s σ H Q I h;refine wpAny_Call_Name_kw (jV I hg hm hv ?_ hn hdb);exact Nk (fr (ha pos ag s σ H _ I h) λd b ⟨vs,H1,c,f,a⟩=>hc ag b σ H1 vs d Q c f a) he hpl
end
end L2
namespace HT
open PySem PyProof.Rows
section
open PySem.SeqAt
open PySem.AutoSeq1 (wpAny_loadPart')
open PySem.MeetsSeq PySem.MeetsSeq2 PySem.MeetsSeq3
end
section
variable{prog:dQ}{w:dS}{A:dR}{E:dM->dN->Prop}{s:dN}
theorem Ef {t b:dP}{vs ws:List dM}{Q:dM->dN->Prop}(ht:L3 s.heap t vs.toArray)(hb:L3 s.heap b ws.toArray)(hv:vs≠[])
  (h1:ws=[]->Q (.ref t) s) (h2:ws≠[]->Q (.ref s.heap.objs.size) {s with heap:=s.heap.push {cls:=.type "tuple",data:=.seq (vs++ws).toArray}})
  (hsz:vs.length+ws.length<=dW):dX (Mw prog w) A (Nm .Add (.ref t) (.ref b)) Q E s:=by
 obtain⟨⟨cls,k,data,l⟩,h,hc,n,m⟩:=id ht;obtain⟨⟨p,g,j,c⟩,a,d,o,f⟩:=id hb;simp only at hc m d f;subst hc m d f;have e:vs.toArray++ws.toArray=(vs++ws).toArray:=by simp
 by_cases i:ws=[]
 ·exact concat_meets ⟨_,h,rfl⟩ ⟨_,a,rfl⟩ noFill_tuple_add seq_tuple_add NE NF (NG _ _)
   (tuple_addW1 t b vs.toArray ws.toArray n o k g l c (by simpa using hv) (by simp[i])) ⟨h,a,h1 i⟩
 ·refine concat_meets ⟨_,h,rfl⟩ ⟨_,a,rfl⟩ noFill_tuple_add seq_tuple_add NE NF (NG _ _)
   (tuple_addW2 t b vs.toArray ws.toArray n o k g l c (by simpa using hv) (by simpa using i) (by rw[sT1,sT1];exact hsz)) ⟨h,a,?_⟩
  rw[e];exact h2 i
noncomputable def sIx(n d:Nat):Option Int->Nat
 |none=>d
 |some v=>if v<0 then(v+(n:Int)).toNat else min v.toNat n
theorem zQ(n d:Nat):sIx n d Y=d:=rfl
theorem CF(n d k:Nat):sIx n d (Z (k:Int))=min k n:=by
 show(if(k:Int)<0 then((k:Int)+(n:Int)).toNat else min (k:Int).toNat n)=min k n;rw[aj (by lia),NH]
theorem Fx(n d:Nat)(hd:d<=n)(o:Option Int):sIx n d o<=n:=by
 cases o with
 |none=>exact hd
 |some v=>
  show(if v<0 then(v+(n:Int)).toNat else min v.toNat n)<=n;by_cases a:v<0
  ·rw[ak a];lia
  ·rw[aj a];exact Nat.min_le_right _ _
theorem xw(v:Int)(n d:Nat):(if v<0 then max (v+(n:Int)) 0 else min v (n:Int))=((sIx n d (Z v):Nat):Int):=by
 show(if v<0 then max (v+(n:Int)) 0 else min v (n:Int))=(((if v<0 then(v+(n:Int)).toNat else min v.toNat n):Nat):Int);by_cases a:v<0
 ·simp only[ak a];lia
 ·simp only[aj a];lia
theorem v7(lo hi:Option Int)(n:Nat):NI lo hi 1 (n:Int)=(((sIx n 0 lo:Nat):Int),((sIx n n hi:Nat):Int)):=by
 have h1:¬ ((1:Int)<0):=by lia
 unfold NI;simp only[h1,NJ];refine Prod.ext ?_ ?_
 ·cases lo with
  |none=>rfl
  |some v=>exact xw v n 0
 ·cases hi with
  |none=>rfl
  |some v=>exact xw v n n
theorem vt(i j:Nat):NK (i:Int) (j:Int) 1=j-i:=by
 unfold NK;have h1:(1:Int)>0:=by lia
 simp only[h1,NL,Int.ediv_one];split<;>lia
theorem n9{v:dM}{o:Option Int}{Q:Option Int->dN->Prop}(p:NM v o)(h:Q o s):dX (Mw prog w) A (Builtin.Slice.slicePartIndex v) Q E s:=by
 cases p with
 |none=>exact slicePart_none h
 |int i t=>exact slicePart_int h
theorem iR{e:dP}{c d:dM}{lo hi:Option Int}{n:Nat}{Q:Int×Int×Nat->dN->Prop}(hs:s.heap.IsSliceOf e c d .none)(pl:NM c lo)(g:NM d hi)(h:Q (((sIx n 0 lo:Nat):Int),1,sIx n n hi-sIx n 0 lo) s):dX (Mw prog w) A (Builtin.Slice.sliceApplied (.ref e) (pure (n:Int))) Q E s:=by
 obtain⟨i,a,f,b⟩:=id hs;unfold Builtin.Slice.sliceApplied Builtin.Slice.sliceFields;refine wB1 (wB1 (NN a b (x:=c) O (wB1 (NN a b (x:=d) O (wB1 (NN a b (x:=.none) O (wP1 ?_)))))));refine wB1 (slicePart_none ?_);show dX _ _ (if((1:Int) == 0)=M then _ else _) _ _ s;rw[aj (by decide)];refine wB1 (n9 pl (wB1 (n9 g (wB1 (wP1 ?_)))));show dX _ _ (match NI lo hi 1 (n:Int)with|(lo,hi)=>pure (lo,(1:Int),NK lo hi 1)) _ _ s;rw[v7 lo hi n];show dX _ _ (pure (((sIx n 0 lo:Nat):Int),(1:Int),NK ((sIx n 0 lo:Nat):Int) ((sIx n n hi:Nat):Int) 1)) _ _ s;rw[vt];exact wP1 h
theorem Ag(xs:Array dM)(i k:Nat):((af k).filterMap λ(m:Nat)=>xs[((i:Int)+(m:Int)*1).toNat]?).toArray=((xs.toList.drop i).take k).toArray:=by
 have e:(λ(m:Nat)=>xs[((i:Int)+(m:Int)*1).toNat]?)=λm=>xs[i+m]?:=by
  funext m
  have:((i:Int)+(m:Int)*1).toNat=i+m:=by lia
  rw[this]
 rw[e];have:=pick_run xs i k;rw[List.filterMap_map]at this;have a:((λx=>xs[x]?)∘λx=>i+x)=λm=>xs[i+m]?:=rfl;rw[a]at this;rw[this]
theorem md {t b:dP}{items:Array dM}{g i:dM}{lo hi:Option Int}{Q:dM->dN->Prop}(ht:L3 s.heap t items)(hs:s.heap.IsSliceOf b g i .none)(pl:NM g lo)(k:NM i hi)
  (hw:¬ (sIx items.size 0 lo=0/\sIx items.size items.size hi=items.size))
  (h:Q (.ref s.heap.objs.size) {s with heap:=s.heap.push {cls:=.type "tuple",data:=.seq ((items.toList.drop (sIx items.size 0 lo)).take (sIx items.size items.size hi-sIx items.size 0 lo)).toArray}})
  (hsz:items.size<=dW):dX (Mw prog w) A (getItem (.ref t) (.ref b)) Q E s:=by
 have a:sizeOk (.seq ((items.toList.drop (sIx items.size 0 lo)).take (sIx items.size items.size hi-sIx items.size 0 lo)).toArray):=by
  show((items.toList.drop (sIx items.size 0 lo)).take (sIx items.size items.size hi-sIx items.size 0 lo)).toArray.size<=dW;rw[sT1,aT,aX,aK];omega
 have o:sIx items.size items.size hi<=items.size:=Fx _ _ (nR1 _) hi;obtain⟨l,c,e,j⟩:=id hs;have f:s.TypeIs (.ref b) "slice":=⟨l,c,e⟩;unfold getItem
 try with_reducible refine M7 ?_
 first|refine wB1 (wP1 ?_)|skip
 refine wB1 (wpAny_sequenceKey ht.typeIs (by decide) ?_);refine wB1 (NO (name:=NP "__getitem__") ht.typeIs NQ
  (wE1 NQ ht.typeIs entry_tuple_getitem ?_ (args_tuple_getitem _ _)))
 show dX _ _ (NR (.ref t) >>= _) _ _ s;refine wB1 (tupleItemsOf_ ht ?_);refine wB1 (NS f ?_);rw[ak (by decide)];refine wB1 (iR hs pl k ?_);have d:¬ ((((sIx items.size 0 lo:Nat):Int) == 0&&(1:Int) == 1&&(sIx items.size items.size hi-sIx items.size 0 lo) == items.size)=M):=by
  intro q;rw[bA1,bA1]at q;have n:((sIx items.size 0 lo:Nat):Int)=0:=eq_of_beq q.1.1;have p:sIx items.size items.size hi-sIx items.size 0 lo=items.size:=eq_of_beq q.2;exact hw ⟨by omega,by omega⟩
 show dX _ _ (if(((sIx items.size 0 lo:Nat):Int) == 0&&(1:Int) == 1&&(sIx items.size items.size hi-sIx items.size 0 lo) == items.size)=M then _ else _) _ _ s;rw[aj d,Ag]
 first
  |exact wB1 (m:=NT _) (wO1 (wP1 ⟨_,rfl,wP1 h⟩) a)
  |exact wB1 (m:=NT _) (wO1 (wB1 (wP1 (wP1 ⟨_,rfl,wP1 h⟩))) a)
  |exact wB1 (wB1 (m:=NT _) (wO1 (wP1 (wP1 ⟨_,rfl,wP1 h⟩)) a))
  |exact wB1 (wB1 (m:=NT _) (wO1 (wP1 ⟨_,rfl,wP1 h⟩) a))
end
end HT
namespace L2
open PySem PySem.Spec PyProof.Rows
abbrev TO:=St->Hp->(Option Int->Hp->Prop)->Prop
def PO(X:Cx)(e:Option Expr)(t:TO):Prop:=
 ∀(ag:List (dP×Obj)) (s:dN) (σ:St) (H:Hp) (Q:Option Int->Hp->Prop),Inv X ag σ H s->t σ H Q ->
  dX (Mw X.prog X.w) X.A (evalPart e X.env) (λu s'=>∃o H',Inv X ag σ H' s'/\NM u o/\Q o H') X.xe s
noncomputable def Cr:TO:=λ_ H Q=>Q Y H
noncomputable def H9(t:TE):TO:=fun σ H Q=>t σ H λx H1=>∃i,x = .int i/\Q (Z i) H1
variable{X:Cx}
section
variable{e:Expr}{te:TE}{lo hi:Option Expr}{tl th:TO}{pos p2:Pos}
theorem CW:PO X Y Cr:=by
 intro ag s σ H Q I h;rw[evalPart_none];exact wP1 ⟨Y,H,I,.none,h⟩
theorem CV(h:PE X e te):PO X (Z e) (H9 te):=by
 intro ag s σ H Q I d;rw[evalPart_some];refine fr (h ag s σ H _ I d) λu f ⟨x,H1,b,c,a⟩=>?_;obtain⟨i,rfl,q⟩:=a;obtain⟨t,rfl⟩:=c;exact⟨Z i,H1,b,.int i t,q⟩
def B9(X:Cx)(r:V->Option Int->Option Int->Hp->VK->Prop):Prop:=
 ∀(ag:List (dP×Obj)) (s:dN) (σ:St) (H:Hp) (x:V) (v vl vu:dM) (lo hi:Option Int) (sl:dP) (Q:VK),Inv X ag σ H s->eu x v->s.heap.IsSliceOf sl vl vu .none->NM vl lo->NM vu hi->r x lo hi H Q ->
  ∃T id,typeLookup (.type T) "__getitem__"=pure (Z (.builtin id))/\s.TypeIs v T/\dX (Mw X.prog X.w) X.A (getItem v (.ref sl)) (EP X ag σ Q) X.xe s
theorem B9.or{r a:V->Option Int->Option Int->Hp->VK->Prop}(h:B9 X r)(h':B9 X a):B9 X (λx lo hi H Q=>r x lo hi H Q\/a x lo hi H Q):=by
 intro ag s σ H x v c f lo hi d Q I b e pl g q;rcases q with q|q
 ·exact h ag s σ H x v c f lo hi d Q I b e pl g q
 ·exact h' ag s σ H x v c f lo hi d Q I b e pl g q
def LU(r:V->Option Int->Option Int->Hp->VK->Prop)(te:TE)(tl th:TO):TE:=fun σ H Q=>te σ H λx H1=>tl σ H1 λl H2=>th σ H2 λu H3=>r x l u H3 Q
theorem Aj{r:V->Option Int->Option Int->Hp->VK->Prop}(hr:B9 X r)(he:PE X e te)(D:PO X lo tl)(k:PO X hi th):PE X (.Subscript e (.Slice lo hi Y p2) pos) (LU r te tl th):=by
 intro ag s σ H Q I h;refine Subscript_ (fr (he ag s σ H _ I h) λv z ⟨x,H1,A,n,y⟩=>?_);refine wpAny_Slice (fr (D ag z σ H1 _ A y) λc p ⟨l,H2,B,pl,C⟩=>fr (k ag p σ H2 _ B C) λd a ⟨u,f,w,t,o⟩=>?_);rw[evalPart_none];refine wP1 ?_;have i:Inv X ag σ f {a with heap:=a.heap.push {cls:=.type "slice",data:=.fields #[c,d,.none]}}:=w.kept (t':=a.toks) λb E q=>hP1 _ q;obtain⟨T,id,g,m,j⟩:=hr ag {a with heap:=a.heap.push {cls:=.type "slice",data:=.fields #[c,d,.none]}} σ f x v c d l u a.heap.objs.size Q i n (Heap.IsSliceOf.new ..) pl t o;show dX (Mw X.prog X.w) X.A (NU e (.Slice lo hi Y p2) v (.ref a.heap.objs.size)) (EP X ag σ Q) X.xe {a with heap:=a.heap.push {cls:=.type "slice",data:=.fields #[c,d,.none]}};exact tail_any (ops:=[.ref a.heap.objs.size,v]) m g j (by with_unfolding_all rfl)
def uI(xs:List V)(lo hi:Option Int):List V:=(xs.drop (HT.sIx xs.length 0 lo)).take (HT.sIx xs.length xs.length hi-HT.sIx xs.length 0 lo)
theorem np(xs:List V)(lo hi:Option Int):(uI xs lo hi).length<=xs.length:=by
 unfold uI;rw[aT,aX];lia
def KI(K:Fg1):V->Option Int->Option Int->Hp->VK->Prop:=λx lo hi H Q=>∃a xs,x = .ref a/\kF K H a xs /\
 ¬ (HT.sIx xs.length 0 lo=0/\HT.sIx xs.length xs.length hi=xs.length) /\ ∀p,H p=Y->Q (.ref p) (upd H p (.tup (uI xs lo hi)))
theorem Fo:B9 X (KI X.K):=by
 intro ag s σ H x v m t lo hi n Q I g j pl k h;obtain⟨a,xs,rfl,i,l,q⟩:=h;cases g;obtain⟨d,r,e,f⟩:=I.tuple i;have c:d.toArray.size=xs.length:=by rw[sT1];exact r.length.symm
 refine⟨"tuple",_,PyProof.Rows.slot_tuple_getitem.lookup,e.typeIs,?_⟩;refine HT.md e j pl k (by rw[c];exact l) ?_ (by rw[c];exact f);rw[c];refine⟨.ref s.heap.objs.size,_,I.laid (t':=s.toks) (o:=.tup (uI xs lo hi)) (λb p q=>hP1 _ q) (nR1 _) ?_,O,q _ (I.hok.fresh (nR1 _))⟩;exact⟨aC (np xs lo hi) f,_,(r.drop (HT.sIx xs.length 0 lo)).take (HT.sIx xs.length xs.length hi-HT.sIx xs.length 0 lo),IsTup.new _ _⟩
def Iu(K:Fg1):R2:=λx y H Q=>∃a b xs ys,x = .ref a/\y = .ref b/\kF K H a xs/\kF K H b ys/\xs≠[]/\xs.length+ys.length<=dW /\
 (ys=[]->Q (.ref a) H)/\(ys≠[] -> ∀p,H p=Y->Q (.ref p) (upd H p (.tup (xs++ys))))
theorem eG.nil_iff{xs:List V}{a:List dM}(r:eG xs a):a=[]↔xs=[]:=by
 cases r with
 |nil=>simp
 |cons _ _=>simp
theorem C9:gJ X (Nm .Add) (Iu X.K):=by
 intro ag s σ H x y v u Q I k g h;obtain⟨a,b,xs,ys,rfl,rfl,f,l,m,d,j,n⟩:=h;cases k;cases g;obtain⟨i,c,p,_⟩:=I.tuple f;obtain⟨e,r2,p2,_⟩:=I.tuple l;refine HT.Ef p p2 (λz=>m (c.nil_iff.mp z)) (λz=>⟨.ref a,H,I,O,j (r2.nil_iff.mp z)⟩) (λz=>?_) (by rw[<- c.length,<- r2.length];exact d);refine⟨.ref s.heap.objs.size,_,I.laid (t':=s.toks) (o:=.tup (xs++ys)) (λb r q=>hP1 _ q) (nR1 _) ?_,O,n (λw=>z (r2.nil_iff.mpr w)) _ (I.hok.fresh (nR1 _))⟩;exact⟨by rw[lA1];exact d,_,c.append r2,IsTup.new _ _⟩
end
noncomputable def vM(n:Nat)(i:Int):Option Nat:=if 0<=i then(if i<n then Z i.toNat else Y)else if-(n:Int)<=i then Z (i+n).toNat else Y
def uR{α:Type}(xs:List α)(i:Int):Option α:=(vM xs.length i).bind λj=>xs[j]?
theorem sf{n:Nat}{i:Int}{j:Nat}(h:vM n i=Z j):seqIndex? i n=Z j/\j<n /\ -(n:Int)<=i/\i<n:=by
 unfold vM at h;by_cases a:0<=i
 ·rw[ak a]at h;by_cases h1:i<n
  ·rw[ak h1]at h;have e:i.toNat=j:=Option.some.inj h;exact⟨by rw[seqIndex_of a h1,e],by lia,by lia,h1⟩
  ·rw[aj h1]at h;cases h
 ·rw[aj a]at h;by_cases h1: -(n:Int)<=i
  ·rw[ak h1]at h;have e:(i+n).toNat=j:=Option.some.inj h;exact⟨by rw[seqIndex_neg (by lia) h1,e],by lia,h1,by lia⟩
  ·rw[aj h1]at h;cases h
theorem xE{α:Type}{xs:List α}{i:Int}{v:α}(h:uR xs i=Z v):∃j,seqIndex? i xs.length=Z j/\xs[j]?=Z v/\j<xs.length /\ -(xs.length:Int)<=i/\i<xs.length:=by
 unfold uR at h;cases e:vM xs.length i with
 |none=>rw[e]at h;cases h
 |some j=>
  rw[e]at h;obtain⟨h1,h2,b,a⟩:=sf e;exact⟨j,h1,h,h2,b,a⟩
theorem uQ{α:Type}(xs:List α)(v:α):uR (xs++[v]) (-1)=Z v:=by
 have a:(xs++[v]).length=xs.length+1:=by simp
 have e:vM (xs++[v]).length (-1)=Z xs.length:=by
  unfold vM;rw[a,aj (by decide),ak (by lia)]
  congr 1
  lia
 unfold uR;rw[e];show(xs++[v])[xs.length]?=Z v;simp
def nW(b:Expr):Prop:=∀o i,subscripted b J o i=operate [o,i] (getItem o i)
def EU(X:Cx)(r:R2):Prop:=
 ∀(value slice:Expr) (ag:List (dP×Obj)) (s:dN) (σ:St) (H:Hp) (x y:V) (v u:dM) (Q:VK),Inv X ag σ H s->eu x v->eu y u->r x y H Q ->
  subscripted slice J v u=operate [v,u] (getItem v u)->dX (Mw X.prog X.w) X.A (NU value slice v u) (EP X ag σ Q) X.xe s
def HM(X:Cx)(id:String)(r:V->List V->Hp->VK->Prop):Prop:=
 ∀(ag:List (dP×Obj)) (s:dN) (σ:St) (H:Hp) (x:V) (xs:List V) (v:dM) (us:List dM) (Q:VK),Inv X ag σ H s->eu x v->eG xs us->r x xs H Q ->
  dX (Mw X.prog X.w) X.A (call (.builtin id) (v::us)) (EP X ag σ Q) X.xe s
section
variable{a b:Expr}{ta tb:TE}{pos:Pos}
theorem IC{r:R2}(hr:EU X r)(ha:PE X a ta)(hb:PE X b tb)(hs:nW b):PE X (.Subscript a b pos) (Ia r ta tb):=by
 intro ag s σ H Q I h;exact Subscript_ (HA ha hb I h λv u e x y H2 c f d q=>hr a b ag e σ H2 x y v u Q c f d q (hs _ _))
def KM(K:Fg1):R2:=λx y H Q=>∃p xs i v,x = .ref p/\y = .int i/\nG K H p xs/\uR xs i=Z v/\Q v H
def KL(K:Fg1):R2:=λx y H Q=>∃p xs i v,x = .ref p/\y = .int i/\kF K H p xs/\uR xs i=Z v/\Q v H
theorem DV:EU X (KM X.K):=by
 intro value e ag s σ H x y v u Q I o m h k;obtain⟨p,xs,i,z,rfl,rfl,n,C,q⟩:=h;cases o;obtain⟨t,rfl⟩:=m;obtain⟨b,r,pl,E⟩:=I.list n;obtain⟨j,h1,h2,F,l,A⟩:=xE C;obtain⟨w,f,c⟩:=r.get h2;have B:=r.length;have D:=mR;have a:EP X ag σ Q w s:=⟨z,H,I,c,q⟩;by_cases g:0<=i
 ·have d:i.toNat=j:=by
   rw[seqIndex_of g A]at h1;exact Option.some.inj h1
  exact item_listR pl.isList g (by lia) (by rw[d];simpa using f) a k
 ·have d:(i+(b.toArray.size:Int)).toNat=j:=by
   rw[seqIndex_neg (by lia) l]at h1;rw[sT1,<- B];exact Option.some.inj h1
  exact subscriptTail_builtinR (x:=w) pl.isList.typeIs slot_list_getitem.lookup
   (wpAny_getItem_list_neg (Q:=λr s'=>r=w/\EP X ag σ Q r s') pl.isList (by lia) (by rw[sT1]<;>lia) (by lia) (by rw[d];simpa using f) ⟨O,a⟩) k
theorem Hd:EU X (KL X.K):=by
 intro value c ag s σ H x y v u Q I g d h l;obtain⟨p,xs,i,z,rfl,rfl,e,n,q⟩:=h;cases g;obtain⟨t,rfl⟩:=d;obtain⟨f,r,pl,C⟩:=I.tuple e;obtain⟨j,h1,h2,D,o,A⟩:=xE n;obtain⟨w,k,a⟩:=r.get h2;have m:=r.length;have B:=mR;have b:EP X ag σ Q w s:=⟨z,H,I,a,q⟩;exact subscriptTail_builtinR (x:=w) pl.typeIs slot_tuple_getitem.lookup
  (getItem_tuple (j:=j) (Q:=λr s'=>r=w/\EP X ag σ Q r s') pl (by lia) (by lia) (by rw[sT1,<- m];exact h1) (by simpa using k) ⟨O,b⟩) l
theorem vI(its:List dM)(n j:Nat)(u:dM):NV (·.setIfInBounds j u) {cls:=.type "list",data:=.seq its.toArray n}={cls:=.type "list",data:=.seq (its.set j u).toArray n}:=by
 simp[NV]
theorem Inv.lst{ag:List (dP×Obj)}{σ:St}{H:Hp}{s:dN}{p:dP}{xs:List V}(I:Inv X ag σ H s)(h:H p=some (.lst xs)):
  ∃(its:List dM) (n:Nat),eG xs its/\s.heap.get? p=Z {cls:=.type "list",data:=.seq its.toArray n}/\xs.length<=dW:=by
 obtain⟨z,its,n,r,e⟩:=I.hok p _ h;exact⟨its,n,r,e,z⟩
theorem Inv.lstUpd {ag:List (dP×Obj)}{σ:St}{H:Hp}{s:dN}{p:dP}{xs ys:List V}{its its':List dM}{n a:Nat}{f:Obj->Obj}(I:Inv X ag σ H s)(h:H p=some (.lst xs))
  (ho:s.heap.get? p=Z {cls:=.type "list",data:=.seq its.toArray n}) (hf:f {cls:=.type "list",data:=.seq its.toArray n}={cls:=.type "list",data:=.seq its'.toArray a}) (r:eG ys its') (hz:ys.length<=dW) (t:Nat):
  Inv X ag σ (upd H p (.lst ys)) {s with heap:=s.heap.update p f,toks:=t}:=by
 have e:(s.heap.update p f).get? p=Z {cls:=.type "list",data:=.seq its'.toArray a}:=by
  rw[hW1 f ho (by rw[hf]<;>rfl),hf]
 refine I.write (x:=p) (e:=p) (by rw[h];trivial) (.inl O) (λb u c q=>(Heap.get?_update_other _ _ (Mt c)).trans q) ⟨_,e⟩ ?_;exact⟨hz,its',a,r,e⟩
def Ir:V->V->V->Hp->(Hp->Prop)->Prop:=λo i v H Q=>∃p xs k j,o = .ref p/\i = .int k/\H p=Z (.lst xs)/\vM xs.length k=Z j/\Q (upd H p (.lst (xs.set j v)))
theorem zL:wf X Ir:=by
 intro ag s σ H o i v D B u Q I x w A h;obtain⟨p,xs,k,j,rfl,rfl,l,z,q⟩:=h;cases x;obtain⟨t,rfl⟩:=w;obtain⟨a,n,r,b,y⟩:=I.lst l;obtain⟨h1,h2,m,e⟩:=sf z;have d:=r.length;have C:=mR;have f:Inv X ag σ (upd H p (.lst (xs.set j v))) {s with heap:=s.heap.update p (NV (·.setIfInBounds j u))}:=
  I.lstUpd l b (vI a n j u) (r.set A j) (by rw[aY];exact y) s.toks
 by_cases g:0<=k
 ·have c:k.toNat=j:=by
   rw[seqIndex_of g e]at h1;exact Option.some.inj h1
  exact PySem.W.ki_setAt b g (by lia) (by rw[sT1,<- d];exact e) (by rw[c];exact⟨_,f,q⟩)
 ·have c:(k+(a.toArray.size:Int)).toNat=j:=by
   rw[seqIndex_neg (by lia) m]at h1;rw[sT1,<- d];exact Option.some.inj h1
  exact PySem.W.ki_setBack b (by lia) (by rw[sT1,<- d];exact m) (by lia) (by rw[c];exact⟨_,f,q⟩)
theorem rl(lo hi:Option Int)(n:Nat):(NW lo hi Y n).1=((HT.sIx n 0 lo:Nat):Int)/\(NW lo hi Y n).2.1=((HT.sIx n n hi:Nat):Int)/\(NW lo hi Y n).2.2=1:=by
 refine⟨?_,?_,O⟩
 ·cases lo with
  |none=>simp[NW,HT.sIx]
  |some i=>
   simp only[NW,HT.sIx,Option.getD_none,show(1:Int)>0 by decide,NL];by_cases h:i<0
   ·simp only[h,NL]<;>lia
   ·simp only[h,NJ]<;>lia
 ·cases hi with
  |none=>simp[NW,HT.sIx]
  |some i=>
   simp only[NW,HT.sIx,Option.getD_none,show(1:Int)>0 by decide,NL];by_cases h:i<0
   ·simp only[h,NL]<;>lia
   ·simp only[h,NJ]<;>lia
theorem pE(its:List dM)(lo hi:Option Int):slicePick its.toArray lo hi Y=((its.drop (HT.sIx its.length 0 lo)).take (HT.sIx its.length its.length hi-HT.sIx its.length 0 lo)).toArray:=by
 obtain⟨h1,h2,a⟩:=rl lo hi its.toArray.size;unfold slicePick;rw[h1,h2,a];simp only[sliceRange_one,pick_run,sT1]<;>rfl
def KJ(K:Fg1):V->Option Int->Option Int->Hp->VK->Prop:=λx lo hi H Q=>∃a xs,x = .ref a/\nG K H a xs /\ ∀p,H p=Y->Q (.ref p) (upd H p (.lst (uI xs lo hi)))
theorem CB:B9 X (KJ X.K):=by
 intro ag s σ H x v l p lo hi m Q I f i pl k h;obtain⟨a,xs,rfl,g,q⟩:=h;cases f;obtain⟨e,r,d,j⟩:=I.list g;have c:=r.length;refine⟨"list",_,slot_list_getitem.lookup,d.isList.typeIs,?_⟩;refine wpAny_getItem_list_slice d.isList i pl k .none (by simp) ?_ (by rw[sT1]<;>lia);rw[pE,<- c];refine⟨.ref s.heap.objs.size,_,I.laid (t':=s.toks) (o:=.lst (uI xs lo hi)) (λb n q=>hP1 _ q) (nR1 _) ?_,O,q _ (I.hok.fresh (nR1 _))⟩;exact⟨aC (np xs lo hi) j,_,0,(r.drop (HT.sIx xs.length 0 lo)).take (HT.sIx xs.length xs.length hi-HT.sIx xs.length 0 lo),hS1 _ O⟩
noncomputable def kS:V->Bool
 | .non=>M
 | .bl _=>M
 | .int _=>M
 | .str _=>M
 |_=>J
noncomputable def u5:V->V->Bool
 | .non,.non=>M
 | .bl a,.bl b=>a == b
 | .bl a,.int b=>(if a then 1 else 0) == b
 | .int a,.bl b=>a == (if b then 1 else 0)
 | .int a,.int b=>a == b
 | .str a,.str b=>a == b
 |_,_=>J
theorem lc{A:dR}{s:dN}{y x:V}{u v:dM}(e:eu y u)(c:eu x v)(g:kS y=M)(f:kS x=M):NX A s u v (u5 y x):=by
 cases y with
 |non=>
  cases e;cases x with
  |non=>cases c;exact SeqAt.EqAt.same _
  |bl b=>cases c;exact SeqAt.EqAt.none_bool b
  |int b=>obtain⟨t,rfl⟩:=c;exact SeqAt.EqAt.none_int b t
  |str b=>obtain⟨t,rfl⟩:=c;exact SeqAt.EqAt.none_str b t
  |_=>exact absurd (show J=M from f) aL
 |bl a=>
  cases e;cases x with
  |non=>cases c;exact SeqAt.EqAt.bool_none a
  |bl b=>cases c;exact SeqAt.EqAt.bool_bool a b
  |int b=>obtain⟨t,rfl⟩:=c;exact SeqAt.EqAt.bool_int a b t
  |str b=>obtain⟨t,rfl⟩:=c;exact SeqAt.EqAt.bool_str a b t
  |_=>exact absurd (show J=M from f) aL
 |int a=>
  obtain⟨d,rfl⟩:=e;cases x with
  |non=>cases c;exact SeqAt.EqAt.int_none a d
  |bl b=>cases c;exact SeqAt.EqAt.int_bool a d b
  |int b=>obtain⟨t,rfl⟩:=c;exact SeqAt.EqAt.int_int a d b t
  |str b=>obtain⟨t,rfl⟩:=c;exact SeqAt.EqAt.int_str a d b t
  |_=>exact absurd (show J=M from f) aL
 |str a=>
  obtain⟨d,rfl⟩:=e;cases x with
  |non=>cases c;exact SeqAt.EqAt.str_none a d
  |bl b=>cases c;exact SeqAt.EqAt.str_bool a d b
  |int b=>obtain⟨t,rfl⟩:=c;exact SeqAt.EqAt.str_int a d b t
  |str b=>obtain⟨t,rfl⟩:=c;exact SeqAt.EqAt.str_str a d b t
  |_=>exact absurd (show J=M from f) aL
 |_=>exact absurd (show J=M from g) aL
theorem sD:fi X (.builtin "len") (λxs H Q=>∃p ys,xs=[.ref p]/\(nG X.K H p ys\/kF X.K H p ys)/\Q (.int ys.length) H):=by
 intro ag s σ H xs g Q I r h;obtain⟨p,ys,rfl,b,q⟩:=h;obtain⟨u,rfl,e⟩:=iO r;cases e;have i:=mR;rcases b with b|b
 ·obtain⟨c,d,pl,f⟩:=I.list b;have a:=d.length;exact Calls.call_len_list pl.isList (by simp only[sT1]<;>lia) ⟨.int ys.length,H,I.tok _,⟨s.toks+1,by rw[sT1,a]⟩,q⟩
 ·obtain⟨c,d,pl,f⟩:=I.tuple b;have a:=d.length;exact len_tuple pl (by simp only[sT1]<;>lia) ⟨.int ys.length,H,I.tok _,⟨s.toks+1,by rw[sT1,a]⟩,q⟩
theorem sC:fi X (.builtin "len") (λxs H Q=>∃z,xs=[.str z]/\z.length<=dW/\Q (.int z.length) H):=by
 intro ag s σ H xs a Q I r h;obtain⟨z,rfl,c,q⟩:=h;obtain⟨u,rfl,t,rfl⟩:=iO r;have b:=mR;exact len_str (by lia) ⟨.int z.length,H,I.tok _,⟨_,O⟩,q⟩
theorem sB:fi X (.type "list") (λxs H Q=>∃p ys,xs=[.ref p]/\(nG X.K H p ys\/kF X.K H p ys) /\ ∀l,H l=Y->Q (.ref l) (upd H l (.lst ys))):=by
 intro ag s σ H xs w Q I r h;obtain ⟨p,ys,rfl,f,q⟩:=h;obtain ⟨u,rfl,v⟩:=iO r;cases v;have g:∀ (a:List dM),eG ys a->ys.length<=dW -> ∀ (h':dZ) (c:Nat),(∀ b o',s.heap.get? b=some o'->h'.get? b=some o') ->
   h'.get? s.heap.objs.size=Z {cls:=.type "list",dict:=Y,data:=.seq a.toArray c,slots:= #[]}->EP X ag σ Q (.ref s.heap.objs.size) {s with heap:=h'}:=λa d j h' c i e=>
  ⟨.ref s.heap.objs.size,_,I.laid (t':=s.toks) i (nR1 _) (show fb X.prog X.w _ h' _ (.lst ys)from⟨j,a,c,d,e⟩),O,q _ (I.hok.fresh (nR1 _))⟩
 rcases f with f|f
 ·obtain⟨a,d,pl,j⟩:=I.list f;have k:=d.length;obtain⟨o,m,hc,n,t⟩:=pl.isList;exact call_list_seq p (.inl O) m hc t (λh' c i e=>g a d j h' c i e) (by simp only[sT1]<;>lia)
 ·obtain⟨a,d,pl,j⟩:=I.tuple f;have k:=d.length;obtain⟨o,m,hc,n,t⟩:=pl;exact call_list_seq p (.inr O) m hc t (λh' c i e=>g a d j h' c i e) (by simp only[sT1]<;>lia)
theorem pQ:fi X (.type "tuple") (λxs H Q=>∃p ys,xs=[.ref p]/\((nG X.K H p ys /\ ∀l,H l=Y->Q (.ref l) (upd H l (.tup ys)))\/(kF X.K H p ys/\Q (.ref p) H))):=by
 intro ag s σ H xs n Q I r h;obtain⟨p,ys,rfl,h⟩:=h;obtain⟨u,rfl,j⟩:=iO r;cases j;rcases h with⟨c,q⟩|⟨c,q⟩
 ·obtain ⟨a,d,pl,g⟩:=I.list c;have i:=d.length;refine call_tuple_list pl.isList (fun h' m=>?_) (by simp only [sT1]<;>lia);have f:Inv X ag σ H {s with heap:=h'}:=I.kept (t':=s.toks) m;have k:Inv X ag σ (upd H h'.objs.size (.tup ys)) {s with heap:=h'.push {cls:=.type "tuple",data:=.seq a.toArray}}:=
   f.laid (t':=s.toks) (λb o e=>hP1 _ e) (nR1 _) (show fb X.prog X.w _ _ _ (.tup ys)from⟨g,a,d,IsTup.new _ _⟩)
  exact⟨.ref h'.objs.size,_,k,O,q _ (f.hok.fresh (nR1 _))⟩
 ·obtain⟨a,d,pl,g⟩:=I.tuple c;exact call_tuple_same pl ⟨.ref p,H,I,O,q⟩
def Ln(K:Fg1)(T:String)(x:V)(H:Hp):Prop:=match x with
 | .str _=>T="str"
 | .int _=>T="int"
 | .ref p=>(T="list" /\ ∃ xs,nG K H p xs)\/(T="tuple" /\ ∃ o,K.lookup p=some o/\o.cls = .type "tuple"/\o.dict=none) \/
   (T="dict"/\((∃kvs,H p=Z (.dK kvs)) \/ ∃kvs,H p=Z (.dT kvs)))\/(T="set" /\ ∃S n,H p=Z (.set S n))
 |_=>False
theorem E1{ag:List (dP×Obj)}{σ:St}{H:Hp}{s:dN}{T:String}{x:V}{v:dM}(I:Inv X ag σ H s)(r:eu x v)(ty:Ln X.K T x H):
  s.TypeIs v T /\ ∀a,v = .ref a -> ∃g,s.heap.get? a=Z g/\g.dict=Y:=by
 cases x with
 |str z=>
  obtain⟨t,rfl⟩:=r;cases(show T="str" from ty);exact⟨typeIs_str s z t,λ_ e=>nomatch e⟩
 |int i=>
  obtain⟨t,rfl⟩:=r;cases(show T="int" from ty);exact⟨typeIs_int s i t,λ_ e=>nomatch e⟩
 |ref p=>
  cases r;rcases ty with⟨rfl,xs,j⟩|⟨rfl,o,b,hc,d⟩|⟨rfl,b⟩|⟨rfl,S,n,b⟩
  ·obtain⟨h,_,pl,_⟩:=I.list j;refine⟨pl.isList.typeIs,λa e=>?_⟩;cases e;obtain⟨o,n,e,c,d,_⟩:=pl;exact⟨o,e,d⟩
  ·refine⟨⟨o,I.kIn p o b,hc⟩,λa e=>?_⟩;cases e;exact⟨o,I.kIn _ o b,d⟩
  ·have z:∃ o,s.heap.get? p=some o/\o.ExactDict:=by
    rcases b with⟨kvs,b⟩|⟨kvs,b⟩
    ·obtain⟨_,_,_,_,o,_,_,e,ex,_⟩:=I.hok p _ b;exact⟨o,e,ex⟩
    ·obtain⟨_,_,_,_,o,_,_,e,ex,_⟩:=I.hok p _ b;exact⟨o,e,ex⟩
   obtain⟨o,e,ex⟩:=z;refine⟨⟨o,e,ex.1⟩,λa f=>?_⟩;cases f;exact⟨o,e,ex.2.1⟩
  ·obtain⟨o,_,_,_,e,ex,_⟩:=I.hok p _ b;refine⟨⟨o,e,ex.1⟩,λa f=>?_⟩;cases f;exact⟨o,e,ex.2.1⟩
 |_=>exact MX ty
def LY(K:Fg1)(T:String)(r:V->List V->Hp->VK->Prop)(to:TE)(t:TA):TE:=fun σ H Q=>to σ H λx H1=>Ln K T x H1/\t σ H1 λxs H2=>r x xs H2 Q
variable{o e:Expr}{es:List Expr}{to:TE}{t:TA}{name:Str}{apos cpos:Pos}{T id:String}{r:V->List V->Hp->VK->Prop}
theorem ID (k:PlainAttrs T)(slot:Slot T name id)(hty:typeOf (.builtin id)=pure (.type "method_descriptor"))(hm:HM X id r)(ho:PE X o to)(ha:PA X (e::es) t)
  (hbase:autoParam (NY o name X.env (eval o X.env)=eval o X.env) au0)
  (hfew:autoParam (((MR cpos (dV (e::es) X.env)).all (λx=> !x.1)&&(backToKw cpos (NZ [] X.env)).all (λx=>x.1.isSome)
   && decide ((e::es).length+([]:List Ny).length+(if([]:List Ny).isEmpty then 0 else 1)<30))=M) au0)
  (hline:autoParam ((apos.endLine == cpos.line)=M) au0) (hs:autoParam (dV (e::es) X.env=(J,eval e X.env)::dV es X.env) au0) (hplain:autoParam ((MR cpos (dV es X.env)).any (·.1)=J) au0):
  PE X (.Call (.Attribute o name apos) (e::es) [] cpos) (LY X.K T r to t):=by
 intro ag s σ H Q I h;refine wpAny_Call_method_late hbase hfew hline O (fr (ho ag s σ H _ I h) λv f ⟨x,H1,a,b,ty,d⟩=>?_);obtain⟨h1,h2⟩:=E1 a b ty;refine⟨T,id,k,slot,hty,h1,h2,?_⟩;have c:=ha cpos ag f σ H1 _ a d;rw[hs]at c ⊢;refine N0 (by show(J||(MR cpos (dV es X.env)).any (·.1))=J;rw[hplain]<;>rfl) (N1 ?_);exact fr c λi l ⟨vs,H2,g,r2,j⟩=>hm ag l σ H2 x vs v i Q g b r2 j
end
def LH(X:Cx)(id:String)(r:V->List V->Hp->VK->Prop):Prop:=
 ∀(ag:List (dP×Obj)) (s:dN) (σ:St) (H:Hp) (x:V) (xs:List V) (v:dM) (us:List dM) (Q:VK),Inv X ag σ H s->eu x v->eG xs us->r x xs H Q ->
  dX (Mw X.prog X.w) X.A (call (.builtin id) (v::us)) (EP X ag σ Q) X.xe s
theorem eG.one:∀{x:V} {a:List dM},eG [x] a -> ∃u,a=[u]/\eu x u:=by
 intro x a h;cases h with
 |cons r t=>cases t;exact⟨_,O,r⟩
theorem eG.eraseIdx:∀{xs:List V} {a:List dM} (i:Nat),eG xs a->eG (xs.eraseIdx i) (a.eraseIdx i)
 |_,_,_,.nil=>.nil
 |_,_,0,.cons _ t=>t
 |_,_,i+1,.cons r t=>.cons r (eG.eraseIdx i t)
theorem qg{α:Type}:∀(l:List α) (i:Nat),(l.eraseIdx i).length<=l.length
 |[],_=>nR1 _
 |_::_,0=>aZ _
 |_::r,i+1=>Nat.succ_le_succ (qg r i)
section
variable{ag:List (dP×Obj)}{σ:St}{H:Hp}{s:dN}{l b:dP}{xs ys zs:List V}
theorem Inv.lset {its its':List dM}{n:Nat}{f:Array dM->Array dM}{t':Nat}(I:Inv X ag σ H s)(a:H l=some (.lst xs))
  (e:s.heap.get? l=Z {cls:=.type "list",data:=.seq its.toArray n}) (hf:f its.toArray=its'.toArray) (hv:eG ys its') (hz:ys.length<=dW):
  Inv X ag σ (upd H l (.lst ys)) {s with heap:=s.heap.update l (NV f),toks:=t'}:=by
 have q:=PySem.IsL.update e f;rw[hf]at q;refine I.write (x:=l) (e:=l) (by rw[a];exact trivial) (.inl O) (λd u b c=>(Heap.get?_update_other s.heap (NV f) (Mt b)).trans c) ⟨_,q⟩ ?_;exact⟨hz,its',_,hv,q⟩
theorem Inv.lnew{its:List dM}{t':Nat}(I:Inv X ag σ H s)(hv:eG ys its)(hz:ys.length<=dW):
  Inv X ag σ (upd H s.heap.objs.size (.lst ys)) {s with heap:=s.heap.push {cls:=.type "list",data:=.seq its.toArray},toks:=t'}:=
 I.laid (λ_ _ q=>hP1 _ q) (nR1 _) ⟨hz,its,0,hv,hS1 _ O⟩
theorem Inv.fresh(I:Inv X ag σ H s):H s.heap.objs.size=Y:=I.hok.fresh (nR1 _)
theorem Inv.lstM(I:Inv X ag σ H s)(a:H l=Z (.lst xs)):xs.length<=dW /\ ∃(its:List dM) (n:Nat),eG xs its/\xs.length=its.length/\s.heap.get? l=Z {cls:=.type "list",data:=.seq its.toArray n}:=by
 obtain⟨z,its,n,r,e⟩:=I.hok l _ a;exact⟨z,its,n,r,r.length,e⟩
end
def CK:V->List V->Hp->VK->Prop:=λx vs H Q=>∃l xs y,x = .ref l/\vs=[y]/\H l=Z (.lst xs)/\xs.length<dW/\Q .non (upd H l (.lst (xs++[y])))
theorem p9:LH X "list.append" CK:=by
 intro ag s σ H x vs v g Q I c f h;obtain⟨l,xs,y,rfl,rfl,b,i,q⟩:=h;cases c;obtain⟨u,rfl,d⟩:=f.one;obtain⟨z,a,n,r,j,e⟩:=I.lstM b;refine call_meets F.slot_list_append ⟨_,e,O⟩ F.entry_list_append (F.args_list_append_2 _ _) (PySem.list_append l a.toArray n u (by rw[sT1];lia)) ⟨e,?_⟩;refine⟨.non,_,I.lset (its':=a++[u]) b e (by simp) (r.append (.cons d .nil)) ?_,O,q⟩;rw[lA1,a0];lia
def FH:V->List V->Hp->VK->Prop:=λx vs H Q=>∃l xs i k y,x = .ref l/\vs=[.int i]/\H l=Z (.lst xs) /\ -(2^63)<=i/\i<2^63/\seqIndex? i xs.length=Z k/\xs[k]?=Z y/\Q y (upd H l (.lst (xs.eraseIdx k)))
theorem AC:LH X "list.pop" FH:=by
 intro ag s σ H x vs v A Q I f o h;obtain⟨l,xs,i,k,y,rfl,rfl,c,h1,h2,g,d,q⟩:=h;cases f;obtain⟨u,rfl,m⟩:=o.one;obtain⟨t,rfl⟩:=m;obtain⟨z,a,n,r,j,e⟩:=I.lstM c;obtain⟨w,p,b⟩:=r.get d;refine call_meets F.slot_list_pop ⟨_,e,O⟩ F.entry_list_pop (F.args_list_pop_2 _ _)
  (MeetsSeq.list_pop_at l a.toArray n i t k w (fitsIndex_both h1 h2) (by rw[sT1,<- j];exact g) (by rw[<- aT1];exact p) (by rw[sT1];lia)) ⟨e,?_⟩
 refine⟨y,_,I.lset (its':=a.eraseIdx k) c e ?_ (r.eraseIdx k) ?_,b,q⟩
 ·show a.toArray.eraseIdxIfInBounds k=(a.eraseIdx k).toArray;rw[List.eraseIdxIfInBounds_toArray]
 ·have:=qg xs k;lia
def KN:R2:=λx y H Q=>∃l b xs zs,x = .ref l/\y = .ref b/\H l=Z (.lst xs)/\H b=Z (.lst zs)/\xs.length+zs.length<=dW /\ ∀p,H p=Y->Q (.ref p) (upd H p (.lst (xs++zs)))
theorem Gk:gJ X (Nm .Add) KN:=by
 intro ag s σ H x y v u Q I g f h;obtain⟨l,b,xs,zs,rfl,rfl,j,m,p,q⟩:=h;cases g;cases f;obtain⟨z,c,n,r,w,e⟩:=I.lstM j;obtain⟨o,a,t,r2,i,k⟩:=I.lstM m;refine PySem.P.add_list e k ?_ (by rw[sT1,sT1];lia);have d:c.toArray++a.toArray=(c++a).toArray:=by simp
 rw[d];exact⟨.ref _,_,I.lnew (t':=s.toks) (r.append r2) (by rw[lA1];lia),O,q _ I.fresh⟩
section
variable{prog:dQ}{w:dS}{A:dR}{E:dM->dN->Prop}{s:dN}
end
end L2
namespace Att
open PySem PySem.W PySem.Calls PyProof.Rows
theorem nD{P:Params}{h:dZ}:∀(ns:List Int) (vs:List dM),WellAll P h vs (ns.map WData.int)->N2 vs ns:=by
 intro ns
 induction ns with
 |nil=>
  intro vs w;rw[bc]at w;cases w;exact .nil
 |cons n ns ih=>
  intro vs w;rw[mP1]at w;cases w with
  |cons a b=>
   cases a;exact .cons _ _ (ih _ b)
theorem xY{l:OpenLaw}{n:Nat}(hn:l.most=some n){P:Params}{h:dZ}{args:List WData}{b:List dM}(c:l.row.toRowW.claim.pre args=true)(j:WellAll P h b args):
  ∃a vs ns,b=[D4 a]/\args=[WData.list (ns.map WData.int)]/\h.get? a=Z {cls:=.type "list",data:=.seq vs.toArray}/\N2 vs ns/\ns.length<=n:=by
 have k:WShape.hasAll [] args [.list .int]=M:=(pre_splitW c).1;have hc:l.pre.holds [] {args:=args}=M:=(pre_splitW c).2;obtain⟨d,r,rfl,h1,h2⟩:=hasAllW_cons k;obtain rfl:=hasAllW_nil h2;obtain⟨xs,rfl,t⟩:=hasW_list h1;obtain⟨ns,rfl⟩:=items_int t;have f:ns.length<=n:=by
  unfold OpenLaw.pre at hc;have g:(WTm.not (.lt (.lit (.int (n:Int))) (.len (.arg 0)))).holds [] {args:=[.list (ns.map .int)]}=M:=by
   have g:=(holds_andW hc).1;rw[hn]at g;exact g
  have i:=condW_of g (w_not (w_lt w_lit (w_len_list (w_arg O))));rw[lM1]at i;refine Nat.le_of_not_lt λq=>?_;have p:(n:Int)<((ns.length:Nat):Int):=by omega
  first
   |(rw[ah p]at i;exact absurd i (by decide))
   |(simp at i;omega)
 cases j with
 |cons m s=>
  cases s;cases m with
  |list o e=>exact⟨_,_,ns,O,O,o,nD ns _ e,f⟩
theorem ya(l:OpenLaw)(args:List WData):l.row.toRowW.claim.post args (.bool M) args=M:=
 postW_of (r:=l.row.toRowW) (X:=(M == M))
  (show WShape.has [] (.bool M) .bool=M by first|rfl|decide|simp[WShape.has,WShape.arms,WShape.armsAll])
  (show(WTm.eq .res (.lit (.bool M))).value [] {args:=args,res:=Z (.bool M),after:=args}=Z (.bool (M == M))from w_eq_bool (w_res O) w_lit) O
theorem attach_call {l:OpenLaw}{n:Nat}{q:dQ}{e:List Str}{XP:(Str->Option dM)->dZ->Prop}{C:dS->dZ->Prop}{d:DefRec}
  (hn:l.most=Z n) (t:d.params.defaults=[])
  (call:∀(w:dS) (c b:dN) (mg u:Str->Option dM) (k:dP) (o:Obj) (v cd g:dM) (a:dP) (vs:List dM) (ns:List Int),
   Ground q e [] XP w c mg u b.heap->C w b.heap ->
   b.heap.get? k=Z o->o.data = .func (docDef d.name d.params d.body d.scope v cd g)->b.heap.CodeRec cd d.name->mg d.name=Z (.ref k) ->
   b.heap.get? a=Z {cls:=.type "list",data:=.seq vs.toArray}->N2 vs ns->ns.length<=n->b.gens = #[] ->
   dY (Mw l.prog w) callerA (.call (.ref k) ⟨[.ref a],[]⟩) (λr s'=>r = .ok (.ret (.bool M))/\OldK b.heap s'.heap/\s'.os=b.os/\L6 s'.gens) b):
  WalkO q e XP C l.row.toRowW d [] (λf vs=>PySem.call f vs):=by
 intro w c b mg u G aq k o v cd g H kV L ao s z p F y B as m A D x K;obtain rfl:H = .none:=Dflts.none z t;obtain rfl:kV = .none:=Dflts.noKw z;obtain⟨a,vs,ns,rfl,rfl,i,h,j⟩:=xY hn m x;refine enter_call (Nx (call w c b mg u k o v cd g a vs ns G aq L (fd_plain ao) s p i h j F) λr s' E=>?_);obtain⟨rfl,h2,N,am⟩:=E;exact⟨.inl ⟨.bool M,.bool M,[],O,λ_=>rfl,.bool M,ya l _,λ_=>⟨List.Pairwise.nil,λ_ I=>(nomatch I)⟩⟩,h2,N,am⟩
section
variable{prog:dQ}{w:dS}{A:dR}{E:dM->dN->Prop}{s:dN}{K:Frag}
end
end Att
namespace L2
open PySem PySem.Spec PyProof.Rows
theorem xS:∀{vs:List dM} {ns:List Int},N2 vs ns->eG (ns.map V.int) vs:=by
 intro vs ns h
 induction h with
 |nil=>exact .nil
 |cons n t h ih=>exact .cons ⟨t,O⟩ ih
def Eo(H:Hp):Prop:=∀b,H b=Y \/ ∃o xs,H b=Z (.frz o (.lst xs))
theorem A6 {P:dQ}{w:dS}{K:Fg1}{mg I:Str->Option dM}{CX:yU}{k:Nat}{L a:dP}{fd:d2}{x:Str}{sp:Sp}{s₁:dN}{vs:List dM}{ns:List Int}
  (R:K.In s₁.heap) (t:s₁.heap.Ns dU mg) (hb:s₁.heap.Ns builtinsNs I) (D:∀x:Str,x≠"__name__"->I x=L5 x) (A:s₁.heap.NoLimit) (hg:s₁.gens = #[])
  (ha:s₁.heap.get? a=Z {cls:=.type "list",data:=.seq vs.toArray}) (hi:N2 vs ns) (S:ns.length<=dW) (hr:gl k callerA)
  (F:∀base:dZ,K.In base->base.Ns dU mg->m3 P w K mg base CX k L fd [x] sp) (g:∀(s:dN) (u:dM),BindsTo s fd ⟨[u],[]⟩ [(x,u)])
  (C:∀H:Hp,Eo H->nG K H a (ns.map V.int)->sp [.ref a] H (λv _=>v = .bl M) λ_ _ _=>False)
  (am:∀H e s',CX [] H s₁ (λ_ _ _=>False) e s'->False):
  dY (Mw P w) callerA (.call (.ref L) ⟨[.ref a],[]⟩) (λr s'=>r = .ok (.ret (.bool M))/\OldK s₁.heap s'.heap/\s'.os=s₁.os/\L6 s'.gens) s₁:=by
 have N:=xS hi;have y:=hi.length
 -- from an abstract heap in which nothing but the script may be tracked
 have f:∀ H:Hp,Eo H->nG K H a (ns.map V.int)->lj P w H s₁.heap->(∀ b,H b≠none->b=a)->(H a≠none->K.lookup a=none) ->
   dY (Mw P w) callerA (.call (.ref L) ⟨[.ref a],[]⟩) (λr s'=>r = .ok (.ret (.bool M))/\OldK s₁.heap s'.heap/\s'.os=s₁.os/\L6 s'.gens) s₁:=by
  intro H Q hS B ao T;have base_of:∀{b:dP} {o:Obj},s₁.heap.get? b=Z o->H b=Y->(sj s₁.heap H).get? b=Z o:=λe n=>Bo e n;have G:∀{b:dP} {o:Obj} {es:Array N3} {ep:Nat},s₁.heap.get? b=Z o->o.data = .dict es ep->H b=Y:=λ{b o es ep} e d=>by
   cases q:H b with
   |none=>rfl
   |some u=>
    have E:b=a:=ao b (by rw[q];simp);subst E;rw[ha]at e;cases e;have wq:Data.seq vs.toArray _=Data.dict es ep:=d;cases wq
  have c:∀{b:dP} {m:Str->Option dM},s₁.heap.Ns b m->(sj s₁.heap H).Ns b m:=λ{b m} ⟨o,es,ep,e,d,r⟩=>⟨o,es,ep,base_of e (G e d),d,r⟩;have j:K.In (sj s₁.heap H):=λb o e=>base_of (R b o e) (by
   cases q:H b with
   |none=>rfl
   |some u=>
    have E:b=a:=ao b (by rw[q];simp);subst E;rw[T (by rw[q];simp)]at e;cases e)
  have X:Mod K mg (sj s₁.heap H):=⟨j,c t,⟨I,c hb,D⟩,let ⟨mc,h1,h2⟩:=A;⟨mc,c h1,h2⟩⟩;have e0:Er P w K mg (sj s₁.heap H) callerA [] s₁ H:=⟨O,X,λb o e=>Db e,Nat.le_of_eq (yA _ _),trivial,λb hb=>absurd (show b∈([]:List dP)from hb) (by simp),B,.of_eq hg⟩;refine Nx ((F _ j (c t)).run callerA [] s₁ H ⟨[.ref a],[]⟩ [.ref a] [.ref a] _ _ hr e0 (g s₁ (.ref a)) (.cons O .nil) (C H Q hS)) λr s' h=>?_;cases r with
  |error e=>exact(am H e s' h).elim
  |ok aq=>
   cases aq with
   |next=>exact MX h
   |brk=>exact MX h
   |cont=>exact MX h
   |ret u=>
    obtain⟨v,H',os,p,un,i,r',q⟩:=h;have U:v = .bl M:=q;subst U;obtain rfl:u=ae true:=r';refine⟨O,OldK.of_keep λb o e=>?_,os,p⟩;cases q:H b with
    |none=>exact un.keep b o e q (by intro z;exact absurd (show b∈([]:List dP)from z) (by simp)) (by simp)
    |some u=>
     rcases Q b with z|⟨ob,xs,z⟩
     ·rw[q]at z;cases z
     ·have z2:=un.frzs b ob _ z;obtain⟨au,_⟩:=B b _ z;obtain⟨W,_⟩:=i b _ z2;rw[e]at au;cases au;exact W
 cases hk:K.lookup a with
 |some o=>
  -- the script is one of the module's own objects
  have e:=R a o hk;rw[ha]at e;cases e;refine f (λ_=>Y) (λ_=>.inl O) (.inr ⟨_,vs.toArray,_,hk,O,O,O,by rw[sT1,y];exact S,by simpa using N⟩) (λb u z=>by have l:(Y:Option HO)=Z u:=z;cases l) (λb z=>absurd O z) λz=>absurd O z
 |none=>
  refine f (λb=>if b=a then Z (.frz {cls:=.type "list",data:=.seq vs.toArray} (.lst (ns.map V.int)))else Y) (λb=>?_) (.inl (.inr ⟨{cls:=.type "list",data:=.seq vs.toArray},ak O⟩)) (λb u z=>?_) (λb z=>?_) λ_=>hk
  ·by_cases hb:b=a
   ·exact .inr ⟨_,_,ak hb⟩
   ·exact .inl (aj hb)
  ·by_cases hb:b=a
   ·have l:=(ak hb).symm.trans z;cases l;subst hb;exact⟨ha,by rw[lM1];exact S,vs,_,N,ha⟩
   ·have l:=(aj hb).symm.trans z;cases l
  ·by_cases hb:b=a
   ·exact hb
   ·exact absurd (aj hb) z
theorem Cm{l:PySem.W.OpenLaw}{n k:Nat}{q:dQ}{c:List Str}{XP:(Str->Option dM)->dZ->Prop}{C:dS->dZ->Prop}{d:DefRec}{K:Params->Fg1}{CX:dS->yU}{sp:dS->Sp}{x:Str}(hn:l.most=some n)(z:n<=dW)(t:d.params.defaults=[])(hr:gl k callerA)(L:∀(w:dS) (h:dZ),C w h->(K w.params).In h)(F:∀(w:dS) (mg:Str->Option dM) (m:dP) (h:dZ),(K w.params).In h->h.Ns dU mg->mg d.name=some (.ref m) ->
   ∃fd:d2,(∀(s:dN) (u:dM),BindsTo s fd ⟨[u],[]⟩ [(x,u)]) /\
    ∀base:dZ,(K w.params).In base->base.Ns dU mg->m3 l.prog w (K w.params) mg base (CX w) k m fd [x] (sp w))(p:∀(w:dS) (H:Hp) (a:dP) (ns:List Int),ns.length<=n->Eo H->nG (K w.params) H a (ns.map V.int)->sp w [.ref a] H (λv _=>v = .bl M) λ_ _ _=>False)(y:∀(w:dS) (H:Hp) (s:dN) (e:dM) (s':dN),CX w [] H s (λ_ _ _=>False) e s'->False):
  PySem.W.WalkO q c XP C l.row.toRowW d [] (λf vs=>PySem.call f vs):=by
 refine Att.attach_call hn t λw A i mg P m o Q cd au a vs ns G aq R S I r j g b am=>?_;have B:=L w _ aq;obtain⟨fd,D,E⟩:=F w mg m _ B G.T.g r;exact A6 B G.T.g G.T.b G.T.builtins G.T.nolimit am j g (aC b z) hr E D (λH N ao=>p w H a ns b N ao) λH e s'=>y w H i e s'
noncomputable def iK(s:d3):Arguments:=match s with
 | .FunctionDef _ a _ _ _ _ _ _ _ _=>a
 |_=>{posonlyargs:=[],args:=[],vararg:=Y,kwonlyargs:=[],kw_defaults:=[],kwarg:=Y,defaults:=[]}
noncomputable def fK(s:d3):List d3:=match s with
 | .FunctionDef _ _ b _ _ _ _ _ _ _=>b
 |_=>[]
noncomputable def eB(s:d3):d4:=match s with
 | .FunctionDef _ _ _ _ _ _ sc _ _ _=>sc
 |_=>{kind:=.function,names:=[],isGenerator:=J,isCoroutine:=J}
abbrev uY:yU:=λ_ _ _ _ _ _=>False
abbrev E0:XK:=λ_ _ _=>False
theorem IF{X:Cx}:we uY X E0:=λ_ _ _ _ _ _ _ h=>h.elim
structure xK (K:Fg1)(x qual:Str)(st:d3)(f:dP)(fd:d2):Prop where
 ex:∃(oc:dM) (od:Option dP) (kV doc pm:dM) (an:Option dP) (cdv ct:dM) (osl:Array (Option dM)),
  fd=wF1 x qual (iK st) (fK st) (eB st) .none kV doc pm an cdv ct/\K.lookup f=some ⟨oc,od,.func fd,osl⟩/\wC1 K cdv qual=true
 kp:wK1 K (.ref f)=true
section
variable{P:dQ}{w:dS}{K:Fg1}{mg:Str->Option dM}{base:dZ}
theorem xK.ok{x b:Str}{st:d3}{f:dP}{fd:d2}{N ps:List Str}{k:Nat}{sp:Sp}(F:xK K x b st f fd)(S:gR N ps (eB st))(len:∀ vs H Q E,sp vs H Q E->vs.length=ps.length)(d:∀(c:dM) (A:dR) (a:List Env) (s:dN) (H:Hp) (vs:List V) (Q:VK) (E:XK),gl k (A.deeper (NA b (eB st) s.heap.objs.size f c))->sp vs H Q E ->
   ∃t,u8 (nE uY P w K mg base N b (eB st) f c A a s H E).nox (fK st) t/\t {nx:=λ_ H'=>Q .non H',rt:=Q} (jA N vs) H):m3 P w K mg base uY (k+1) f fd ps sp:=by
 obtain⟨p,n,kV,j,r,o,c,ct,m,rfl,l,g⟩:=F.ex;refine Js l g S len λA a s H vs Q E i e=>?_;obtain⟨t,h,q⟩:=d c A a s H vs Q E i e;exact⟨t,h.nox,q⟩
theorem xK.binds{x a:Str}{st:d3}{f:dP}{fd:d2}{ps:List Str}(F:xK K x a st f fd)(h:∀(kV b e:dM) (d:Option dP) (c ct:dM) (g:List dM),g.length=ps.length->bindArgs (wF1 x a (iK st) (fK st) (eB st) .none kV b e d c ct) ⟨g,[]⟩=pure (ps.zip g)):kb K fd ps []:=by
 obtain⟨l,k,kV,b,e,d,c,ct,j,rfl,m,i⟩:=F.ex;exact .all (h kV b e d c ct)
theorem Bw{x a:Str}{st:d3}{f:dP}{j:dM}{i g:Option dP}{e:Array (Option dM)}{kV d h b ct:dM}(l:K.lookup f=Z ⟨j,i,.func (wF1 x a (iK st) (fK st) (eB st) .none kV d h g b ct),e⟩)(c:wC1 K b a=M)(k:wK1 K (.ref f)=M):xK K x a st f (wF1 x a (iK st) (fK st) (eB st) .none kV d h g b ct):=⟨⟨j,i,kV,d,h,g,b,ct,e,O,l,c⟩,k⟩
end
variable{X:Cx}
theorem pv (i:Nat){x:Str}{pos:Pos}(hN:autoParam (X.N[i]? = some x) au0)(hv:autoParam (Vis X.env.scope x) au0)(hd:autoParam ((x == ("__debug__":Str))=false) bu0)
  (hcd:autoParam ((x == ("__classdict__":Str))=J) bu0):PE X (.Name x pos) (H0 i):=Ai hN hv hd hcd
section
variable{κ:Type} [DecidableEq κ]
noncomputable def hA(kvs:List (κ×V))(k:κ):Option V:=(kvs.find? λkv=>decide (kv.1=k)).map (·.2)
noncomputable def hO(kvs:List (κ×V))(k:κ)(v:V):List (κ×V):=
 if(kvs.any λkv=>decide (kv.1=k))=M then kvs.map (λkv=>if kv.1=k then(kv.1,v)else kv)else kvs++[(k,v)]
theorem nY{p:κ×V}{r:List (κ×V)}{k:κ}(e:p.1=k):hA (p::r) k=Z p.2:=by simp[hA,bd,e]
theorem nZ{p:κ×V}{r:List (κ×V)}{k:κ}(e:¬ p.1=k):hA (p::r) k=hA r k:=by simp[hA,bd,e]
theorem sY(k:κ):∀kvs:List (κ×V),(kvs.any λa=>decide (a.1=k))=(hA kvs k).isSome
 |[]=>rfl
 |p::r=>by
  rw[bf];by_cases e:p.1=k
  ·simp only[nY e,ah e,Bool.true_or,Option.isSome_some]
  ·rw[nZ e,ai e,Bool.false_or];exact sY k r
theorem iI(kvs:List (κ×V))(k:κ)(v:V):(hO kvs k v).length<=kvs.length+1:=by
 unfold hO;split
 ·rw[lM1];lia
 ·rw[lA1,lC1,bg];lia
theorem lg.isSome_eq{o:Option V}{u:Option dM}(r:lg o u):o.isSome=u.isSome:=by
 cases o with
 |none=>cases u with
  |none=>rfl
  |some _=>exact(show False from r).elim
 |some _=>cases u with
  |none=>exact(show False from r).elim
  |some _=>rfl
theorem lg.getD{o:Option V}{u:Option dM}{d:V}{d':dM}(r:lg o u)(a:eu d d'):eu (o.getD d) (u.getD d'):=by
 cases o with
 |none=>cases u with
  |none=>exact a
  |some _=>exact(show False from r).elim
 |some _=>cases u with
  |none=>exact(show False from r).elim
  |some _=>exact r
theorem KV.val{kvs:List (κ×V)}{vs:List (κ×dM)}(r:KV kvs vs)(k:κ):lg (hA kvs k) (N4 vs k):=by
 unfold KV at r
 induction r with
 |nil=>exact Nu
 | @cons p q ps c h t ih=>
  obtain⟨h1,h2⟩:=h;by_cases e:p.1=k
  ·have a:q.1=k:=h1.symm.trans e;have b:N4 (q::c) k=Z q.2:=by simp[N4,bd,a]
   rw[nY e,b];exact h2
  ·have a:¬ q.1=k:=λz=>e (h1.trans z);have b:N4 (q::c) k=N4 c k:=by simp[N4,bd,a]
   rw[nZ e,b];exact ih
theorem KV.any{kvs:List (κ×V)}{vs:List (κ×dM)}(r:KV kvs vs)(k:κ):(kvs.any λa=>decide (a.1=k))=vs.any λa=>decide (a.1=k):=by
 unfold KV at r
 induction r with
 |nil=>rfl
 |cons h t ih=>rw[bf,bf,ih,h.1]
theorem KV.repl{kvs:List (κ×V)}{vs:List (κ×dM)}(r:KV kvs vs)(k:κ){y:V}{u:dM}(b:eu y u):
  KV (kvs.map λa=>if a.1=k then(a.1,y)else a) (vs.map λa=>if a.1=k then(a.1,u)else a):=by
 unfold KV at r ⊢
 induction r with
 |nil=>exact .nil
 | @cons p q ps c h t ih=>
  rw[mP1,mP1];refine .cons ?_ ih;obtain⟨h1,h2⟩:=h;by_cases e:p.1=k
  ·rw[ak e,ak (h1.symm.trans e)];exact⟨h1,b⟩
  ·rw[aj e,aj (λz=>e (h1.trans z))];exact⟨h1,h2⟩
theorem KV.put{kvs:List (κ×V)}{vs:List (κ×dM)}(r:KV kvs vs)(k:κ){y:V}{u:dM}(a:eu y u):KV (hO kvs k y) (stored vs k u):=by
 unfold hO stored;rw[r.any k];by_cases e:(vs.any λb=>decide (b.1=k))=M
 ·rw[ak e,ak e];exact r.repl k a
 ·rw[aj e,aj e];exact Paired.snoc r ⟨O,a⟩
theorem KV.length{kvs:List (κ×V)}{vs:List (κ×dM)}(r:KV kvs vs):kvs.length=vs.length:=Paired.length r
end
theorem oM{P:dQ}{w:dS}{k:Key}{u:dM}(r:eu (kV k) u):(fe P w).is k u=M:=by
 cases k with
 |inl i=>obtain⟨t,e⟩:=(show∃t,u=aa i t from r);subst e;exact t7 P w i t
 |inr x=>obtain⟨t,e⟩:=(show∃t,u=Value.str x t from r);subst e;exact t6 P w x t
theorem qi{P:dQ}{w:dS}:∀{ks:List Key} {a:List dM},eG (ks.map kV) a->ItemsAre (fe P w) ks a
 |[],_,r=>by rw[bc]at r;cases r;exact .nil
 |k::ks,_,r=>by
  rw[mP1]at r;cases r with
  |cons h t=>exact .cons (oM h) (qi t)
abbrev KT(H:Hp):List (List Key×V)->List (List Key×dP×dM)->Prop:=Paired λp q=>p.1=q.1/\H q.2.1=Z (.tup (p.1.map kV))/\eu p.2 q.2.2
theorem KT.val{H:Hp}{kvs:List (List Key×V)}{xs:List (List Key×dP×dM)}(r:KT H kvs xs)(k:List Key):lg (hA kvs k) ((N5 xs k).map (·.2)):=by
 induction r with
 |nil=>exact Nu
 | @cons p q ps c h t ih=>
  obtain⟨h1,_,h2⟩:=h;by_cases e:p.1=k
  ·have a:q.1=k:=h1.symm.trans e;have b:N5 (q::c) k=Z q.2:=by simp[N5,bd,a]
   rw[nY e,b];exact h2
  ·have a:¬ q.1=k:=λz=>e (h1.trans z);have b:N5 (q::c) k=N5 c k:=by simp[N5,bd,a]
   rw[nZ e,b];exact ih
theorem KT.repl{H:Hp}{kvs:List (List Key×V)}{xs:List (List Key×dP×dM)}(r:KT H kvs xs)(k:List Key){y:V}{u:dM}(c:eu y u):
  KT H (kvs.map λa=>if a.1=k then(a.1,y)else a) (xs.map (putAt k u)):=by
 induction r with
 |nil=>exact .nil
 | @cons p q ps d h t ih=>
  rw[mP1,mP1];refine .cons ?_ ih;obtain⟨h1,h2,b⟩:=h;unfold putAt;by_cases e:p.1=k
  ·rw[ak e,ak (h1.symm.trans e)];exact⟨h1,h2,c⟩
  ·rw[aj e,aj (λz=>e (h1.trans z))];exact⟨h1,h2,b⟩
theorem KT.put{H:Hp}{kvs:List (List Key×V)}{xs:List (List Key×dP×dM)}(r:KT H kvs xs)(k:List Key){b:dP}{y:V}{u:dM}(hb:H b=some (.tup (k.map kV)))(a:eu y u):
  KT H (hO kvs k y) (storedH xs k b u):=by
 have e:(kvs.any λc=>decide (c.1=k))=(N5 xs k).isSome:=by
  rw[sY,(r.val k).isSome_eq,bh]
 unfold hO storedH;rw[e];by_cases q:(N5 xs k).isSome=M
 ·rw[ak q,ak q];exact r.repl k a
 ·rw[aj q,aj q];exact Paired.snoc r ⟨O,hb,a⟩
theorem KT.keeps{H H':Hp}{kvs:List (List Key×V)}{xs:List (List Key×dP×dM)}(r:KT H kvs xs)(ht:∀b ys,H b=Z (.tup ys)->H' b=Z (.tup ys)):KT H' kvs xs:=
 Paired.mapP r λ_ _ z=>⟨z.1,ht _ _ z.2.1,z.2.2⟩
section
variable{P:dQ}{w:dS}{H:Hp}{h:dZ}{a:dP}
theorem EC{u:HO}(ok:lj P w H h)(e:Rd H a u):fb P w H h a u:=e.ok ok
theorem o4{kvs:List (Key×V)}(ok:lj P w H h)(e:Rd H a (.dK kvs)):kvs.length<=dW/\(a == L4)=J /\ ∃vs,KV kvs vs/\h.DictOf (fe P w) a vs:=
 show fb P w H h a (.dK kvs)from EC ok e
theorem xt{kvs:List (Key×V)}(ok:lj P w H h)(e:H a=Z (.dK kvs)):kvs.length<=dW/\(a == L4)=J /\ ∃vs,KV kvs vs/\h.DictOf (fe P w) a vs:=o4 ok (.inl e)
theorem oK{ks:List Key}(ok:lj P w H h)(e:H a=Z (.tup (ks.map kV))):(tupleKind (fe P w)).is h ks a:=by
 obtain⟨_,b,r,o,h1,h2,n,c⟩:=(show fb P w H h a (.tup (ks.map kV))from ok a _ e);exact⟨o,b.toArray,n,h1,h2,c,by simpa using qi r⟩
theorem qt{kvs:List (List Key×V)}(ok:lj P w H h)(e:Rd H a (.dT kvs)):kvs.length<=dW/\(a == L4)=false /\
  ∃xs,KT H kvs xs/\h.DictOfH (tupleKind (fe P w)) a xs:=by
 obtain⟨z,y,xs,r,o,es,ep,h1,h2,g,d,f⟩:=(show fb P w H h a (.dT kvs)from EC ok e);refine⟨z,y,xs,r,o,es,ep,h1,h2,g,d,λx b=>?_,f⟩;have all:∀{l:List (List Key×V)} {m:List (List Key×dP×dM)},KT H l m -> ∀x∈m,(tupleKind (fe P w)).is h x.1 x.2.1:=by
  intro l m q
  induction q with
  |nil=>intro x b;exact nomatch b
  | @cons p q ps i c t ih=>
   intro x b;rcases aF.mp b with e|b
   ·subst e;exact oK ok (by rw[<- c.1];exact c.2.1)
   ·exact ih x b
 exact all r x b
theorem Jx{kvs:List (List Key×V)}(ok:lj P w H h)(e:H a=some (.dT kvs)):kvs.length<=dW/\(a == L4)=false /\
  ∃xs,KT H kvs xs/\h.DictOfH (tupleKind (fe P w)) a xs:=qt ok (.inl e)
end
def pB(H:Hp)(a:dP)(y:V)(r:Option V):Prop:=
 (∃kvs k,Rd H a (.dK kvs)/\y=kV k/\r=hA kvs k) \/ ∃kvs k b,Rd H a (.dT kvs)/\y = .ref b/\H b=Z (.tup (k.map kV))/\r=hA kvs k
def yR(H:Hp)(a:dP)(y v:V)(H':Hp):Prop:=
 (∃kvs k,H a=Z (.dK kvs)/\y=kV k/\kvs.length<dW/\H'=upd H a (.dK (hO kvs k v))) \/
 ∃kvs k b,H a=Z (.dT kvs)/\y = .ref b/\H b=Z (.tup (k.map kV))/\kvs.length<dW/\H'=upd H a (.dT (hO kvs k v))
theorem pB.k{H:Hp}{a:dP}{kvs:List (Key×V)}{k:Key}(e:H a=Z (.dK kvs)):pB H a (kV k) (hA kvs k):=.inl ⟨kvs,k,.inl e,O,O⟩
theorem pB.t{H:Hp}{a b:dP}{kvs:List (List Key×V)}{k:List Key}(e:H a=Z (.dT kvs))(c:H b=Z (.tup (k.map kV))):pB H a (.ref b) (hA kvs k):=.inr ⟨kvs,k,b,.inl e,O,c,O⟩
theorem yR.k{H:Hp}{a:dP}{kvs:List (Key×V)}{k:Key}{v:V}(e:H a=Z (.dK kvs))(b:kvs.length<dW):yR H a (kV k) v (upd H a (.dK (hO kvs k v))):=.inl ⟨kvs,k,e,O,b,O⟩
theorem yR.t{H:Hp}{a b:dP}{kvs:List (List Key×V)}{k:List Key}{v:V}(e:H a=some (.dT kvs))(d:H b=some (.tup (k.map kV)))(c:kvs.length<dW):
  yR H a (.ref b) v (upd H a (.dT (hO kvs k v))):=.inr ⟨kvs,k,b,e,O,d,c,O⟩
section
variable{ag:List (dP×Obj)}{σ:St}{H:Hp}{s:dN}{a:dP}{y v:V}{u r:dM}{o:Option V}{A:dR}{E:dM->dN->Prop}
theorem Inv.big(I:Inv X ag σ H s):L4<s.heap.objs.size:=by
 have h:dU<s.heap.objs.size:=(I.mod.glob.keeps I.bk).lt;exact bi (by decide) h
theorem yG{Q:dM->dN->Prop}(w:A.units+1<Nv)(I:Inv X ag σ H s)(g:pB H a y (some v))(q:eu y u)(h:∀ f s',Inv X ag σ H s'->eu v f->Q f s'):
  dX (Mw X.prog X.w) A (getItem (.ref a) u) Q E s:=by
 rcases g with⟨kvs,k,e,m,l⟩|⟨kvs,k,b,e,m,r,l⟩
 ·subst m;obtain⟨z,t,vs,d,j⟩:=o4 I.hok e;obtain⟨f,n,c⟩:=lg.some_of (v:=v) (o:=N4 vs k) (by rw[l];exact d.val k);exact wpAny_getItem_of (oM q) j.mapOf n (h f _ (I.tok _) c)
 ·subst m;cases(show u=D4 b from q);obtain⟨z,t,xs,d,j⟩:=qt I.hok e;obtain⟨f,n,c⟩:=lg.some_of (v:=v) (o:=(N5 xs k).map (·.2)) (by rw[l];exact d.val k);obtain⟨p,x,i⟩:=PD n;refine wpAny_getItem_heap (N6 w) (oK I.hok r) j x ?_;rw[i];exact h f _ (I.tok _) c
theorem Ec{Q:dM->dN->Prop}(m:A.units+1<Nv)(I:Inv X ag σ H s)(g:pB H a y o)(j:eu y u)(h:∀ s',Inv X ag σ H s'->Q (.bool (!o.isSome)) s'):
  dX (Mw X.prog X.w) A (Nn .NotIn u (.ref a)) Q E s:=by
 rcases g with⟨kvs,k,e,i,l⟩|⟨kvs,k,b,e,i,n,l⟩
 ·subst i;obtain⟨z,f,vs,c,d⟩:=o4 I.hok e;refine wpAny_notIn_of (oM j) f d.mapOf ?_;rw[<- (c.val k).isSome_eq,<- l];exact h _ (I.tok _)
 ·subst i;cases(show u=D4 b from j);obtain⟨z,f,xs,c,d⟩:=qt I.hok e;refine wpAny_notIn_heap (N6 m) (oK I.hok n) f d ?_;have q:=(c.val k).isSome_eq;rw[bh]at q;rw[<- q,<- l];exact h _ (I.tok _)
theorem ku{h':dZ}{t':Nat}{c:HO}(I:Inv X ag σ H s)(mu:HL (H a))(hs:Mv a s.heap h')(he:∃ q,h'.get? a=some q)(new:fb X.prog X.w (upd H a c) h' a c):
  Inv X ag σ (upd H a c) {s with heap:=h',toks:=t'}:=
 I.write (x:=a) (e:=a) mu (.inl O) (λb q d z=>(hs.2 b d).trans z) he new
theorem vU{P:dQ}{w:dS}{H':Hp}{h':dZ}{kvs:List (Key×V)}{vs:List (Key×dM)}(z:kvs.length<=dW)(hd:(a == L4)=false)(b:KV kvs vs)(c:h'.DictOf (fe P w) a vs):
  fb P w H' h' a (.dK kvs):=⟨z,hd,vs,b,c⟩
theorem yF{H':Hp}{Q:Unit->dN->Prop}(am:A.units+1<Nv)(I:Inv X ag σ H s)(g:yR H a y v H')(C:eu y u)(B:eu v r)(h:∀ s',Inv X ag σ H' s'->Q () s'):
  dX (Mw X.prog X.w) A (setItem (.ref a) u r) Q E s:=by
 rcases g with⟨kvs,k,e,m,l,o⟩|⟨kvs,k,b,e,m,D,l,o⟩
 ·subst m o;obtain⟨z,p,vs,d,j⟩:=xt I.hok e;have t:vs.length<=dW:=by rw[<- d.length];exact z
  have w:(hO kvs k v).length<=dW:=by have:=iI kvs k v;lia
  refine wpAny_setItem_pairs (hsz:=t) (oM C) j λh' f n=>h _ ?_;have F:∃q,h'.get? a=Z q:=let ⟨q,_,_,i,_⟩:=f;⟨q,i⟩
  exact ku I (by rw[e];exact Nu) n F (vU w p (d.put k B) f)
 ·subst m o;cases(show u=D4 b from C);obtain⟨z,p,xs,d,j⟩:=Jx I.hok e;have t:xs.length<=dW:=by rw[<- Paired.length d];exact z
  have w:(hO kvs k v).length<=dW:=by have:=iI kvs k v;lia
  refine wpAny_setItem_heap (hsz:=t) (N6 am) (oK I.hok D) j λh' f n=>h _ ?_;obtain⟨q,es,ep,i,h2,L,K,_,G⟩:=f;refine ku I (by rw[e];exact Nu) n ⟨q,i⟩ ⟨w,p,_,(d.put k D B).keeps λc ys x=>?_,q,es,ep,i,h2,L,K,G⟩;rw[eD (IQ x e (λz=>nomatch z))];exact x
end
section
variable{ag:List (dP×Obj)}{σ:St}{H:Hp}{s:dN}{a:dP}{kvs:List (Key×V)}{k:Key}{u:dM}{A:dR}{E:dM->dN->Prop}
theorem Jy{Q:dM->dN->Prop}(I:Inv X ag σ H s)(e:Rd H a (.dK kvs))(h:∀t s',Inv X ag σ H s'->Q (.int kvs.length t) s'):dX (Mw X.prog X.w) A (call (.builtin "len") [.ref a]) Q E s:=by
 obtain⟨z,d,vs,b,c⟩:=o4 I.hok e;refine call_len_dict d c (by rw[<- b.length];rw[Nq]at z;lia) ?_;rw[<- b.length];exact h _ _ (I.tok _)
end
theorem uG{X:Cx}{ag:List (dP×Obj)}{σ:St}{H:Hp}{s:dN}{a:dP}{y:V}{o:Option V}(I:Inv X ag σ H s)(g:pB H a y o):s.TypeIs (.ref a) "dict":=by
 rcases g with⟨kvs,k,e,_,_⟩|⟨kvs,k,b,e,_,_,_⟩
 ·obtain⟨_,_,vs,_,c⟩:=o4 I.hok e;exact c.typeIs
 ·obtain⟨_,_,xs,_,c⟩:=qt I.hok e;exact c.typeIs
section
variable{o i e value:Expr}{pos pos' tpos:Pos}{td ty tv:TE}
end
theorem uF{P:dQ}{w:dS}{H:Hp}(h:dZ)(hb:L4<h.objs.size):fb P w H (h.push {cls:=.type "dict",data:=.dict #[]}) h.objs.size (.dK []):=
 ⟨bj _,beq_eq_false_iff_ne.mpr (Mt (nN1 hb)),[],.nil,Heap.DictOf.new h⟩
def Fe:TE:=λ_ H Q=>∀p,H p=Y->Q (.ref p) (upd H p (.dK []))
section
variable{pos:Pos}
theorem Al:PE X (.Dict [] [] pos) Fe:=λag s σ H Q I h=>
 wpAny_Dict_empty ⟨.ref s.heap.objs.size,_,I.laid (a:=s.heap.objs.size) (o:=.dK []) (t':=s.toks) (λ_ _ q=>hP1 _ q) (nR1 _) (uF s.heap I.big),O,h _ (I.hok.fresh (nR1 _))⟩
end
def rg:List (TE×TE)->St->Hp->(List (V×V)->Hp->Prop)->Prop
 |[],_,H,Q=>Q [] H
 |(tk,tv)::r,σ,H,Q=>tk σ H λx H1=>tv σ H1 λy H2=>rg r σ H2 λps H3=>Q ((x,y)::ps) H3
abbrev VV:List (V×V)->List (dM×dM)->Prop:=Paired λp q=>eu p.1 q.1/\eu p.2 q.2
def JP(X:Cx)(pos:Pos)(keys:List (Option Expr))(values:List Expr)(trs:List (TE×TE)):Prop:=
 ∀(ag:List (dP×Obj)) (s:dN) (σ:St) (H:Hp) (Q:List (V×V)->Hp->Prop),Inv X ag σ H s->rg trs σ H Q ->
  dX (Mw X.prog X.w) X.A (evalPairs (pairTrees keys values X.env pos)) (λvs s'=>∃ps H',Inv X ag σ H' s'/\VV ps vs/\Q ps H') X.xe s
theorem CT{X:Cx}{pos:Pos}:JP X pos [] [] []:=λag s σ H Q I h=>pairTrees_nil_walk ⟨[],H,I,.nil,h⟩
theorem z0{X:Cx}{pos:Pos}{k v:Expr}{ks:List (Option Expr)}{vs:List Expr}{tk tv:TE}{trs:List (TE×TE)}(hk:PE X k tk)(hv:PE X v tv)(hr:JP X pos ks vs trs):
  JP X pos (Z k::ks) (v::vs) ((tk,tv)::trs):=λag s σ H Q I h=>
 pairTrees_cons_walk (fr (hk ag s σ H _ I h) λu d ⟨x,H1,f,e,c⟩=>fr (hv ag d σ H1 _ f c) λp l ⟨y,H2,g,b,m⟩=>
  fr (hr ag l σ H2 _ g m) λws o ⟨ps,j,i,a,n⟩=>⟨(x,y)::ps,j,i,.cons ⟨e,b⟩ a,n⟩)
def je(kvs more:List (Key×V)):List (Key×V):=more.foldl (λacc kv=>hO acc kv.1 kv.2) kvs
theorem KV.merge:∀{more:List (Key×V)} {rs:List (Key×dM)} {kvs:List (Key×V)} {vs:List (Key×dM)},KV more rs->KV kvs vs->KV (je kvs more) (merged vs rs):=by
 intro more rs kvs vs r;unfold KV at r
 induction r generalizing kvs vs with
 |nil=>intro q;exact q
 | @cons p q ps b h t ih=>
  intro a;have e:KV (hO kvs p.1 p.2) (stored vs q.1 q.2):=by
   have:=a.put p.1 h.2;rw[<- h.1];exact this
  exact ih e
theorem kQ:∀(more kvs:List (Key×V)),(je kvs more).length<=kvs.length+more.length
 |[],kvs=>by show kvs.length<=kvs.length+0;lia
 |p::r,kvs=>by
  have h1:=kQ r (hO kvs p.1 p.2);have h2:=iI kvs p.1 p.2;show(je (hO kvs p.1 p.2) r).length<=_;rw[lC1];lia
theorem ph{P:dQ}{w:dS}:∀{kvs:List (Key×V)} {ws:List (dM×dM)},VV (kvs.map λd=>(kV d.1,d.2)) ws -> ∃rs,Carries (fe P w) ws rs/\KV kvs rs
 |[],_,r=>by rw[bc]at r;cases r;exact⟨[],Nu,.nil⟩
 |p::kvs,_,r=>by
  rw[mP1]at r;cases r with
  | @cons a b as bs h t=>
   obtain⟨rs,c,q⟩:=ph (P:=P) (w:=w) t;obtain⟨b1,b2⟩:=b;exact⟨(p.1,b2)::rs,⟨oM h.1,O,c⟩,.cons ⟨O,h.2⟩ q⟩
def Ii(trs:List (TE×TE)):TE:=fun σ H Q=>∀p,H p=Y->rg trs σ (upd H p (.dK [])) λps H2=>H2 p=Z (.dK []) /\ ∃kvs:List (Key×V),ps=kvs.map (λkv=>(kV kv.1,kv.2))/\kvs.length<=15/\Q (.ref p) (upd H2 p (.dK (je [] kvs)))
theorem C3{X:Cx}{pos:Pos}{keys:List (Option Expr)}{values:List Expr}{trs:List (TE×TE)}(h:JP X pos keys values trs)(d:keys.all (·.isSome)=M)(x:keys.length=values.length)(k:keys≠[])(f:keys.length<=15):PE X (.Dict keys values pos) (Ii trs):=by
 intro ag s σ H Q I q;have m:=I.hok.fresh (nR1 s.heap.objs.size);have t:=I.laid (a:=s.heap.objs.size) (o:=.dK []) (h':=s.heap.push {cls:=.type "dict",data:=.dict #[]}) (t':=s.toks) (λ_ _ q=>hP1 _ q) (nR1 _) (uF s.heap I.big);refine wpAny_Dict_walk (knd:=fe X.prog X.w) d x k f (fr (h ag _ σ _ _ t (q _ m)) λws B ⟨ps,H2,i,g,e,kvs,ep,A,v⟩=>?_);subst ep;obtain⟨rs,c,rk⟩:=ph (P:=X.prog) (w:=X.w) g;obtain⟨z,u,r,n,j⟩:=xt i.hok e;cases n;refine⟨rs,c,j,λh' b p=>⟨.ref s.heap.objs.size,_,?_,O,v⟩⟩;have y:(je [] kvs).length<=dW:=by
  have h1:=kQ kvs [];rw[bg]at h1;rw[Nq];lia
 have l:∃q,h'.get? s.heap.objs.size=Z q:=let ⟨q,_,_,hq,_⟩:=b;⟨q,hq⟩
 exact ku i (by rw[e];exact Nu) p l (vU y u (rk.merge .nil) b)
structure M1 (X:Cx)(o:Expr)(m:Str)(apos:Pos)(e:Expr)(cpos:Pos):Prop where
 base:NY o m X.env (eval o X.env)=eval o X.env
 few:((MR cpos (dV [e] X.env)).all (λx=> !x.1)&&(backToKw cpos (NZ [] X.env)).all (λx=>x.1.isSome)
  && decide (([e]:List Expr).length+([]:List Ny).length+(if([]:List Ny).isEmpty then 0 else 1)<30))=true
 line:(apos.endLine == cpos.line)=true
 trees:MR cpos (dV [e] X.env)=[(false,eval e X.env)]
structure M2 (X:Cx)(o:Expr)(m:Str)(apos:Pos)(e f:Expr)(cpos:Pos):Prop where
 base:NY o m X.env (eval o X.env)=eval o X.env
 few:((MR cpos (dV [e,f] X.env)).all (λx=> !x.1)&&(backToKw cpos (NZ [] X.env)).all (λx=>x.1.isSome)
  && decide (([e,f]:List Expr).length+([]:List Ny).length+(if([]:List Ny).isEmpty then 0 else 1)<30))=true
 line:(apos.endLine == cpos.line)=true
 trees:MR cpos (dV [e,f] X.env)=[(false,eval e X.env),(false,eval f X.env)]
def Kl(H:Hp)(a:dP):Prop:=(∃kvs,Rd H a (.dK kvs)) \/ ∃kvs,Rd H a (.dT kvs)
theorem Bh{X:Cx}{ag:List (dP×Obj)}{σ:St}{H:Hp}{s:dN}{a:dP}(I:Inv X ag σ H s)(d:Kl H a):
  s.TypeIs (.ref a) "dict"/\(∀b,D4 a = .ref b -> ∃c,s.heap.get? b=Z c/\c.dict=Y)/\(a == L4)=J:=by
 rcases d with⟨kvs,e⟩|⟨kvs,e⟩
 ·obtain⟨_,g,vs,_,f⟩:=o4 I.hok e;refine⟨f.typeIs,λb q=>?_,g⟩;cases q;obtain⟨c,_,_,h1,h2,_⟩:=f;exact⟨c,h1,h2.2.1⟩
 ·obtain⟨_,g,xs,_,f⟩:=qt I.hok e;refine⟨f.typeIs,λb q=>?_,g⟩;cases q;obtain⟨c,_,_,h1,h2,_⟩:=f;exact⟨c,h1,h2.2.1⟩
section
variable{ag:List (dP×Obj)}{σ:St}{H:Hp}{s:dN}{a:dP}{y d:V}{u r:dM}{o:Option V}{A:dR}{E:dM->dN->Prop}
theorem Ht{Q:dM->dN->Prop}(n:A.units+1<Nv)(I:Inv X ag σ H s)(g:pB H a y o)(j:eu y u)(h:∀ m s',Inv X ag σ H s'->eu (o.getD .non) m->Q m s'):
  dX (Mw X.prog X.w) A (call (.builtin "dict.get") [.ref a,u]) Q E s:=by
 rcases g with⟨kvs,k,e,i,l⟩|⟨kvs,k,b,e,i,p,l⟩
 ·subst i;obtain⟨z,f,vs,c,d⟩:=o4 I.hok e;refine call_meetsIn N7 d.typeIs PySem.F.entry_dict_get (PySem.F.args_dict_get_2 _ _) (meets_dict_get (fe X.prog X.w) a (oM j) f) ⟨_,d.mapOf,h _ _ (I.tok _) ?_⟩;rw[l];exact(c.val k).getD O
 ·subst i;cases(show u=D4 b from j);obtain⟨z,f,xs,c,d⟩:=qt I.hok e;refine call_meetsIn N7 d.typeIs PySem.F.entry_dict_get (PySem.F.args_dict_get_2 _ _) (meetsH_dict_get (tupleKind (fe X.prog X.w)) a b f) ⟨N6 n,k,xs,oK I.hok p,d,h _ _ (I.tok _) ?_⟩;rw[l];exact(c.val k).getD O
end
noncomputable def Ff(td ty:TE):TE:=fun σ H Q=>td σ H λx H1=>∃a,x = .ref a/\Kl H1 a/\ty σ H1 λy H2=>∃o,pB H2 a y o/\Q (o.getD .non) H2
section
variable{o e f:Expr}{apos cpos:Pos}{td ty tx:TE}
theorem Am (p:X.A.units+1<Nv)(ho:PE X o td)(he:PE X e ty)(m:M1 X o "get" apos e cpos):PE X (.Call (.Attribute o "get" apos) [e] [] cpos) (Ff td ty):=by
 intro ag s σ H Q I h;refine wpAny_Call_method m.base m.few m.line PySem.F.plainAttrs_dict N7 PySem.F.type_dict_get (fr (ho ag s σ H _ I h) λu j ⟨x,H1,c,k,a,ex,d,i⟩=>?_);subst ex;obtain rfl:u=D4 a:=k;obtain⟨t,q,_⟩:=Bh c d;refine⟨t,q,?_⟩;rw[m.trees];refine N0 O (N1 (Nw (fr (he ag j σ H1 _ c i) λw B ⟨y,H2,l,f,A,g,r⟩=>Calls.spliced_nil ?_)));exact Ht p l g f λz v n b=>⟨_,H2,n,b,r⟩
end
section
variable{ag:List (dP×Obj)}{σ:St}{H:Hp}{s:dN}{a:dP}{kvs:List (Key×V)}{A:dR}{E:dM->dN->Prop}
end
section
variable{ag:List (dP×Obj)}{σ:St}{H:Hp}{s:dN}{a:dP}{y:V}{u:dM}{A:dR}{E:dM->dN->Prop}
end
end L2
namespace Mi
open PySem PySem.Spec PyProof.Rows L2
inductive TK where
 |non|int (i:Int)|tup (xs:List TK)
instance:DecidableEq TK:=λ_ _=>Classical.propDecidable _
mutual
noncomputable def TK.hash:TK->Int
 | .non=>0xFCA86420
 | .int i=>hashInt i
 | .tup xs=>reduceHash (N8 (TK.hashes xs))
noncomputable def TK.hashes:List TK->List Int
 |[]=>[]
 |x::xs=>TK.hash x::TK.hashes xs
end
mutual
noncomputable def TK.draws:TK->Nat
 | .non=>1
 | .int _=>1
 | .tup xs=>TK.drawsAll xs+1
noncomputable def TK.drawsAll:List TK->Nat
 |[]=>0
 |x::xs=>TK.draws x+TK.drawsAll xs
end
mutual
noncomputable def TK.dep:TK->Nat
 | .non=>0
 | .int _=>0
 | .tup xs=>TK.depAll xs+1
noncomputable def TK.depAll:List TK->Nat
 |[]=>0
 |x::xs=>max (TK.dep x) (TK.depAll xs)
end
theorem TK.dep_mem:∀{xs:List TK} {x:TK},x∈xs->x.dep<=TK.depAll xs
 |y::ys,x,h=>by
  rw[TK.depAll];rcases aF.mp h with e|e
  ·rw[e];exact Nat.le_max_left _ _
  ·exact aC (TK.dep_mem e) (Nat.le_max_right _ _)
theorem TK.hashes_app:∀a b:List TK,TK.hashes (a++b)=TK.hashes a++TK.hashes b
 |[],_=>rfl
 |x::xs,b=>by rw[bm,TK.hashes,TK.hashes,TK.hashes_app xs b];rfl
theorem TK.draws_app:∀a b:List TK,TK.drawsAll (a++b)=TK.drawsAll a+TK.drawsAll b
 |[],_=>by simp[TK.drawsAll]
 |x::xs,b=>by rw[bm,TK.drawsAll,TK.drawsAll,TK.draws_app xs b,bn]
def Ris(xs:Array Nat):Prop:=xs.toList.Pairwise (· < ·)
noncomputable def EA(m:Nat):Nat->Nat->Nat->List Nat
 |0,_,_=>[]
 |n+1,i,b=>List.range' i (SetTable.runEnd m i-i+1)++EA m n (SetTable.leap m i b).1 (SetTable.leap m i b).2
def L0(m:Nat):Prop:=m=7\/m=31\/m=127
def KD(m:Nat)(h:Int):List Nat:=EA m (SetTable.turns m) (SetTable.bits h%(m+1)) (SetTable.bits h)
def KF(m:Nat)(occ:List Nat)(h:Int)(j:Nat):Prop:=∃pre post,KD m h=pre++j::post /\ ∀y∈pre,y∈occ
structure KE (es:Array (Int×dM))(t:SetTable):Prop where
 mks:L0 t.mask
 up:Ris t.place
 du:t.dummies = #[]
 sz:t.place.size=es.size
 le:∀j∈t.place.toList,j<=t.mask
 fl:es.size<=t.mask
 rc:∀z∈t.place.toList.zip es.toList,KF t.mask t.place.toList z.2.1 z.1
noncomputable def stO(es:Array (Int×dM))(ep:Nat)(t:SetTable):Obj:={cls:=.type "set",dict:=Y,data:=.set es ep t,slots:= #[]}
def JO(a:dP)(xs:List (TK×dP×dM))(h:dZ):Prop:=(xs.map (·.1)).Nodup /\ ∃es ep t,h.get? a=Z (stO es ep t)/\KE es t/\t.tooFull=J/\(∀e∈es.toList,∃z∈xs,e=(z.1.hash,.ref z.2.1))/\(∀z∈xs,(z.1.hash,D4 z.2.1)∈es.toList)/\es.size=xs.length
inductive D where
 |non|bl (b:Bool)|int (i:Int)|str (x:Str)|tup (xs:List D)|rol (xs:List D)|ref (n:Nat)|fn (x:Str)
inductive Ob where
 |lst (xs:List D)|dct (kvs:List (Key×D))|dcT (kvs:List (TK×D))|iset (xs:List Int)|dcF (kvs:List (TK×D))|tst (ks:List TK)
abbrev d7:=List Ob
abbrev Ev:=List (Option D)
abbrev FE:=Ev->d7->Option (D×d7)
abbrev FT:=Ev->d7->Option (Bool×d7)
abbrev FA:=Ev->d7->Option (List D×d7)
abbrev FN:=List D->d7->Option (D×d7)
inductive Fl where
 |nx|rt (d:D)|bk|ct
abbrev FS:=Ev->d7->Option (Fl×Ev×d7)
def RoL(K:Fg1)(H:Hp)(a:dP)(xs:List V):Prop:=(∃o,H a=Z (.frz o (.lst xs))) \/
 ∃(o:Obj) (its:Array dM) (n:Nat),K.lookup a=Z o/\o.cls = .type "list"/\o.dict=Y/\o.data = .seq its n/\its.size<=dW/\eG xs its.toList
theorem RoL.sq{K:Fg1}{H:Hp}{a:dP}{xs:List V}(h:RoL K H a xs):nG K H a xs:=h.elim (λ⟨o,q⟩=>.inl (.inr ⟨o,q⟩)) .inr
mutual
inductive fc (K:Fg1)(H:Hp)(mu:List dP):D->V->Prop
 |non:fc K H mu .non .non
 |bl (b:Bool):fc K H mu (.bl b) (.bl b)
 |int (i:Int):fc K H mu (.int i) (.int i)
 |str (x:Str):fc K H mu (.str x) (.str x)
 |tup {ds:List D} {vs:List V} {a:dP} (h:kF K H a vs) (r:ej K H mu ds vs):fc K H mu (.tup ds) (.ref a)
 |rol {ds:List D} {vs:List V} {a:dP} (h:RoL K H a vs) (r:ej K H mu ds vs):fc K H mu (.rol ds) (.ref a)
 |ref {n:Nat} {a:dP} (h:mu[n]?=some a):fc K H mu (.ref n) (.ref a)
 |fn {x:Str} {a:dP} (h:wN1 K dU x=some (some (.ref a))):fc K H mu (.fn x) (.ref a)
inductive ej (K:Fg1)(H:Hp)(mu:List dP):List D->List V->Prop
 |nil:ej K H mu [] []
 |cons {d:D} {v:V} {ds:List D} {vs:List V} (r:fc K H mu d v) (t:ej K H mu ds vs):ej K H mu (d::ds) (v::vs)
end
structure Ext (mu mu':List dP)(H H':Hp):Prop where
 pre:mu <+: mu'
 old:∀a o,H a=some o->a∉mu->H' a=some o
 tup:∀a xs,Rd H a (.tup xs)->Rd H' a (.tup xs)
 frz:∀a o u,H a=some (.frz o u)->H' a=some (.frz o u)
 new:∀a∈mu',a∈mu\/H a=none
theorem Ext.refl(mu:List dP)(H:Hp):Ext mu mu H H:=⟨bo,λ_ _ h _=>h,λ_ _ h=>h,λ_ _ _ h=>h,λ_ h=>.inl h⟩
theorem Ext.trans{mu m1 m2:List dP}{H H1 H2:Hp}(a:Ext mu m1 H H1)(b:Ext m1 m2 H1 H2):Ext mu m2 H H2 where
 pre:=a.pre.trans b.pre
 old:=λc o h n=>b.old c o (a.old c o h n) λz=>by
  rcases a.new c z with q|q
  ·exact n q
  ·rw[h]at q;cases q
 tup:=λc xs h=>b.tup c xs (a.tup c xs h)
 frz:=λc o u h=>b.frz c o u (a.frz c o u h)
 new:=λc h=>by
  rcases b.new c h with q|q
  ·exact a.new c q
  ·by_cases z:c∈mu
   ·exact .inl z
   ·right;cases e:H c with
    |none=>rfl
    |some o=>rw[a.old c o e z]at q;cases q
theorem Ext.at{mu mu':List dP}{H H':Hp}(e:Ext mu mu' H H'){n:Nat}{a:dP}(h:mu[n]?=Z a):mu'[n]?=Z a:=by
 obtain⟨t,rfl⟩:=e.pre;have b:n<mu.length:=(PB h).1;rw[gL1 b];exact h
theorem Ext.back{mu mu':List dP}{H H':Hp}(e:Ext mu mu' H H'):Ext mu mu H H':=⟨bo,e.old,e.tup,e.frz,λ_ h=>.inl h⟩
structure sP (mu mu':List dP)(H H':Hp):Prop where
 pre:mu <+: mu'
 tup:∀a xs,Rd H a (.tup xs)->Rd H' a (.tup xs)
 frz:∀a o u,H a=some (.frz o u)->H' a=some (.frz o u)
theorem Ext.w{mu mu':List dP}{H H':Hp}(e:Ext mu mu' H H'):sP mu mu' H H':=⟨e.pre,e.tup,e.frz⟩
theorem sP.trans{mu m1 m2:List dP}{H H1 H2:Hp}(a:sP mu m1 H H1)(b:sP m1 m2 H1 H2):sP mu m2 H H2:=⟨a.pre.trans b.pre,λc xs h=>b.tup c xs (a.tup c xs h),λc o u h=>b.frz c o u (a.frz c o u h)⟩
theorem sP.at{mu mu':List dP}{H H':Hp}(e:sP mu mu' H H'){n:Nat}{a:dP}(h:mu[n]?=Z a):mu'[n]?=Z a:=by
 obtain⟨t,rfl⟩:=e.pre;have b:n<mu.length:=(PB h).1;rw[gL1 b];exact h
structure Cb (mu mu':List dP)(H H':Hp):Prop where
 pre:mu <+: mu'
 tup:∀a xs,Rd H a (.tup xs)->Rd H' a (.tup xs)
 frl:∀a o xs,H a=some (.frz o (.lst xs))->H' a=some (.frz o (.lst xs))
theorem sP.v{mu mu':List dP}{H H':Hp}(e:sP mu mu' H H'):Cb mu mu' H H':=⟨e.pre,e.tup,λa o xs h=>e.frz a o _ h⟩
theorem Ext.v{mu mu':List dP}{H H':Hp}(e:Ext mu mu' H H'):Cb mu mu' H H':=e.w.v
theorem Cb.at{mu mu':List dP}{H H':Hp}(e:Cb mu mu' H H'){n:Nat}{a:dP}(h:mu[n]?=Z a):mu'[n]?=Z a:=by
 obtain⟨t,rfl⟩:=e.pre;have b:n<mu.length:=(PB h).1;rw[gL1 b];exact h
theorem kF.exv{K:Fg1}{mu mu':List dP}{H H':Hp}{a:dP}{vs:List V}(e:Cb mu mu' H H')(h:kF K H a vs):kF K H' a vs:=by
 rcases h with h|h
 ·exact .inl (e.tup a vs h)
 ·exact .inr h
theorem RoL.exv{K:Fg1}{mu mu':List dP}{H H':Hp}{a:dP}{vs:List V}(e:Cb mu mu' H H')(h:RoL K H a vs):RoL K H' a vs:=by
 rcases h with⟨o,h⟩|h
 ·exact .inl ⟨o,e.frl a o _ h⟩
 ·exact .inr h
theorem fc.exv{K:Fg1}{mu mu':List dP}{H H':Hp}(e:Cb mu mu' H H'):∀ {d:D} {v:V},fc K H mu d v->fc K H' mu' d v:=fun h=>h.rec (motive_1:=fun d v _=>fc K H' mu' d v) (motive_2:=fun ds vs _=>ej K H' mu' ds vs)
  .non .bl .int .str (λh _ ih=>.tup (kF.exv e h) ih) (λh _ ih=>.rol (RoL.exv e h) ih) (λh=>.ref (e.at h)) (λh=>.fn h) .nil (λ_ _ a b=>.cons a b)
theorem ej.ind{K:Fg1}{mu:List dP}{H:Hp}{P:(ds:List D)->(vs:List V)->ej K H mu ds vs->Prop}(hn:P [] [] .nil)(hc:∀{d v ds vs} (r:fc K H mu d v) (t:ej K H mu ds vs),P ds vs t->P (d::ds) (v::vs) (.cons r t)){ds:List D}{vs:List V}(h:ej K H mu ds vs):P ds vs h:=
 h.rec (motive_1:=λ_ _ _=>True) (motive_2:=P) trivial (λ_=>trivial) (λ_=>trivial) (λ_=>trivial) (λ_ _ _=>trivial) (λ_ _ _=>trivial) (λ_=>trivial) (λ_=>trivial) hn (λr t _ ih=>hc r t ih)
theorem ej.exv{K:Fg1}{mu mu':List dP}{H H':Hp}(e:Cb mu mu' H H'):∀{ds:List D} {vs:List V},ej K H mu ds vs->ej K H' mu' ds vs:=λh=>h.ind (P:=λds vs _=>ej K H' mu' ds vs) .nil λr _ ih=>.cons (fc.exv e r) ih
section
variable{K:Fg1}{mu mu':List dP}{H H':Hp}{a:dP}{vs:List V}
theorem fc.exw(e:sP mu mu' H H'){d:D}{v:V}(h:fc K H mu d v):fc K H' mu' d v:=h.exv e.v
theorem ej.exw(e:sP mu mu' H H'){ds:List D}(h:ej K H mu ds vs):ej K H' mu' ds vs:=h.exv e.v
theorem fc.ext(e:Ext mu mu' H H'){d:D}{v:V}(h:fc K H mu d v):fc K H' mu' d v:=h.exv e.v
theorem ej.ext(e:Ext mu mu' H H'){ds:List D}(h:ej K H mu ds vs):ej K H' mu' ds vs:=h.exv e.v
end
section
variable{K:Fg1}{H:Hp}{mu:List dP}
theorem ej.length:∀{ds:List D} {vs:List V},ej K H mu ds vs->ds.length=vs.length:=λh=>h.ind (P:=λds vs _=>ds.length=vs.length) O λ_ _ ih=>congrArg (· + 1) ih
theorem ej.get:∀{ds:List D} {vs:List V} {i:Nat} {d:D},ej K H mu ds vs->ds[i]?=Z d -> ∃v,vs[i]?=Z v/\fc K H mu d v:=by
 intro ds vs i d h e
 induction h using ej.ind generalizing i with
 |hn=>cases e
 |hc r t ih=>cases i with
  |zero=>cases e;exact⟨_,O,r⟩
  |succ i=>exact ih (i:=i) e
theorem ej.getV:∀{ds:List D} {vs:List V} {i:Nat} {v:V},ej K H mu ds vs->vs[i]?=Z v -> ∃d,ds[i]?=Z d/\fc K H mu d v:=by
 intro ds vs i d h e
 induction h using ej.ind generalizing i with
 |hn=>cases e
 |hc r t ih=>cases i with
  |zero=>cases e;exact⟨_,O,r⟩
  |succ i=>exact ih (i:=i) e
theorem ej.append:∀{ds es:List D} {vs ws:List V},ej K H mu ds vs->ej K H mu es ws->ej K H mu (ds++es) (vs++ws):=λh s=>h.ind (P:=λds vs _=>ej K H mu (ds++_) (vs++_)) s λr _ ih=>.cons r ih
theorem ej.take:∀{ds:List D} {vs:List V} (n:Nat),ej K H mu ds vs->ej K H mu (ds.take n) (vs.take n):=by
 intro ds vs n h
 induction h using ej.ind generalizing n with
 |hn=>rw[av,av];exact .nil
 |hc r t ih=>cases n with
  |zero=>exact .nil
  |succ n=>exact .cons r (ih n)
theorem ej.drop:∀{ds:List D} {vs:List V} (n:Nat),ej K H mu ds vs->ej K H mu (ds.drop n) (vs.drop n):=by
 intro ds vs n h
 induction h using ej.ind generalizing n with
 |hn=>rw[aw,aw];exact .nil
 |hc r t ih=>cases n with
  |zero=>exact .cons r t
  |succ n=>exact ih n
theorem ej.set{d:D}{v:V}(r:fc K H mu d v):∀{ds:List D} {vs:List V} (i:Nat),ej K H mu ds vs->ej K H mu (ds.set i d) (vs.set i v):=by
 intro ds vs i h
 induction h using ej.ind generalizing i with
 |hn=>exact .nil
 |hc q t ih=>cases i with
  |zero=>exact .cons r t
  |succ i=>exact .cons q (ih i)
theorem ej.eraseIdx:∀{ds:List D} {vs:List V} (i:Nat),ej K H mu ds vs->ej K H mu (ds.eraseIdx i) (vs.eraseIdx i):=by
 intro ds vs i h
 induction h using ej.ind generalizing i with
 |hn=>exact .nil
 |hc q t ih=>cases i with
  |zero=>exact t
  |succ i=>exact .cons q (ih i)
end
def KR{κ:Type}(K:Fg1)(H:Hp)(mu:List dP):List (κ×D)->List (κ×V)->Prop:=Paired λp q=>p.1=q.1/\fc K H mu p.2 q.2
mutual
noncomputable def lA:TK->D
 | .non=>.non
 | .int i=>.int i
 | .tup xs=>.tup (lz xs)
noncomputable def lz:List TK->List D
 |[]=>[]
 |x::xs=>lA x::lz xs
end
def iN(a:dP)(xs:List (TK×dP×dM))(h:dZ):Prop:=(a == L4)=J/\(xs.map (·.1)).Nodup /\ ∃o es ep,h.get? a=Z o/\o.ExactDict/\o.data = .dict es ep/\es.toList=xs.map λx=>(⟨x.1.hash,.ref x.2.1,x.2.2⟩:N3)
def B6(a:dP)(xs:List (TK×dP×dM))(o:Obj):Prop:=(a == L4)=J/\(xs.map (·.1)).Nodup/\o.ExactDict /\ ∃es ep,o.data = .dict es ep/\es.toList=xs.map λx=>(⟨x.1.hash,.ref x.2.1,x.2.2⟩:N3)
def KT(K:Fg1)(H:Hp)(mu:List dP):List (TK×D)->List (TK×dP×dM)->Prop:=Paired λp q=>p.1=q.1/\p.1.dep<=8/\fc K H mu (lA p.1) (.ref q.2.1) /\ ∃v,eu v q.2.2/\fc K H mu p.2 v
def nw(K:Fg1)(H:Hp)(mu:List dP)(a:dP):Ob->Prop
 | .lst ds=>∃vs,H a=Z (.lst vs)/\ej K H mu ds vs
 | .dct kvs=>∃ws,H a=Z (.dK ws)/\KR K H mu kvs ws
 | .dcT kvs=>∃xs,H a=Z (.ext (iN a xs))/\KT K H mu kvs xs/\xs.length<=dW
 | .iset xs=>H a=Z (.set (λk=>xs.contains k) xs.length)/\xs.Nodup
 | .dcF kvs=>∃xs,(∃o u,H a=Z (.frz o u)/\B6 a xs o)/\KT K H mu kvs xs/\xs.length<=dW
 | .tst ks=>∃xs,H a=Z (.ext (JO a xs))/\KT K H mu (ks.map λk=>(k,D.non)) xs
structure Sim (K:Fg1)(H:Hp)(mu:List dP)(S:d7):Prop where
 len:mu.length=S.length
 nd:mu.Nodup
 ob:∀(n:Nat) (o:Ob) (a:dP),S[n]?=some o->mu[n]?=some a->nw K H mu a o
structure fN (K:Fg1)(H:Hp)(mu:List dP)(r:Ev)(σ:L2.St):Prop where
 len:r.length=σ.length
 val:∀(i:Nat) (d:D),r[i]?=some (some d) -> ∃v,σ[i]?=some (some v)/\fc K H mu d v
theorem fN.ext{K:Fg1}{mu mu':List dP}{H H':Hp}{r:Ev}{σ:L2.St}(e:Ext mu mu' H H')(h:fN K H mu r σ):fN K H' mu' r σ:=⟨h.len,λi d q=>by
 obtain⟨v,b,a⟩:=h.val i d q;exact⟨v,b,a.ext e⟩⟩
theorem KR.ext{κ:Type}{K:Fg1}{mu mu':List dP}{H H':Hp}{ks:List (κ×D)}{ws:List (κ×V)}(e:Ext mu mu' H H')(h:KR K H mu ks ws):KR K H' mu' ks ws:=
 Paired.mapP h λ_ _ z=>⟨z.1,z.2.ext e⟩
theorem KT.ext{K:Fg1}{mu mu':List dP}{H H':Hp}{ks:List (TK×D)}{ws:List (TK×dP×dM)}(e:Ext mu mu' H H')(h:KT K H mu ks ws):KT K H' mu' ks ws:=
 Paired.mapP h λ_ _ ⟨z,d,k,v,a,r⟩=>⟨z,d,k.ext e,v,a,r.ext e⟩
theorem Sim.nil{K:Fg1}{H:Hp}:Sim K H [] []:=⟨O,bp,λn o a h=>by simp at h⟩
theorem Sim.here{K:Fg1}{H:Hp}{mu:List dP}{S:d7}(s:Sim K H mu S){a:dP}(h:a∈mu):∃o,H a=Z o:=by
 obtain⟨n,b⟩:=bq h;have c:n<S.length:=by rw[<- s.len];exact(PB b).1
 have q:=s.ob n _ a (gG1 c) b;cases e:S[n]with
 |lst ds=>rw[e]at q;obtain⟨vs,z,_⟩:=q;exact⟨_,z⟩
 |dct ks=>rw[e]at q;obtain⟨vs,z,_⟩:=q;exact⟨_,z⟩
 |dcT ks=>rw[e]at q;obtain⟨vs,z,_⟩:=q;exact⟨_,z⟩
 |iset xs=>rw[e]at q;exact⟨_,q.1⟩
 |dcF ks=>rw[e]at q;obtain⟨vs,⟨_,_,z,_⟩,_⟩:=q;exact⟨_,z⟩
 |tst ks=>rw[e]at q;obtain⟨vs,z,_⟩:=q;exact⟨_,z⟩
def sN(K:Fg1)(mu:List dP)(H:Hp)(d:D)(S':d7)(Q:VK):Prop:=∀v H' mu',Ext mu mu' H H'->fc K H' mu' d v->Sim K H' mu' S'->Q v H'
inductive tM (K:Fg1)(m:FE)(σ:L2.St)(H:Hp)(Q:VK):Prop
 |mk (r:Ev) (mu:List dP) (S:d7) (d:D) (S':d7) (he:fN K H mu r σ) (hs:Sim K H mu S) (hm:m r S=some (d,S')) (hc:sN K mu H d S' Q)
inductive zy (K:Fg1)(m:FT)(σ:L2.St)(H:Hp)(Q:Bool->Hp->Prop):Prop
 |mk (r:Ev) (mu:List dP) (S:d7) (b:Bool) (S':d7) (he:fN K H mu r σ) (hs:Sim K H mu S) (hm:m r S=some (b,S')) (hc:∀H' mu',Ext mu mu' H H'->Sim K H' mu' S'->Q b H')
inductive Lp (K:Fg1)(m:FA)(σ:L2.St)(H:Hp)(Q:List V->Hp->Prop):Prop
 |mk (r:Ev) (mu:List dP) (S:d7) (ds:List D) (S':d7) (he:fN K H mu r σ) (hs:Sim K H mu S) (hm:m r S=some (ds,S')) (hc:∀vs H' mu',Ext mu mu' H H'->ej K H' mu' ds vs->Sim K H' mu' S'->Q vs H')
def Kv(K:Fg1)(mu:List dP)(H:Hp)(r':Ev)(S':d7)(E:jt)(f:Fl):Prop:=match f with
 | .nx=>∀ σ' H' mu',Ext mu mu' H H'->fN K H' mu' r' σ'->Sim K H' mu' S'->E.nx σ' H'
 | .bk=>∀ σ' H' mu',Ext mu mu' H H'->fN K H' mu' r' σ'->Sim K H' mu' S'->E.bk σ' H'
 | .ct=>∀ σ' H' mu',Ext mu mu' H H'->fN K H' mu' r' σ'->Sim K H' mu' S'->E.ct σ' H'
 | .rt d=>sN K mu H d S' E.rt
inductive wx (K:Fg1)(m:FS)(E:jt)(σ:L2.St)(H:Hp):Prop
 |mk (r:Ev) (mu:List dP) (S:d7) (f:Fl) (r':Ev) (S':d7) (he:fN K H mu r σ) (hs:Sim K H mu S) (hm:m r S=some (f,r',S')) (hc:Kv K mu H r' S' E f)
inductive rN (K:Fg1)(f:FN)(vs:List V)(H:Hp)(Q:VK):Prop
 |mk (mu:List dP) (S:d7) (ds:List D) (d:D) (S':d7) (hr:ej K H mu ds vs) (hs:Sim K H mu S) (hm:f ds S=some (d,S')) (hc:sN K mu H d S' Q)
abbrev ME(X:Cx)(e:Expr)(m:FE):Prop:=PE X e (tM X.K m)
abbrev MT(X:Cx)(e:Expr)(m:FT):Prop:=PT X e (zy X.K m)
abbrev MW(X:Cx)(e:Expr)(m:FT):Prop:=PW X e (zy X.K m)
abbrev MA(X:Cx)(es:List Expr)(m:FA):Prop:=PA X es (Lp X.K m)
abbrev MS(X:Cx)(st:d3)(m:FS):Prop:=PS X st (wx X.K m)
abbrev yP(X:Cx)(st:List d3)(m:FS):Prop:=u8 X st (wx X.K m)
variable{X:Cx}
section
variable{e:Expr}{es:List Expr}{st:d3}{sts:List d3}
theorem ff{t t':TE}(h:PE X e t)(i:∀ σ H Q,t' σ H Q->t σ H Q):PE X e t':=λag s σ H Q I q=>h ag s σ H Q I (i σ H Q q)
theorem rB{t t':TT}(h:PT X e t)(i:∀ σ H Q,t' σ H Q->t σ H Q):PT X e t':=λag s σ H Q I q=>h ag s σ H Q I (i σ H Q q)
theorem zU{t t':TT}(h:PW X e t)(i:∀ σ H Q,t' σ H Q->t σ H Q):PW X e t':=λa ag s σ H Q I q=>h a ag s σ H Q I (i σ H Q q)
theorem Ao{t t':TA}(h:PA X es t)(i:∀ σ H Q,t' σ H Q->t σ H Q):PA X es t':=λpos ag s σ H Q I q=>h pos ag s σ H Q I (i σ H Q q)
theorem im{t t':TS}(h:PS X st t)(i:∀E σ H,t' E σ H->t E σ H):PS X st t':=λag s σ H E I q=>h ag s σ H E I (i E σ H q)
theorem rE{t t':TS}(h:u8 X sts t)(i:∀E σ H,t' E σ H->t E σ H):u8 X sts t':=λag s σ H E I q=>h ag s σ H E I (i E σ H q)
end
noncomputable def mV (i:Nat):FE:=λr S=>match r[i]? with
 |some (some d)=>some (d,S)
 |_=>none
noncomputable def mC (d:D):FE:=λ_ S=>some (d,S)
section
variable{pos:Pos}
theorem GI (i:Nat){x:Str}(hN:X.N[i]?=Z x)(hv:Vis X.env.scope x)(hd:autoParam ((x == ("__debug__":Str))=J) bu0)(hcd:autoParam ((x == ("__classdict__":Str))=J) bu0):ME X (.Name x pos) (mV i):=
 ff (Ai hN hv hd hcd) <| by
  rintro σ H Q ⟨r,mu,S,d,h,f,b,a,hc⟩;unfold mV at a;split at a
  ·rename_i j e;cases a;obtain⟨v,g,c⟩:=f.val i _ e;exact⟨v,g,hc v H mu (.refl _ _) c b⟩
  ·cases a
theorem GR{e:Expr}{v:V}(d:D)(h:PE X e (tC v))(hr:∀H mu,fc X.K H mu d v):ME X e (mC d):=
 ff h <| by
  rintro σ H Q ⟨r,mu,S,f,c,g,a,b,hc⟩;cases b;exact hc v H mu (.refl _ _) (hr H mu) a
theorem GP{i:Int}{j}:ME X (.Constant (.int i) j pos) (mC (.int i)):=GR _ Gb λ_ _=>.int i
theorem IY{b:Bool}{j}:ME X (.Constant (.bool b) j pos) (mC (.bl b)):=GR _ IE λ_ _=>.bl b
theorem GN{j}:ME X (.Constant .none j pos) (mC .non):=GR _ F9 λ_ _=>.non
end
noncomputable def d6:FA:=λ_ S=>Z ([],S)
noncomputable def d5 (m:FE)(n:FA):FA:=λr S=>(m r S).bind λp=>(n r p.2).bind λq=>some (p.1::q.1,q.2)
section
variable{pos:Pos}{e:Expr}{es:List Expr}{m:FE}{n:FA}
theorem GU:MA X [] d6:=Ao rG <| by
 rintro σ H Q ⟨r,mu,S,ds,d,c,a,b,hc⟩;cases b;exact hc [] H mu (.refl _ _) .nil a
theorem Dv(h:ME X e m)(ht:MA X es n)(hs:autoParam (dV (e::es) X.env=(J,eval e X.env)::dV es X.env) au0):MA X (e::es) (d5 m n):=
 Ao (lV h ht hs) <| by
  rintro σ H Q ⟨r,mu,S,ds,t,j,hs,a,hc⟩;unfold d5 at a;obtain⟨⟨d,g⟩,q,a⟩:=PC a;obtain⟨⟨b,s⟩,l,a⟩:=PC a;cases a;refine⟨r,mu,S,d,g,j,hs,q,λv H1 mu1 f o k=>?_⟩;refine⟨r,mu1,g,b,_,j.ext f,k,l,λvs H2 c i r2 p=>?_⟩;exact hc _ H2 c (f.trans i) (.cons (o.ext i) r2) p
end
noncomputable def m2 (f:FN)(a b:FE):FE:=λr S=>(a r S).bind λp=>(b r p.2).bind λq=>f [p.1,q.1] q.2
noncomputable def m1 (f:FN)(a:FE):FE:=λr S=>(a r S).bind λp=>f [p.1] p.2
noncomputable def mN (f:FN)(a:FA):FE:=λr S=>(a r S).bind λp=>f p.1 p.2
abbrev r2(K:Fg1)(f:FN):R2:=λx y H Q=>rN K f [x,y] H Q
section
variable{K:Fg1}{f:FN}{a b:FE}{σ:L2.St}{H:Hp}{Q:VK}
theorem wS(h:tM K (m2 f a b) σ H Q):Ia (r2 K f) (tM K a) (tM K b) σ H Q:=by
 obtain⟨r,mu,S,d,B,k,x,c,hc⟩:=h;obtain⟨⟨n,m⟩,y,c⟩:=PC c;obtain⟨⟨i,l⟩,p,c⟩:=PC c;refine⟨r,mu,S,n,m,k,x,y,λv H1 mu1 j s A=>?_⟩;refine⟨r,mu1,m,i,l,k.ext j,A,p,λu H2 g o r2 t=>?_⟩;exact⟨g,l,[n,i],d,B,.cons (s.ext o) (.cons r2 .nil),t,c,λv q e z C w=>hc v q e ((j.trans o).trans z) C w⟩
theorem I3(h:tM K (m1 f a) σ H Q):Lo (λx H Q=>rN K f [x] H Q) (tM K a) σ H Q:=by
 obtain⟨r,mu,S,d,k,q,n,c,hc⟩:=h;obtain⟨⟨e,g⟩,s,c⟩:=PC c;refine⟨r,mu,S,e,g,q,n,s,λv H1 mu1 m p j=>?_⟩;exact⟨mu1,g,[e],d,k,.cons p .nil,j,c,λv o b t l i=>hc v o b (m.trans t) l i⟩
theorem AR{a:FA}(h:tM K (mN f a) σ H Q):Lp K a σ H λvs H1=>rN K f vs H1 Q:=by
 obtain⟨r,mu,S,d,k,q,n,c,hc⟩:=h;obtain⟨⟨e,g⟩,s,c⟩:=PC c;refine⟨r,mu,S,e,g,q,n,s,λv H1 mu1 m p j=>?_⟩;exact⟨mu1,g,e,d,k,p,j,c,λv o b t l i=>hc v o b (m.trans t) l i⟩
theorem IV{op:M4}{x y:Expr}{pos:Pos}(ho:gJ X (Nm op) (r2 X.K f))(hx:ME X x a)(hy:ME X y b):ME X (.BinOp x op y pos) (m2 f a b):=ff (IB ho hx hy) λ_ _ _=>wS
theorem IU{op:UnaryOp}{x:Expr}{pos:Pos}(ho:HR X (unaryOp op) (λx H Q=>rN X.K f [x] H Q))(hx:ME X x a):ME X (.UnaryOp op x pos) (m1 f a):=ff (IA ho hx) λ_ _ _=>I3
theorem GQ{op:No}{x y:Expr}{pos:Pos}(ho:gJ X (Nn op) (r2 X.K f))(hx:ME X x a)(hy:ME X y b)(hm:Np op y=J):ME X (.Compare x [op] [y] pos) (m2 f a b):=ff (C5 ho hx hy hm) λ_ _ _=>wS
theorem IW{x y:Expr}{pos:Pos}(ho:EU X (r2 X.K f))(hx:ME X x a)(hy:ME X y b)(hs:nW y):ME X (.Subscript x y pos) (m2 f a b):=ff (IC ho hx hy hs) λ_ _ _=>wS
theorem AO {x:Str}{p pos:Pos}{e:Expr}{es:List Expr}{id:String}{a:FA}(hc:fi X (.builtin id) (rN X.K f))(hg:Gl X x)(hm:X.mg x=none)(hv:L5 x=some (.builtin id))(ha:MA X (e::es) a)(hn:autoParam (x≠"__name__") bu0)(hdb:autoParam ((x == ("__debug__":Str))=false) bu0)
  (he:autoParam (dV (e::es) X.env=(J,eval e X.env)::dV es X.env) au0) (hpl:autoParam ((MR pos (dV es X.env)).any (·.1)=J) au0):ME X (.Call (.Name x p) (e::es) [] pos) (mN f a):=
 ff (tO hc hg hm hv ha hn hdb he hpl) λ_ _ _=>AR
theorem yp {x:Str}{p pos:Pos}{e:Expr}{es:List Expr}{T:String}{a:FA}(hc:fi X (.type T) (rN X.K f))(hg:Gl X x)(hm:X.mg x=none)(hv:L5 x=some (.type T))(ha:MA X (e::es) a)(hn:autoParam (x≠"__name__") bu0)(hdb:autoParam ((x == ("__debug__":Str))=false) bu0)
  (he:autoParam (dV (e::es) X.env=(J,eval e X.env)::dV es X.env) au0) (hpl:autoParam ((MR pos (dV es X.env)).any (·.1)=J) au0):ME X (.Call (.Name x p) (e::es) [] pos) (mN f a):=
 ff (mL hc hg hm hv ha hn hdb he hpl) λ_ _ _=>AR
end
noncomputable def mB (m:FE):FT:=λr S=>(m r S).bind λp=>match p.1 with
 | .bl b=>some (b,p.2)
 |_=>none
theorem EI{K:Fg1}{m:FE}{σ:L2.St}{H:Hp}{Q:Bool->Hp->Prop}(h:zy K (mB m) σ H Q):tB (tM K m) σ H Q:=by
 obtain⟨r,mu,S,b,l,i,f,a,hc⟩:=h;obtain⟨⟨c,n⟩,j,a⟩:=PC a;cases c with
 |bl k=>
  cases a;refine⟨r,mu,S,_,_,i,f,j,λv H1 mu1 e g d=>?_⟩;cases g;exact⟨_,O,hc H1 mu1 e d⟩
 |_=>cases a
noncomputable def rY(a b:FT):FT:=λr S=>(a r S).bind λp=>if p.1=M then b r p.2 else Z (J,p.2)
noncomputable def mOr(a b:FT):FT:=λr S=>(a r S).bind λp=>if p.1=M then Z (M,p.2)else b r p.2
noncomputable def rW(a:FT):FT:=λr S=>(a r S).bind λp=>Z (!p.1,p.2)
noncomputable def kP(a b:FE):FE:=λr S=>(a r S).bind λp=>match p.1 with
 | .bl c=>if c=M then b r p.2 else Z (.bl J,p.2)
 |_=>Y
noncomputable def Mk(a b:FE):FE:=λr S=>(a r S).bind λp=>match p.1 with
 | .bl c=>if c=M then Z (.bl M,p.2)else b r p.2
 |_=>Y
noncomputable def ua(a:FE):FE:=λr S=>(a r S).bind λp=>match p.1 with
 | .bl c=>Z (.bl (!c),p.2)
 |_=>Y
noncomputable def I0(c:FT)(a b:FE):FE:=λr S=>(c r S).bind λp=>if p.1=M then a r p.2 else b r p.2
section
variable{x y c:Expr}{rest:List Expr}{pos:Pos}{a b:FT}{f g:FE}
theorem Gv{op:No}{f:FN}{a b:FE}(ho:gJ X (Nn op) (r2 X.K f))(hx:ME X x a)(hy:ME X y b)(hm:Np op y=J):MT X (.Compare x [op] [y] pos) (mB (m2 f a b)):=
 rB (CO ho hx hy hm) fun σ H Q h=>by
  obtain⟨r,mu,S,d,e,k,i,hm,hc⟩:=EI h;exact wS ⟨r,mu,S,d,e,k,i,hm,λv H' mu' g j c=>hc v H' mu' g j c⟩
theorem Dh(ha:MT X x a):MW X (.BoolOp .And [x] pos) a:=CL ha
theorem Gr(ha:MT X x a):MW X (.BoolOp .Or [x] pos) a:=FJ ha
theorem Gs(ha:MT X x a)(hb:MW X (.BoolOp .And (y::rest) pos) b):MW X (.BoolOp .And (x::y::rest) pos) (rY a b):=
 zU (FK ha hb) <| by
  rintro σ H Q ⟨r,mu,S,k,i,h,l,c,hc⟩;obtain⟨⟨b1,g⟩,n,c⟩:=PC c;refine⟨r,mu,S,b1,g,h,l,n,λH1 mu1 d f=>?_⟩;cases b1 with
  |true=>exact⟨r,mu1,g,k,i,h.ext d,f,c,λH2 e j m=>hc H2 e (d.trans j) m⟩
  |false=>cases c;exact hc H1 mu1 d f
theorem IR(ha:MT X x a)(hb:MW X (.BoolOp .Or (y::rest) pos) b):MW X (.BoolOp .Or (x::y::rest) pos) (mOr a b):=
 zU (Iv ha hb) <| by
  rintro σ H Q ⟨r,mu,S,k,i,h,l,c,hc⟩;obtain⟨⟨b1,g⟩,n,c⟩:=PC c;refine⟨r,mu,S,b1,g,h,l,n,λH1 mu1 d f=>?_⟩;cases b1 with
  |false=>exact⟨r,mu1,g,k,i,h.ext d,f,c,λH2 e j m=>hc H2 e (d.trans j) m⟩
  |true=>cases c;exact hc H1 mu1 d f
theorem KQ(h:MW X x a):MT X x a:=PW.pt h
theorem Gu(ha:MT X x a):MT X (.UnaryOp .Not x pos) (rW a):=
 rB (FM ha) <| by
  rintro σ H Q ⟨r,mu,S,k,i,g,f,b,hc⟩;obtain⟨⟨b1,e⟩,h,b⟩:=PC b;cases b;exact⟨r,mu,S,b1,e,g,f,h,λH1 mu1 d c=>hc H1 mu1 d c⟩
theorem GL{op}(h:ME X x f):ME X (.BoolOp op [x] pos) f:=F7 h
theorem GS(ha:ME X x f)(hb:ME X (.BoolOp .And (y::rest) pos) g):ME X (.BoolOp .And (x::y::rest) pos) (kP f g):=
 ff (Ge ha hb) <| by
  rintro σ H Q ⟨r,mu,S,k,l,i,n,a,hc⟩;obtain⟨⟨d,h⟩,q,a⟩:=PC a;refine⟨r,mu,S,d,h,i,n,q,λv H1 mu1 b o e=>?_⟩;cases d with
  |bl b1=>
   cases o;refine⟨b1,O,?_⟩;cases b1 with
   |true=>exact⟨r,mu1,h,k,l,i.ext b,e,a,λj H2 c m r2 p=>hc j H2 c (b.trans m) r2 p⟩
   |false=>cases a;exact hc _ H1 mu1 b (.bl J) e
  |_=>cases a
theorem GM(ha:ME X x f):ME X (.UnaryOp .Not x pos) (ua f):=
 ff (F8 ha) <| by
  rintro σ H Q ⟨r,mu,S,k,l,i,g,a,hc⟩;obtain⟨⟨b,e⟩,j,a⟩:=PC a;refine⟨r,mu,S,b,e,i,g,j,λv H1 mu1 d h c=>?_⟩;cases b with
  |bl b1=>
   cases h;cases a;exact⟨b1,O,hc _ H1 mu1 d (.bl _) c⟩
  |_=>cases a
theorem IX(hc:MT X c a)(hx:ME X x f)(hy:ME X y g):ME X (.IfExp c x y pos) (I0 a f g):=
 ff (Ak hc hx hy) <| by
  rintro σ H Q ⟨r,mu,S,k,o,l,p,e,hc⟩;obtain⟨⟨b1,i⟩,q,e⟩:=PC e;refine⟨r,mu,S,b1,i,l,p,q,λH1 mu1 d n=>?_⟩;cases b1 with
  |true=>exact⟨r,mu1,i,k,o,l.ext d,n,e,λh H2 b j r2 m=>hc h H2 b (d.trans j) r2 m⟩
  |false=>exact⟨r,mu1,i,k,o,l.ext d,n,e,λh H2 b j r2 m=>hc h H2 b (d.trans j) r2 m⟩
end
noncomputable def mCh(f g:FN)(a b c:FE):FE:=λr S=>(a r S).bind λp=>(b r p.2).bind λq=>(f [p.1,q.1] q.2).bind λt=>match t.1 with
 | .bl k=>if k=M then(c r t.2).bind λz=>g [q.1,z.1] z.2 else Z (.bl J,t.2)
 |_=>Y
section
variable{x y z:Expr}{pos:Pos}{f g:FN}{a b c:FE}{op op':No}
theorem AU{K:Fg1}{σ:L2.St}{H:Hp}{Q:VK}(h:tM K (mCh f g a b c) σ H Q):vj (r2 K f) (r2 K g) (tM K a) (tM K b) (tM K c) σ H Q:=by
 obtain⟨r,mu,S,d,R,p,L,e,hc⟩:=h;obtain⟨⟨B,w⟩,ao,e⟩:=PC e;obtain⟨⟨n,v⟩,D,e⟩:=PC e;obtain⟨⟨t,u⟩,C,e⟩:=PC e;refine⟨r,mu,S,B,w,p,L,ao,λv1 H1 mu1 j G P=>?_⟩;refine⟨r,mu1,w,n,v,p.ext j,P,D,λv2 H2 q m r2 I=>?_⟩;refine⟨q,v,[B,n],t,u,.cons (G.ext m) (.cons r2 .nil),I,C,λaq F i l T y=>?_⟩;cases t with
 |bl k=>
  cases T;refine⟨k,O,?_⟩;cases k with
  |false=>cases e;exact hc _ F i ((j.trans m).trans l) (.bl J) y
  |true=>
   obtain⟨⟨x,A⟩,U,e⟩:=PC e;refine⟨r,i,u,x,A,p.ext ((j.trans m).trans l),y,U,λv4 wq o z W V=>?_⟩;exact⟨o,A,[n,x],d,R,.cons ((r2.ext l).ext z) (.cons W .nil),V,e,λX N s E au am=>hc X N s ((((j.trans m).trans l).trans z).trans E) au am⟩
 |_=>cases e
theorem AN(ho:gJ X (Nn op) (r2 X.K f))(ho':gJ X (Nn op') (r2 X.K g))(hx:ME X x a)(hy:ME X y b)(hz:ME X z c)(hm:autoParam (lastMarks [op,op'] [y,z]=false) An._auto_1):
  ME X (.Compare x [op,op'] [y,z] pos) (mCh f g a b c):=ff (An ho ho' hx hy hz hm) λ_ _ _=>AU
theorem AD(ho:gJ X (Nn op) (r2 X.K f))(ho':gJ X (Nn op') (r2 X.K g))(hx:ME X x a)(hy:ME X y b)(hz:ME X z c)(hm:autoParam (lastMarks [op,op'] [y,z]=false) An._auto_1):
  MT X (.Compare x [op,op'] [y,z] pos) (mB (mCh f g a b c)):=
 rB (zW ho ho' hx hy hz hm) fun σ H Q h=>by
  obtain⟨r,mu,S,d,i,m,k,hm,hc⟩:=EI h;exact AU ⟨r,mu,S,d,i,m,k,hm,λv H' mu' j l e=>hc v H' mu' j l e⟩
end
mutual
noncomputable def D.und(n:Nat):D->Bool
 | .tup xs=>D.unds n xs
 | .rol xs=>D.unds n xs
 | .ref k=>decide (k<n)
 | .non=>M
 | .bl _=>M
 | .int _=>M
 | .str _=>M
 | .fn _=>M
noncomputable def D.unds(n:Nat):List D->Bool
 |[]=>M
 |d::ds=>D.und n d&&D.unds n ds
end
noncomputable def D.sames(a b:List D):Bool:=@decide (a=b) (Classical.propDecidable _)
theorem D.sames_eq{a b:List D}(h:D.sames a b=M):a=b:=@N9 _ (Classical.propDecidable _) h
theorem D.sames_refl(a:List D):D.sames a a=M:=@decide_eq_true _ (Classical.propDecidable _) O
section
variable{K:Fg1}{H:Hp}{mu mu':List dP}
theorem fc.cut{n:Nat}(h:∀ k,k<n->mu[k]? = mu'[k]?):∀ {d:D} {v:V},fc K H mu d v->d.und n=true->fc K H mu' d v:=fun c=>c.rec (motive_1:=fun d v _=>d.und n=true->fc K H mu' d v) (motive_2:=fun ds vs _=>D.unds n ds=true->ej K H mu' ds vs)
  (λ_=>.non) (λb _=>.bl b) (λi _=>.int i) (λx _=>.str x) (λq _ ih e=>.tup q (ih (by rw[D.und]at e;exact e))) (λq _ ih e=>.rol q (ih (by rw[D.und]at e;exact e)))
  (λq e=>.ref (by rw[D.und]at e;rw[<- h _ (N9 e)];exact q)) (λq _=>.fn q) (λ_=>.nil) (λ_ _ a b e=>by rw[D.unds,bA1]at e;exact .cons (a e.1) (b e.2))
theorem ej.cut{n:Nat}(h:∀k,k<n->mu[k]?=mu'[k]?):∀{ds:List D} {vs:List V},ej K H mu ds vs->D.unds n ds=M->ej K H mu' ds vs:=λa=>a.ind (P:=λds vs _=>D.unds n ds=M->ej K H mu' ds vs) (λ_=>.nil) λr _ b e=>by rw[D.unds,bA1]at e;exact .cons (fc.cut h r e.1) (b e.2)
end
noncomputable def Ob.und(n:Nat):Ob->Bool
 | .lst xs=>D.unds n xs
 | .dct kvs=>D.unds n (kvs.map (·.2))
 | .dcT kvs=>D.unds n (kvs.map (·.2))
 | .iset _=>M
 | .dcF kvs=>D.unds n (kvs.map (·.2))
 | .tst _=>M
theorem KR.cut{κ:Type}{K:Fg1}{H:Hp}{mu mu':List dP}{n:Nat}(h:∀k,k<n->mu[k]?=mu'[k]?):∀{ks:List (κ×D)} {ws:List (κ×V)},KR K H mu ks ws->D.unds n (ks.map (·.2))=M->KR K H mu' ks ws:=by
 intro ks ws a e
 induction a with
 |nil=>exact .nil
 |cons r t ih=>
  rw[mP1,D.unds,bA1]at e;exact .cons ⟨r.1,r.2.cut h e.1⟩ (ih e.2)
mutual
theorem zt(n:Nat):∀k:TK,(lA k).und n=M
 | .non=>rfl
 | .int _=>rfl
 | .tup xs=>by rw[lA,D.und];exact wu n xs
theorem wu(n:Nat):∀ks:List TK,D.unds n (lz ks)=M
 |[]=>rfl
 |x::xs=>by rw[lz,D.unds,zt n x,wu n xs];rfl
end
theorem KT.cut{K:Fg1}{H:Hp}{mu mu':List dP}{n:Nat}(h:∀k,k<n->mu[k]?=mu'[k]?):∀{ks:List (TK×D)} {ws:List (TK×dP×dM)},KT K H mu ks ws->D.unds n (ks.map (·.2))=M->KT K H mu' ks ws:=by
 intro ks ws a e
 induction a with
 |nil=>exact .nil
 |cons r t ih=>
  rw[mP1,D.unds,bA1]at e;obtain⟨z,d,k,v,b,r⟩:=r;exact .cons ⟨z,d,k.cut h (zt n _),v,b,r.cut h e.1⟩ (ih e.2)
theorem wN(n:Nat):∀ks:List TK,D.unds n ((ks.map λk=>(k,D.non)).map (·.2))=M
 |[]=>rfl
 |_::ks=>by rw[mP1,mP1,D.unds,wN n ks];rfl
theorem nw.cut{K:Fg1}{H:Hp}{mu mu':List dP}{n:Nat}{a:dP}(h:∀k,k<n->mu[k]?=mu'[k]?):∀{o:Ob},nw K H mu a o->o.und n=M->nw K H mu' a o
 | .lst _,⟨vs,e,r⟩,b=>⟨vs,e,r.cut h b⟩
 | .dct _,⟨ws,e,r⟩,b=>⟨ws,e,KR.cut h r b⟩
 | .dcT _,⟨ws,e,r,l⟩,b=>⟨ws,e,KT.cut h r b,l⟩
 | .iset _,q,_=>q
 | .dcF _,⟨ws,e,r,l⟩,b=>⟨ws,e,KT.cut h r b,l⟩
 | .tst ks,⟨ws,e,r⟩,_=>⟨ws,e,KT.cut h r (wN n ks)⟩
def gc(n:Nat)(p:D×d7):D×d7:=if p.1.und n&&(p.2.take n).all (Ob.und n)then(p.1,p.2.take n)else p
mutual
noncomputable def D.sh(n:Nat):D->D
 | .tup xs=>.tup (D.shs n xs)
 | .rol xs=>.rol (D.shs n xs)
 | .ref k=>.ref (n+k)
 | .fn x=>.fn x
 | .non=>.non
 | .bl b=>.bl b
 | .int i=>.int i
 | .str x=>.str x
noncomputable def D.shs(n:Nat):List D->List D
 |[]=>[]
 |d::ds=>D.sh n d::D.shs n ds
end
def Ob.sh(n:Nat):Ob->Ob
 | .lst xs=>.lst (D.shs n xs)
 | .dct kvs=>.dct (kvs.map λp=>(p.1,p.2.sh n))
 | .dcT kvs=>.dcT (kvs.map λp=>(p.1,p.2.sh n))
 | .iset xs=>.iset xs
 | .dcF kvs=>.dcF (kvs.map λp=>(p.1,p.2.sh n))
 | .tst ks=>.tst ks
theorem fc.sh{K:Fg1}{H:Hp}{mu mu':List dP}:∀ {d:D} {v:V},fc K H mu' d v->fc K H (mu++mu') (d.sh mu.length) v:=fun c=>c.rec (motive_1:=fun d v _=>fc K H (mu++mu') (d.sh mu.length) v) (motive_2:=fun ds vs _=>ej K H (mu++mu') (D.shs mu.length ds) vs)
  .non .bl .int .str (λh _ ih=>.tup h ih) (λh _ ih=>.rol h ih) (λh=>.ref (by rw[gR1 (br _ _),bu];exact h)) (λh=>.fn h) .nil (λ_ _ a b=>.cons a b)
theorem ej.sh{K:Fg1}{H:Hp}{mu mu':List dP}:∀{ds:List D} {vs:List V},ej K H mu' ds vs->ej K H (mu++mu') (D.shs mu.length ds) vs:=λh=>h.ind (P:=λds vs _=>ej K H (mu++mu') (D.shs mu.length ds) vs) .nil λr _ ih=>.cons (fc.sh r) ih
theorem KR.sh{κ:Type}{K:Fg1}{H:Hp}{mu mu':List dP}:∀{ks:List (κ×D)} {ws:List (κ×V)},KR K H mu' ks ws->KR K H (mu++mu') (ks.map λp=>(p.1,p.2.sh mu.length)) ws:=by
 intro ks ws h
 induction h with
 |nil=>exact .nil
 |cons r t ih=>exact .cons ⟨r.1,r.2.sh⟩ ih
mutual
theorem Ew(n:Nat):∀k:TK,(lA k).sh n=lA k
 | .non=>rfl
 | .int _=>rfl
 | .tup xs=>by rw[lA,D.sh,zq n xs]
theorem zq(n:Nat):∀ks:List TK,D.shs n (lz ks)=lz ks
 |[]=>rfl
 |x::xs=>by rw[lz,D.shs,Ew n x,zq n xs]
end
theorem KT.sh{K:Fg1}{H:Hp}{mu mu':List dP}:∀{ks:List (TK×D)} {ws:List (TK×dP×dM)},KT K H mu' ks ws->KT K H (mu++mu') (ks.map λp=>(p.1,p.2.sh mu.length)) ws:=by
 intro ks ws h
 induction h with
 |nil=>exact .nil
 |cons r t ih=>
  obtain⟨z,d,k,v,a,r⟩:=r;exact .cons ⟨z,d,by have:=k.sh (mu:=mu);rw[Ew]at this;exact this,v,a,r.sh⟩ ih
theorem nw.sh{K:Fg1}{H:Hp}{mu mu':List dP}{a:dP}:∀{o:Ob},nw K H mu' a o->nw K H (mu++mu') a (o.sh mu.length)
 | .lst _,⟨vs,e,r⟩=>⟨vs,e,r.sh⟩
 | .dct _,⟨ws,e,r⟩=>⟨ws,e,KR.sh r⟩
 | .dcT _,⟨ws,e,r,l⟩=>⟨ws,e,KT.sh r,l⟩
 | .iset _,q=>q
 | .dcF _,⟨ws,e,r,l⟩=>⟨ws,e,KT.sh r,l⟩
 | .tst ks,⟨ws,e,r⟩=>⟨ws,e,by have:=KT.sh (mu:=mu) r;rw[bv]at this;exact this⟩
theorem fc.mor{K:Fg1}{H:Hp}{mu:List dP}(mu':List dP):∀{d:D} {v:V},fc K H mu d v->fc K H (mu++mu') d v:=λh=>h.exv ⟨bw _ _,λ_ _ h=>h,λ_ _ _ h=>h⟩
theorem ej.mor{K:Fg1}{H:Hp}{mu:List dP}(mu':List dP):∀{ds:List D} {vs:List V},ej K H mu ds vs->ej K H (mu++mu') ds vs:=λh=>h.exv ⟨bw _ _,λ_ _ h=>h,λ_ _ _ h=>h⟩
theorem KR.mor{κ:Type}{K:Fg1}{H:Hp}{mu:List dP}(mu':List dP){ks:List (κ×D)}{ws:List (κ×V)}(h:KR K H mu ks ws):KR K H (mu++mu') ks ws:=Paired.mapP h λ_ _ z=>⟨z.1,z.2.mor mu'⟩
theorem nw.mor{K:Fg1}{H:Hp}{mu:List dP}{a:dP}(mu':List dP):∀{o:Ob},nw K H mu a o->nw K H (mu++mu') a o
 | .lst _,⟨vs,e,r⟩=>⟨vs,e,r.mor mu'⟩
 | .dct _,⟨ws,e,r⟩=>⟨ws,e,KR.mor mu' r⟩
 | .dcT _,⟨ws,e,r,l⟩=>⟨ws,e,Paired.mapP r λ_ _ ⟨z,d,k,v,b,r⟩=>⟨z,d,k.mor mu',v,b,r.mor mu'⟩,l⟩
 | .iset _,q=>q
 | .dcF _,⟨ws,e,r,l⟩=>⟨ws,e,Paired.mapP r λ_ _ ⟨z,d,k,v,b,r⟩=>⟨z,d,k.mor mu',v,b,r.mor mu'⟩,l⟩
 | .tst _,⟨ws,e,r⟩=>⟨ws,e,Paired.mapP r λ_ _ ⟨z,d,k,v,b,r⟩=>⟨z,d,k.mor mu',v,b,r.mor mu'⟩⟩
def qx(f:FN):FN:=λds S=>if D.unds 0 ds=M then(f ds []).map λp=>if p.1.und 0=M then(p.1,S)else(p.1.sh S.length,S++p.2.map (Ob.sh S.length))else(f ds S).map (gc S.length)
theorem nw.keep{K:Fg1}{H H':Hp}{mu:List dP}{a:dP}(e:Ext mu mu H H')(h:∀o,H a=Z o->H' a=Z o):∀{o:Ob},nw K H mu a o->nw K H' mu a o
 | .lst _,⟨vs,q,r⟩=>⟨vs,h _ q,r.ext e⟩
 | .dct _,⟨ws,q,r⟩=>⟨ws,h _ q,KR.ext e r⟩
 | .dcT _,⟨ws,q,r,l⟩=>⟨ws,h _ q,KT.ext e r,l⟩
 | .iset _,q=>⟨h _ q.1,q.2⟩
 | .dcF _,⟨ws,⟨o,u,c,b⟩,r,l⟩=>⟨ws,⟨o,u,h _ c,b⟩,KT.ext e r,l⟩
 | .tst _,⟨ws,q,r⟩=>⟨ws,h _ q,KT.ext e r⟩
theorem BI{K:Fg1}{f:FN}{vs:List V}{H:Hp}{Q:VK}(h:rN K (qx f) vs H Q):rN K f vs H Q:=by
 obtain⟨mu,S,ds,d,ao,C,c,g,hc⟩:=h;unfold qx at g;split at g
 ·rename_i j;obtain⟨⟨y,p⟩,A,g⟩:=PD g;refine⟨[],[],ds,y,p,C.cut (n:=0) (λk i=>absurd i (bA _)) j,.nil,A,λv H' mu' x r s=>?_⟩;have B:Ext mu mu H H':=⟨bo,λa o e _=>x.old a o e (by simp),x.tup,x.frz,λ_ z=>.inl z⟩;dsimp only at g;split at g
  ·rename_i am;cases g;refine hc v H' mu B (r.cut (n:=0) (λk i=>absurd i (bA _)) am) ⟨c.len,c.nd,λn o a h1 h2=>?_⟩;exact(c.ob n o a h1 h2).keep B λo e=>x.old a o e (by simp)
  ·cases g;have D:∀ a∈mu',H a=none:=fun a w=>(x.new a w).resolve_left (by simp);have L:Ext mu (mu++mu') H H':=⟨bw _ _,fun a o e _=>x.old a o e (by simp),x.tup,x.frz,fun a z=>by
    rcases aG.mp z with z|z
    ·exact .inl z
    ·exact .inr (D a z)⟩
   refine hc v H' (mu++mu') L (by rw[<- c.len];exact r.sh) ⟨by rw[lA1,lA1,lM1,c.len,s.len],?_,λn o a h1 h2=>?_⟩
   ·refine bB.mpr ⟨c.nd,s.nd,λa w b j z=>?_⟩;subst z;obtain⟨o,e⟩:=c.here w;rw[D a j]at e;cases e
   ·by_cases l:n<S.length
    ·rw[gL1 l]at h1;rw[gL1 (by rw[c.len];exact l)]at h2;exact((c.ob n o a h1 h2).keep B λo e=>x.old a o e (by simp)).mor mu'
    ·have m:=Nat.le_of_not_lt l;rw[gR1 m]at h1;rw[gR1 (by rw[c.len];exact m)]at h2;rw[gP1]at h1;obtain⟨G,I,F⟩:=PD h1;subst F;have q:=s.ob (n-S.length) G a I (by rw[c.len]at h2;exact h2);rw[<- c.len];exact q.sh
 ·obtain⟨⟨y,p⟩,A,g⟩:=PD g;refine⟨mu,S,ds,y,p,C,c,A,λv H' mu' x r s=>?_⟩;unfold gc at g;split at g
  ·rename_i j;cases g;rw [bA1] at j;have i:∀ k,k<S.length->mu'[k]? = mu[k]?:=fun k i=>by
    obtain⟨t,rfl⟩:=x.pre;rw[gL1 (by rw[c.len];exact i)]
   refine hc v H' mu x.back (r.cut i j.1) ⟨?_,c.nd,λn o a h1 h2=>?_⟩
   ·have:=s.len;have E:=x.pre.length_le;rw[aT,<- s.len];rw[c.len]at E ⊢;exact(bC E).symm
   ·have l:n<S.length:=by rw[<- c.len];exact(PB h2).1
    have u:p[n]?=Z o:=by rw[aV l]at h1;exact h1
    refine(s.ob n o a u ((i n l).trans h2)).cut i ?_;exact bD.mp j.2 o (gM1 h1)
  ·cases g;exact hc v H' mu' x r s
noncomputable def spM(K:Fg1)(n:Nat)(f:FN):Sp:=λvs H Q _=>vs.length=n/\rN K f vs H Q
section
variable{k n:Nat}{f:dP}{fd:d2}{ps:List Str}{x:Str}{p pos:Pos}{e:Expr}{es:List Expr}{m:FN}{a:FA}
noncomputable def ea (n:Nat)(f:FN):FN:=λds S=>if ds.length=n then qx f ds S else none
theorem Du (F:m3 X.prog X.w X.K X.mg X.base uY k f fd ps (spM X.K n m))(hr:gl k X.A)(hg:Gl X x)(hm:X.mg x=some (.ref f))(hk:wK1 X.K (.ref f)=true)(hb:kb X.K fd ps [])
  (ha:MA X (e::es) a) (hdb:autoParam ((x == ("__debug__":Str))=J) bu0) (he:autoParam (dV (e::es) X.env=(J,eval e X.env)::dV es X.env) au0) (hpl:autoParam ((MR pos (dV es X.env)).any (·.1)=J) au0):
  ME X (.Call (.Name x p) (e::es) [] pos) (mN (ea n m) a):=
 ff (C6 (E:=E0) F hr hg hm hk hb .nil IF ha hdb he hpl) fun σ H Q h=>by
  obtain⟨r,mu,S,ds,o,he,u,hm,hc⟩:=AR h;refine⟨r,mu,S,ds,o,he,u,hm,λvs H' mu' s w l=>?_⟩;have q:=hc vs H' mu' s w l;show spM X.K n m (vs++[]) H' Q E0;rw[aP];obtain⟨c,i,d,j,t,h1,h2,b,g⟩:=q;unfold ea at b;split at b
  ·rename_i v;exact⟨by rw[<- h1.length];exact v,BI ⟨c,i,d,j,t,h1,h2,b,g⟩⟩
  ·cases b
end
noncomputable def nA:FS:=λr S=>Z (.nx,r,S)
noncomputable def et (a b:FS):FS:=λr S=>(a r S).bind λp=>match p.1 with
 | .nx=>b p.2.1 p.2.2
 |f=>some (f,p.2.1,p.2.2)
noncomputable def eW (m:FE):FS:=λr S=>(m r S).bind λp=>some (.rt p.1,r,p.2)
noncomputable def Lu:FS:=λr S=>Z (.rt .non,r,S)
noncomputable def fQ (m:FE):FS:=λr S=>(m r S).bind λp=>some (.nx,r,p.2)
noncomputable def fV (c:FT)(a b:FS):FS:=λr S=>(c r S).bind λp=>if p.1=true then a r p.2 else b r p.2
section
variable{pos:Pos}{e c:Expr}{st:d3}{rest as bs:List d3}{a b:FS}{m:FE}{t:FT}
theorem Dj:yP X [] nA:=rE CQ <| by
 rintro E σ H ⟨r,mu,S,f,d,e,b,a,c,hc⟩;cases c;exact hc σ H mu (.refl _ _) b a
theorem AF(h1:MS X st a)(h2:yP X rest b):yP X (st::rest) (et a b):=rE (zX h1 h2) <| by
 rintro E σ H ⟨r,mu,S,f,o,p,t,q,h,hc⟩;obtain⟨⟨l,n,m⟩,u,h⟩:=PC h;refine⟨r,mu,S,l,n,m,t,q,u,?_⟩;cases l with
 |nx=>
  intro s H1 mu1 i k j;refine⟨n,mu1,m,f,o,p,k,j,h,?_⟩;cases f with
  |nx=>exact λe H2 c g=>hc e H2 c (i.trans g)
  |bk=>exact λe H2 c g=>hc e H2 c (i.trans g)
  |ct=>exact λe H2 c g=>hc e H2 c (i.trans g)
  |rt d=>exact λv H2 c g=>hc v H2 c (i.trans g)
 |bk=>cases h;exact hc
 |ct=>cases h;exact hc
 |rt d=>cases h;exact hc
theorem Di(h1:MS X st a):yP X [st] a:=CP h1
theorem Dk(h:ME X e m)(hs:autoParam (MZ e Y pos.line X.env=pure J) au0):MS X (.Expr e pos) (fQ m):=im (CS h hs) <| by
 rintro E σ H ⟨r,mu,S,f,i,j,b,hs,a,hc⟩;obtain⟨⟨d,k⟩,g,a⟩:=PC a;cases a;exact⟨r,mu,S,d,_,b,hs,g,λv H' mu' x l c=>hc σ H' mu' x (b.ext x) c⟩
theorem Gx(h:ME X e m):MS X (.Return (Z e) pos) (eW m):=im (FQ h) <| by
 rintro E σ H ⟨r,mu,S,f,i,j,c,b,a,hc⟩;obtain⟨⟨d,k⟩,g,a⟩:=PC a;cases a;exact⟨r,mu,S,d,_,c,b,g,hc⟩
theorem IS(hc:MT X c t)(ha:yP X as a)(hb:yP X bs b):MS X (.If c as bs pos) (fV t a b):=im (Ix hc ha hb) <| by
 rintro E σ H ⟨r,mu,S,f,m,o,p,s,i,hc⟩;obtain⟨⟨k,l⟩,u,i⟩:=PC i;refine⟨r,mu,S,k,l,p,s,u,λH1 mu1 j q=>?_⟩;have n:∀c:FS,c r l=Z (f,m,o)->wx X.K c E σ H1:=λc i=>by
  refine⟨r,mu1,l,f,m,o,p.ext j,q,i,?_⟩;cases f with
  |nx=>exact λg H2 e h=>hc g H2 e (j.trans h)
  |bk=>exact λg H2 e h=>hc g H2 e (j.trans h)
  |ct=>exact λg H2 e h=>hc g H2 e (j.trans h)
  |rt d=>exact λv H2 e h=>hc v H2 e (j.trans h)
 cases k with
 |true=>exact n a i
 |false=>exact n b i
end
abbrev FG:=D->Ev->d7->Option (Ev×d7)
abbrev B4:=List D->Ev->d7->Option (Ev×d7)
inductive Fd (K:Fg1)(g:FG)(v:V)(σ:L2.St)(H:Hp)(Q:L2.St->Hp->Prop):Prop
 |mk (r:Ev) (mu:List dP) (S:d7) (d:D) (r':Ev) (S':d7) (he:fN K H mu r σ) (hs:Sim K H mu S) (hr:fc K H mu d v) (hm:g d r S=some (r',S')) (hc:∀ σ' H' mu',Ext mu mu' H H'->fN K H' mu' r' σ'->Sim K H' mu' S'->Q σ' H')
inductive Kw (K:Fg1)(g:B4)(vs:List V)(σ:L2.St)(H:Hp)(Q:L2.St->Hp->Prop):Prop
 |mk (r:Ev) (mu:List dP) (S:d7) (ds:List D) (r':Ev) (S':d7) (he:fN K H mu r σ) (hs:Sim K H mu S) (hr:ej K H mu ds vs) (hm:g ds r S=some (r',S')) (hc:∀ σ' H' mu',Ext mu mu' H H'->fN K H' mu' r' σ'->Sim K H' mu' S'->Q σ' H')
abbrev MG(X:Cx)(e:Expr)(g:FG):Prop:=PG X e (Fd X.K g)
abbrev JR(X:Cx)(es:List Expr)(g:B4):Prop:=HJ X es (Kw X.K g)
noncomputable def gN (i:Nat):FG:=λd r S=>some (r.set i (some d),S)
noncomputable def jp:B4:=λds r S=>match ds with
 |[]=>Z (r,S)
 |_=>Y
noncomputable def fO (g:FG)(gs:B4):B4:=λds r S=>match ds with
 |d::ds=>(g d r S).bind λp=>gs ds p.1 p.2
 |[]=>none
noncomputable def gT (n:Nat)(gs:B4):FG:=λd r S=>match d with
 | .tup ds=>if ds.length=n then gs ds r S else none
 |_=>none
theorem fN.set{K:Fg1}{H:Hp}{mu:List dP}{r:Ev}{σ:L2.St}{i:Nat}{d:D}{v:V}(h:fN K H mu r σ)(q:fc K H mu d v):fN K H mu (r.set i (Z d)) (σ.set i (Z v)):=by
 refine⟨by rw[aY,aY];exact h.len,λj f e=>?_⟩;by_cases a:i=j
 ·subst a;have b:i<r.length:=by
   have:=(PB e).1
   rwa [aY]at this
  rw[aJ b]at e;cases e;exact⟨v,aJ (by rw[<- h.len];exact b),q⟩
 ·rw[gS1 a]at e;obtain⟨c,k,g⟩:=h.val j f e;exact⟨c,by rw[gS1 a];exact k,g⟩
section
variable{pos:Pos}
theorem vv{e:Expr}{t t':TG}(h:PG X e t)(i:∀v σ H Q,t' v σ H Q->t v σ H Q):PG X e t':=λag s σ H v u Q I r q=>h ag s σ H v u Q I r (i v σ H Q q)
theorem wF{e:List Expr}{t t':ET}(h:HJ X e t)(i:∀v σ H Q,t' v σ H Q->t v σ H Q):HJ X e t':=λag s σ H v u Q I r q=>h ag s σ H v u Q I r (i v σ H Q q)
theorem Dt(i:Nat){x:Str}(hN:X.N.Nodup)(hi:X.N[i]?=Z x)(hx:uX X.env.scope x)(hf:autoParam (X.fn x=M\/X.env.scope.names.lookup x=Z .local) au0):MG X (.Name x pos) (gN i):=
 vv (wG hN hi hx hf) <| by
  rintro v σ H Q ⟨r,mu,S,d,f,g,c,b,a,e,hc⟩;cases e;exact hc _ H mu (.refl _ _) (c.set a) b
theorem Ds:JR X [] jp:=wF C2 <| by
 rintro vs σ H Q ⟨r,mu,S,ds,e,f,d,c,b,a,hc⟩;unfold jp at a;split at a
 ·cases a;cases b;exact⟨O,hc σ H mu (.refl _ _) d c⟩
 ·cases a
theorem AK{e:Expr}{es:List Expr}{g:FG}{f:B4}(h1:MG X e g)(h2:JR X es f)(hs:autoParam ((M3 (e::es) X.env).map (·.2)=M0 e X.env::(M3 es X.env).map (·.2)) au0):JR X (e::es) (fO g f):=
 wF (Ah h1 h2 hs) <| by
  rintro vs σ H Q ⟨r,mu,S,ds,l,n,s,hs,k,a,hc⟩;unfold fO at a;split at a
  ·obtain⟨⟨j,i⟩,u,a⟩:=PC a;cases k with
   |cons q t=>
    exact⟨_,_,O,r,mu,S,_,j,i,s,hs,q,u,λp H1 mu1 h d m=>⟨j,mu1,i,_,l,n,d,m,t.ext h,a,λb H2 c o=>hc b H2 c (h.trans o)⟩⟩
  ·cases a
theorem GF{es:List Expr}{k:Nat}{b:B4}{n:Nat}(hc:X.calm=M)(h:JR X es b)(hn:autoParam ((M3 es X.env).length=n) au0)(hst:autoParam ((M3 es X.env).findIdx? (·.1)=Y) au0):MG X (.Tuple es k pos) (gT n b):=
 vv (F4 hc h hn hst) <| by
  rintro v σ H Q ⟨r,mu,S,d,e,f,j,g,c,a,hc⟩;cases d with
  |tup ds=>
   rw[gT]at a;split at a
   ·rename_i i;cases c with
    |tup q t=>exact⟨_,_,O,q,by rw[<- t.length];exact i,r,mu,S,ds,e,f,j,g,t,a,hc⟩
   ·cases a
  |_=>cases a
inductive rU (K:Fg1)(f:FN)(o i v:V)(H:Hp)(Q:Hp->Prop):Prop
 |mk (mu:List dP) (S:d7) (ds:List D) (d:D) (S':d7) (hr:ej K H mu ds [o,i,v]) (hs:Sim K H mu S) (hm:f ds S=some (d,S')) (hc:∀H' mu',Ext mu mu' H H'->Sim K H' mu' S'->Q H')
noncomputable def gS(f:FN)(a b:FE):FG:=λd r S=>(a r S).bind λp=>(b r p.2).bind λq=>(f [p.1,q.1,d] q.2).bind λt=>Z (r,t.2)
theorem GG{o i:Expr}{a b:FE}{f:FN}(ho:ME X o a)(hi:ME X i b)(hs:wf X (rU X.K f))(ha:autoParam (∀v,M0 (.Subscript o i pos) X.env v=(do
   let ov<-M5 [v] (eval o X.env)
   let iv<-M5 [v,ov] (eval i X.env)
   M6 pos
   M5 [v,ov,iv] (setItem ov iv v)
   release [v,ov,iv] [])) du0):MG X (.Subscript o i pos) (gS f a b):=
 vv (F5 ho hi hs ha) <| by
  rintro v σ H Q ⟨r,mu,S,d,G,I,j,hs,w,c,hc⟩;obtain⟨⟨p,n⟩,B,c⟩:=PC c;obtain⟨⟨l,m⟩,u,c⟩:=PC c;obtain⟨⟨s,D⟩,t,c⟩:=PC c;cases c;refine⟨r,mu,S,p,n,j,hs,B,λF H1 mu1 e y C=>?_⟩;refine⟨r,mu1,n,l,m,j.ext e,C,u,λE H2 k g r2 z=>?_⟩;exact⟨k,m,[p,l,d],s,_,.cons (y.ext g) (.cons r2 (.cons ((w.ext e).ext g) .nil)),z,t,λx h q A=>hc σ x h ((e.trans g).trans q) (((j.ext e).ext g).ext q) A⟩
noncomputable def eF (m:FE)(g:FG):FS:=λr S=>(m r S).bind λp=>(g p.1 r p.2).bind λq=>some (.nx,q.1,q.2)
theorem rX{K:Fg1}{m:FE}{g:FG}{E:jt}{σ:L2.St}{H:Hp}(h:wx K (eF m g) E σ H):zB (tM K m) (Fd K g) E σ H:=by
 obtain⟨r,mu,S,f,t,u,j,n,a,hc⟩:=h;obtain⟨⟨d,i⟩,q,a⟩:=PC a;obtain⟨⟨r2,s⟩,o,a⟩:=PC a;cases a;refine⟨r,mu,S,d,i,j,n,q,λv H1 mu1 e p k=>?_⟩;exact⟨r,mu1,i,d,_,_,j.ext e,k,p,o,λb H2 c l=>hc b H2 c (e.trans l)⟩
theorem GA{tg e:Expr}{m:FE}{g:FG}(he:ME X e m)(hg:MG X tg g)(hs:autoParam (M9 [tg] e pos.line X.env=pure J) au0)(hw:autoParam (Na [tg] e X.env=pure Y) au0)(h1:autoParam ((M3 [tg] X.env).map (·.2)=[M0 tg X.env]) au0):MS X (.Assign [tg] e pos) (eF m g):=im (FY he hg hs hw h1) λ_ _ _=>rX
theorem Gw(i:Nat){x:Str}{e:Expr}{m:FE}{pos':Pos}(hN:X.N.Nodup)(hi:X.N[i]? = some x)(hx:uX X.env.scope x)(he:ME X e m)(hs:autoParam (MZ e (some (.Name x pos')) pos.line X.env=pure false) au0)(hf:autoParam (X.fn x=true\/X.env.scope.names.lookup x=some .local) au0):
  MS X (.Assign [.Name x pos'] e pos) (eF m (gN i)):=im (FP hN hi hx he hs hf) λE σ H h=>by
 obtain⟨r,mu,S,d,g,h1,h2,o,b⟩:=rX h;refine⟨r,mu,S,d,g,h1,h2,o,λv H' mu' k p f=>?_⟩;obtain⟨r2,a,s,t,u,w,c,n,q,l,j⟩:=b v H' mu' k p f;cases l;exact j _ H' a (.refl _ _) (c.set q) n
noncomputable def Dy(i:Nat)(f:FN)(m:FE):FS:=λr S=>match r[i]? with
 |some (Z d)=>(m r S).bind λp=>(f [d,p.1] p.2).bind λq=>Z (.nx,r.set i (Z q.1),q.2)
 |_=>Y
theorem Gz(i:Nat){x:Str}{e:Expr}{m:FE}{op:M4}{f:FN}{pos':Pos}(hN:X.N.Nodup)(hi:X.N[i]? = some x)(hx:uX X.env.scope x)(he:ME X e m)(ho:Kj X op (r2 X.K f))(hf:autoParam (X.fn x=true\/X.env.scope.names.lookup x=some .local) au0):
  MS X (.AugAssign (.Name x pos') op e pos) (Dy i f m):=im (FX hN hi hx he ho hf) <| by
 rintro E σ H ⟨r,mu,S,A,D,F,he,s,a,hc⟩;unfold Dy at a;split at a
 ·rename_i d e;obtain⟨⟨h,g⟩,t,a⟩:=PC a;obtain⟨⟨k,z⟩,l,a⟩:=PC a;cases a;obtain⟨v,n,u⟩:=he.val i d e;refine⟨v,n,r,mu,S,h,g,he,s,t,λC H1 mu1 b p w=>?_⟩;exact⟨mu1,g,[d,h],k,_,.cons (u.ext b) (.cons p .nil),w,l,λB o c j y q=>hc _ o c (b.trans j) (((he.ext b).ext j).set y) q⟩
 ·cases a
end
noncomputable def sX (c:FT)(b:FS):Nat->FS
 |0=>λ_ _=>none
 | n+1=>fun r S=>(c r S).bind fun p=>if p.1=true then (b r p.2).bind fun q=>match q.1 with
   | .nx=>sX c b n q.2.1 q.2.2
   | .ct=>sX c b n q.2.1 q.2.2
   | .bk=>some (.nx,q.2.1,q.2.2)
   | .rt d=>some (.rt d,q.2.1,q.2.2)
  else some (.nx,r,p.2)
theorem EW{K:Fg1}{c:FT}{b:FS}{n:Nat}{E:jt}{σ:L2.St}{H:Hp}(h:wx K (sX c b n) E σ H):zw (zy K c) (wx K b) E σ H:=by
 refine⟨λm a H'=>wx K (sX c b m) E a H',⟨n,h⟩,λm u H1 q=>?_⟩;obtain⟨r,mu,S,f,C,D,t,G,i,hc⟩:=q;cases m with
 |zero=>cases i
 |succ m=>
  obtain⟨⟨k,z⟩,I,i⟩:=PC i;refine⟨r,mu,S,k,z,t,G,I,λH2 e o A=>?_⟩;cases k with
  |false=>
   cases i;exact hc u H2 e o (t.ext o) A
  |true=>
   obtain⟨⟨w,p,s⟩,F,i⟩:=PC i;have B:∀{a H' mu'},Ext e mu' H2 H'->fN K H' mu' p a->Sim K H' mu' s->sX c b m p s=Z (f,C,D)->wx K (sX c b m) E a H':=λ{a H' mu'} x g l i=>by
    refine⟨p,mu',s,f,C,D,g,l,i,?_⟩;cases f with
    |nx=>exact λj H2 e y=>hc j H2 e ((o.trans x).trans y)
    |bk=>exact λj H2 e y=>hc j H2 e ((o.trans x).trans y)
    |ct=>exact λj H2 e y=>hc j H2 e ((o.trans x).trans y)
    |rt d=>exact λv H2 e y=>hc v H2 e ((o.trans x).trans y)
   refine⟨λa H'=>wx K (sX c b m) E a H',λa H' q=>⟨m,bE _,q⟩,r,e,z,w,p,s,t.ext o,A,F,?_⟩;cases w with
   |nx=>exact λa H' mu' x g l=>B x g l i
   |ct=>exact λa H' mu' x g l=>B x g l i
   |bk=>cases i;exact λa H' mu' x g l=>hc a H' mu' (o.trans x) g l
   |rt d=>cases i;exact λv H' mu' x p l=>hc v H' mu' (o.trans x) p l
theorem AG{X:Cx}{pos:Pos}(n:Nat){c:Expr}{a:List d3}{t:FT}{b:FS}(hp:Nc (Mw X.prog X.w) X.A X.env X.xe)(hc:MT X c t)(hb:yP X a b):MS X (.While c a [] pos) (sX t b n):=
 im (zY hp hc hb) λ_ _ _=>EW
structure yQ where
 items:List D
 chk:List (Nat×List D)
noncomputable def pC (S:d7):List (Nat×List D)->Bool
 |[]=>true
 | (n,xs)::c=>(match S[n]? with
   |some (.lst ys)=>D.sames ys xs
   |_=>false)&&pC S c
def Lk(K:Fg1)(j:It)(am:yQ)(mu:List dP)(H:Hp):Prop:=∀i H1 mu1 S1,sP mu mu1 H H1->Sim K H1 mu1 S1->pC S1 am.chk=M ->
 (∀d,am.items[i]?=Z d->j.go i H1 /\ ∀x H2,j.yld i H1 x H2->Ext mu1 mu1 H1 H2/\Sim K H2 mu1 S1/\fc K H2 mu1 d x)/\(am.items.length<=i->j.stop i H1)
abbrev FI:=Ev->d7->Option (yQ×d7)
inductive Ie (K:Fg1)(m:FI)(σ:L2.St)(H:Hp)(R:It->Hp->Prop):Prop
 |mk (r:Ev) (mu:List dP) (S:d7) (am:yQ) (S':d7) (he:fN K H mu r σ) (hs:Sim K H mu S) (hm:m r S=some (am,S')) (hc:∀j H' mu',Ext mu mu' H H'->Lk K j am mu' H'->Sim K H' mu' S'->R j H')
abbrev MI(X:Cx)(tg iter:Expr)(m:FI):Prop:=PI X tg iter (Ie X.K m)
theorem ou{X:Cx}{tg e:Expr}{t t':TI}(h:PI X tg e t)(i:∀ σ H R,t' σ H R->t σ H R):PI X tg e t':=λag s σ H R I q=>h ag s σ H R I (i σ H R q)
theorem Iz{X:Cx}{tg e:Expr}{t t':TI}(h:PI X tg e t)(h':PI X tg e t'):PI X tg e (fun σ H R=>t σ H R\/t' σ H R):=λag s σ H R I q=>q.elim (h ag s σ H R I) (h' ag s σ H R I)
noncomputable def jm (c:List (Nat×List D))(g:FG)(b:FS):List D->FS
 |[]=>λr S=>if pC S c=true then some (.nx,r,S)else none
 | d::ds=>fun r S=>if pC S c=true then (g d r S).bind fun p=>(b p.1 p.2).bind fun q=>match q.1 with
   | .nx=>jm c g b ds q.2.1 q.2.2
   | .ct=>jm c g b ds q.2.1 q.2.2
   | .bk=>some (.nx,q.2.1,q.2.2)
   | .rt v=>some (.rt v,q.2.1,q.2.2)
  else none
noncomputable def fz (m:FI)(g:FG)(b:FS):FS:=λr S=>(m r S).bind λp=>jm p.1.chk g b p.1.items r p.2
theorem nl{α:Type}{l:List α}{i:Nat}{d:α}{ds:List α}(h:l.drop i=d::ds):l[i]?=Z d/\l.drop (i+1)=ds:=by
 have h1:l[i]?=Z d:=by
  have:=congrArg (·[0]?) h;simpa using this
 refine⟨h1,?_⟩;rw[<- bF,h];rfl
inductive Lh (K:Fg1)(mu1:List dP)(H1:Hp)(c:List (Nat×List D))(g:FG)(b:FS)(f:Fl)(r':Ev)(S':d7)(L:List D)(σ':L2.St)(H':Hp):Prop
 |mk (r2:Ev) (mu2:List dP) (S2:d7):Ext mu1 mu2 H1 H'->fN K H' mu2 r2 σ'->Sim K H' mu2 S2->jm c g b L r2 S2=some (f,r',S')->Lh K mu1 H1 c g b f r' S' L σ' H'
theorem Dx{K:Fg1}{m:FI}{g:FG}{b:FS}{E:jt}{σ:L2.St}{H:Hp}(h:wx K (fz m g b) E σ H):Ig (Ie K m) (Fd K g) (wx K b) E σ H:=by
 obtain⟨r,mu,S,f,Q,R,au,hs,F,hc⟩:=h;obtain⟨⟨am,P⟩,e1,F⟩:=PC F;refine⟨r,mu,S,am,P,au,hs,e1,λj H1 mu1 z ao s1=>?_⟩;refine⟨λi k w H'=>k=(am.items.drop i).length/\Lh K mu1 H1 am.chk g b f Q R (am.items.drop i) w H',⟨_,O,r,mu1,P,.refl _ _,au.ext z,s1,F⟩,?_⟩;rintro i k I H2 ⟨rfl,r2,l,aq,q,s,D,a⟩;cases hl:am.items.drop i with
 |nil=>
  left;rw[hl]at a;rw[jm]at a;dsimp only at a;split at a
  ·rename_i ok;cases a;refine⟨(ao i H2 l _ q.w D ok).2 (List.drop_eq_nil_iff.mp hl),?_⟩;exact hc I H2 l (z.trans q) s D
  ·cases a
 |cons d ds=>
  right;rw[hl]at a;obtain⟨hi,U⟩:=nl hl;rw[jm]at a;dsimp only at a;split at a
  ·rename_i ok;obtain⟨⟨T,N⟩,X,a⟩:=PC a;obtain⟨⟨V,L,G⟩,e4,a⟩:=PC a;obtain⟨go,yl⟩:=(ao i H2 l _ q.w D ok).1 d hi;refine⟨go,Lh K mu1 H1 am.chk g b f Q R ds,?_,λx H3 y=>?_⟩
   ·intro w H' wq;exact⟨ds.length,bE _,(congrArg List.length U).symm,U.symm ▸ wq⟩
   ·obtain⟨t,s3,q3⟩:=yl x H3 y;refine⟨r2,l,aq,d,T,N,s.ext t,s3,q3,X,λW H4 B A C s4=>?_⟩;refine⟨T,B,N,V,L,G,C,s4,e4,?_⟩;cases V with
    |nx=>exact λp u c n e o=>⟨L,c,G,(q.trans t).trans (A.trans n),e,o,a⟩
    |ct=>exact λp u c n e o=>⟨L,c,G,(q.trans t).trans (A.trans n),e,o,a⟩
    |bk=>cases a;exact λp u c n e o=>hc p u c ((z.trans q).trans (t.trans (A.trans n))) e o
    |rt v=>cases a;exact λv5 u c n r5 o=>hc v5 u c ((z.trans q).trans (t.trans (A.trans n))) r5 o
  ·cases a
theorem Gy{X:Cx}{pos:Pos}{tg iter:Expr}{a:List d3}{m:FI}{g:FG}{b:FS}(hp:Nc (Mw X.prog X.w) X.A X.env X.xe)(hc:X.calm=M)(hi:MI X tg iter m)(hg:MG X tg g)(hb:yP X a b)(hs:autoParam (∀x,Nl iter X.env x=pure x) du0):MS X (.For tg iter a [] pos) (fz m g b):=im (FW hp hc hi hg hb hs) λ_ _ _=>Dx
noncomputable def il(n:Nat)(ds:List D):Ev:=ds.map Z++aR (n-ds.length) Y
noncomputable def iC (n:Nat)(b:FS):FN:=λds S=>(b (il n ds) S).bind λp=>match p.1 with
 | .rt d=>some (d,p.2.2)
 | .nx=>some (.non,p.2.2)
 |_=>none
theorem xX{K:Fg1}{H:Hp}{mu:List dP}{ds:List D}{vs:List V}(N:List Str)(h:ej K H mu ds vs):fN K H mu (il N.length ds) (L2.jA N vs):=by
 refine⟨?_,λi d e=>?_⟩
 ·unfold il L2.jA;rw[lA1,lA1,lM1,lM1,lR1,lR1,h.length]
 ·unfold il at e;unfold L2.jA;by_cases hi:i<ds.length
  ·rw[gL1 (by rw[lM1];exact hi),gP1]at e;obtain⟨f,b,c⟩:=PD e;cases c;obtain⟨v,a,r⟩:=h.get b;refine⟨v,?_,r⟩;rw[gL1 (by rw[lM1,<- h.length];exact hi),gP1,a];rfl
  ·rw[gR1 (by rw[lM1];lia)]at e;have:=gM1 e;rw[bG]at this;cases this.2
theorem Jt{P:dQ}{w:dS}{K:Fg1}{mg:Str->Option dM}{base:dZ}{x c:Str}{st:d3}{f:dP}{fd:d2}{N ps:List Str}{k:Nat}{b:FS}(F:xK K x c st f fd)(S:gR N ps (eB st))(g:∀(e:dM) (A:dR) (a:List Env) (s:dN) (H:Hp) (E:XK),gl k (A.deeper (NA c (eB st) s.heap.objs.size f e)) ->
   yP (nE uY P w K mg base N c (eB st) f e A a s H E).nox (fK st) b):m3 P w K mg base uY (k+1) f fd ps (spM K ps.length (iC N.length b)):=by
 refine xK.ok F S (λvs H Q E h=>h.1) λe A a s H vs Q E n j=>⟨_,g e A a s H E n,?_⟩;obtain⟨_,mu,St,ds,d,t,h1,h2,i,l⟩:=j;unfold iC at i;obtain⟨⟨m,o,q⟩,r,i⟩:=PC i;refine⟨_,mu,St,m,o,q,xX N h1,h2,r,?_⟩;cases m with
 |nx=>cases i;exact λp H' mu' x u s=>l .non H' mu' x .non s
 |rt d=>cases i;exact l
 |bk=>cases i
 |ct=>cases i
noncomputable def jW(cells:List (Str×dP)):List (Str×Nz)->List (Str×dP)->Option (List (Str×dP))
 |[],acc=>Z acc
 |(n,k)::r,acc=>if k == .free then(cells.lookup n).bind λc=>jW cells r ((n,c)::acc)else jW cells r acc
theorem vX{env:Env}(f:Str×Nz->List (Str×dP)->Sem (ForInStep (List (Str×dP))))(hf:∀n k d,f (n,k) d=if k == .free then(do let c<-cellOf env n;pure (.yield ((n,c)::d)))else pure (.yield d)):
  ∀(a:List (Str×Nz)) (acc b:List (Str×dP)),jW env.cells a acc=Z b->forIn a acc f=(pure b:Sem (List (Str×dP)))
 |[],acc,b,h=>by cases h;rfl
 |(n,k)::r,acc,b,h=>by
  rw[bH,hf];unfold jW at h;split at h
  ·rename_i g;rw[ak g];obtain⟨c,e,h⟩:=PC h;have:cellOf env n=pure c:=by unfold cellOf;rw[e]
   rw[this,pure_bind,pure_bind];exact vX f hf r _ b h
  ·rename_i g;rw[aj g,pure_bind];exact vX f hf r _ b h
theorem BH{scope:d4}{env:Env}{cl:List (Str×dP)}(h:jW env.cells scope.names []=Z cl):closureFor scope env=pure cl:=by
 simp only[closureFor];rw[vX (env:=env) _ (λn k a=>by cases hk:k == Oa<;>simp[hk]) scope.names [] cl h];rfl
theorem vW{a:List (Str×dP)}:∀{b:List (Str×Nz)} {acc d:List (Str×dP)},jW a b acc=Z d->(∀x c,acc.lookup x=Z c->a.lookup x=Z c) -> ∀x c,d.lookup x=Z c->a.lookup x=Z c
 |[],acc,d,h,ha=>by cases h;exact ha
 |(n,k)::r,acc,d,h,ha=>by
  unfold jW at h;split at h
  ·obtain⟨c,e,h⟩:=PC h;refine vW h λx f q=>?_;rw[bI]at q;split at q
   ·rename_i g;cases q;rw[Pq.mp g];exact e
   ·exact ha x f q
  ·exact vW h ha
theorem nT{b:List (Str×dP)}{x:Str}:∀{a:List (Str×Nz)} {acc d:List (Str×dP)},jW b a acc=Z d->(a.lookup x=Z .free\/(acc.lookup x).isSome=M)->(d.lookup x).isSome=M
 |[],acc,d,h,ha=>by
  cases h;rcases ha with q|q
  ·cases q
  ·exact q
 |(n,k)::r,acc,d,h,ha=>by
  unfold jW at h;split at h
  ·obtain⟨c,e,h⟩:=PC h;refine nT h ?_;rcases ha with q|q
   ·rw[bI]at q;split at q
    ·rename_i g;right;rw[bI,g];rfl
    ·exact .inl q
   ·right;rw[bI];split
    ·rfl
    ·exact q
  ·rename_i f;refine nT h ?_;rcases ha with q|q
   ·rw[bI]at q;split at q
    ·cases q;exact absurd O f
    ·exact .inl q
   ·exact .inr q
theorem gQ{x:Str}{c:dP}:∀{a:List (Str×Nz)} {n:Nat} {acc:List (Str×dP)},(NB n a acc).lookup x=Z c->(n<=c/\(x,c)∈NB n a [])\/acc.lookup x=Z c
 |[],_,_,h=>.inr h
 |(y,k)::r,n,acc,h=>by
  unfold NB at h ⊢;split at h
  ·rename_i b;rw [if_pos b];have app:∀ (a:List (Str×Nz)) (m:Nat) (acc:List (Str×dP)),NB m a acc=NB m a []++acc:=by
    intro a
    induction a with
    |nil=>intro m acc;rfl
    |cons p r ih=>
     obtain⟨z,q⟩:=p;intro m acc;unfold NB;split
     ·rw[ih _ ((z,m)::acc),ih _ [(z,m)],bJ];rfl
     ·exact ih m acc
   rcases gQ h with⟨h1,h2⟩|h1
   ·refine .inl ⟨by lia,?_⟩;rw[app];exact aH _ h2
   ·rw[bI]at h1;split at h1
    ·rename_i d;cases h1;refine .inl ⟨nR1 _,?_⟩;rw[app,Pq.mp d];exact mA1 _ mS1
    ·exact .inr h1
  ·rename_i b;rw[aj b];exact gQ h
theorem pP{x:Str}{c:dP}{n:Nat}{acc:List (Str×dP)}{a:List (Str×Nz)}(hx:a.lookup x=Z .cell)(h:(NB n a acc).lookup x=Z c):n<=c:=by
 have app:∀(a:List (Str×Nz)) (m:Nat) (acc:List (Str×dP)),NB m a acc=NB m a []++acc:=by
  intro a
  induction a with
  |nil=>intro m acc;rfl
  |cons p r ih=>
   obtain⟨z,q⟩:=p;intro m acc;unfold NB;split
   ·rw[ih _ ((z,m)::acc),ih _ [(z,m)],bJ];rfl
   ·exact ih m acc
 rw[app,List.lookup_append]at h;have q:=NC a n [] (.inl hx);obtain⟨b,e⟩:=aS.mp q;rw[e]at h;cases h;rcases gQ e with⟨h1,_⟩|h1
 ·exact h1
 ·cases h1
theorem kN {ao:Model}{A:dR}{E:dM->dN->Prop}{s:dN}{scope:d4}{globals:dP}{c:List (Str×dP)}{qual:Str}{func:Option dP}{code:dM}{env:Env}{b:dP}{Q:Env->dN->Prop}
  (d:Q {scope,locals:=s.heap.objs.size,globals,cells:=NB (s.heap.objs.size+1) scope.names c,qual,func,code:=env.code,frame:=env.frame,builtins:=env.builtins}
   {s with heap:=pushCells (s.heap.push {cls:=.type "dict",data:=.dict #[]}) scope.names}):
  dX ao A (newFunctionEnv scope globals c [] qual func code (Z env) b) Q E s:=by
 simp only[newFunctionEnv,Option.isSome_some,NL];refine wB1 (wpAny_alloc ?_);refine wB1 (wpAny_layCells _ (λname a cells=>by cases hkc:a == Oc<;>simp[hkc]) _ _ _ _ ?_);rw[show({s with heap:=s.heap.push {cls:=.type "dict",data:=.dict #[]}}:dN).heap.objs.size=s.heap.objs.size+1 from hZ1 ..];refine wB1 ?_;rw[List.forIn_nil];exact wP1 (wP1 d)
noncomputable def cxC(X:Cx)(scope:d4)(cl:List (Str×dP))(T:List Str)(keep:List Nat)(s:dN)(H:Hp)(fp:List dP):Cx where
 prog:=X.prog
 w:=X.w
 K:=X.K
 mg:=X.mg
 base:=X.base
 A:=X.A
 N:=T++keep.map λi=>X.N.getD i (NP "")
 s₀:=s
 H₀:=H
 env:=compEnvC scope (NB (s.heap.objs.size+1) scope.names cl) s.heap.objs.size X.env
 outer:=X.stack
 stack:=X.stack
 ex:=fp
 fn:=λx=>scope.names.lookup x == Z .cell
 calm:=X.calm
 pn:=[]
 xe:=λ_ _=>False
noncomputable def si(k:Nat)(keep:List Nat)(σ:L2.St):L2.St:=aR k Y++keep.map λi=>(σ[i]?).join
theorem jU{env:Env}{x:Str}:∀ {a:List (Str×Nz)},
  (a.map λ(n,k)=>if(k == Oa&&env.scope.kind == .function&&env.kindOf n == Z .cell)then(n,Oc)else(n,k)).lookup x =
   (a.lookup x).map λk=>if(k == Oa&&env.scope.kind == .function&&env.kindOf x == Z .cell)then Oc else k
 |[]=>rfl
 |(n,k)::r=>by
  show List.lookup x ((if(k == Oa&&env.scope.kind == .function&&env.kindOf n == Z .cell)=M then(n,Oc)else(n,k))::_)=_;cases hx:x == n with
  |true=>
   have e:=Pq.mp hx;subst e;by_cases hc:(k == Oa&&env.scope.kind == .function&&env.kindOf x == Z .cell)=M
   ·rw[ak hc,bI,hx,bI,hx];simp only[oP1,ak hc]
   ·rw[aj hc,bI,hx,bI,hx];simp only[oP1,aj hc]
  |false=>
   have ih:=@jU env x r;by_cases hc:(k == Oa&&env.scope.kind == .function&&env.kindOf n == Z .cell)=M
   ·rw[ak hc,bI,hx,bI,hx];exact ih
   ·rw[aj hc,bI,hx,bI,hx];exact ih
structure HS (X:Cx)(scope:d4)(T:List Str)(keep:List Nat):Prop where
 kind:scope.kind = .function
 names:∀x∈scope.names,x.2 = .local->scope.names.lookup x.1=some .local
 free:∀i∈keep,∃x,X.N[i]?=some x/\scope.names.lookup x=some .free/\(X.env.kindOf x=some .cell\/X.env.kindOf x=some .free)/\(x,Oc)∉scope.names
theorem ul{X:Cx}{ag:List (dP×Obj)}{σ:L2.St}{H:Hp}{s:dN}{scope:d4}{t:List (Str×dP)}{T:List Str}{keep:List Nat}{fp:List dP}(I:Inv X ag σ H s)(C:HS X scope T keep)(B:jW X.env.cells scope.names []=some t)(hf:∀b∈fp,kG X ag H b)(K:∀b∈fp,∃o,s.heap.get? b=some o):
  Inv (cxC X scope t T keep s H fp) [] (si T.length keep σ) H {s with heap:=pushCells (s.heap.push {cls:=.type "dict",data:=.dict #[]}) scope.names}:=by
 have kept:∀b o,s.heap.get? b=Z o->(pushCells (s.heap.push {cls:=.type "dict",data:=.dict #[]}) scope.names).get? b=Z o:=λb o e=>Od _ _ b o (hP1 _ e);have A:=cellsFrom_ok scope.names (s.heap.push {cls:=.type "dict",data:=.dict #[]}) (s.heap.objs.size+1) [] ⟨λ_ _ wq=>(nomatch wq),List.Pairwise.nil⟩ (by rw[hZ1];exact nR1 _);rw[hZ1]at A;have am:=vW B (λx c q=>by cases q)
 -- a cell of the block: its own or an elder one
 have d:∀x c,(NB (s.heap.objs.size+1) scope.names t).lookup x=Z c->(s.heap.objs.size+1<=c/\(x,c)∈NB (s.heap.objs.size+1) scope.names [])\/X.env.cells.lookup x=Z c:=λx c h=>by
  rcases gQ h with h1|h1
  ·exact .inl h1
  ·exact .inr (am x c h1)
 have g:∀x c,X.env.cells.lookup x=Z c->c<s.heap.objs.size:=λx c e=>by
  obtain⟨v,z⟩:=I.cell x c e;exact z.lt
 have w:∀b∈fp,b<s.heap.objs.size:=λb l=>by
  obtain⟨o,e⟩:=K b l;exact hL1 e
 have fst:∀b∈fp,b∉frs X.stack:=λb l z=>by
  rcases aF.mp (I.stkSub b z)with q|q
  ·exact(hf b l).2.1 q
  ·exact(hf b l).2.2.1 q
 have kindOf:∀x,(cxC X scope t T keep s H fp).env.kindOf x=(scope.names.lookup x).map λk=>if(k == Oa&&X.env.scope.kind == .function&&X.env.kindOf x == Z .cell)then Oc else k:=λx=>jU
 refine⟨⟨I.ok.mod,C.kind,I.ok.glob,I.ok.blt,nR1 _,λx y c h1 h2=>?_,λx D=>?_,λx c h1 h2=>?_,I.ok.hd,I.ok.frames,.inl O,λb l=>⟨nN1 (w b l),λx c h z=>?_⟩,λb o e=>I.bs b o e,aC I.ok.bsz I.sz,λb o e l=>?_,fst,I.stack,I.stkFree⟩,
  rfl,I.bare,Un.kept kept,⟨λ_=>Y,(Heap.Ns.new s.heap (.type "dict")).keeps (Od _ _),λi x v h1 h2 h3=>?_⟩,λx c h=>?_,I.hok.fresh (nR1 _),λx c h=>?_,λp S=>absurd (show p∈([]:List (dP×Obj))from S) (by simp),I.hok.kept kept,?_⟩
 ·rcases d x c h1 with⟨a1,a2⟩|a1<;>rcases d y c h2 with⟨b1,b2⟩|b1
  ·exact name_of_addr A.apart a2 b2
  ·exact absurd (bK (bL a1) (g y c b1)) (az _)
  ·exact absurd (bK (bL b1) (g x c a1)) (az _)
  ·exact I.ok.inj x y c a1 b1
 ·have G:scope.names.lookup x=some .cell\/scope.names.lookup x=some .free:=by
   rw[kindOf x]at D;cases e:scope.names.lookup x with
   |none=>rw[e]at D;rcases D with z|z<;>cases z
   |some k=>
    rw[e]at D;simp only[oP1]at D;cases k<;>simp_all
  have:((NB (s.heap.objs.size+1) scope.names t).lookup x).isSome=M:=by
   rcases G with z|z
   ·exact NC _ _ _ (.inl z)
   ·exact NC _ _ _ (.inr (nT B (.inl z)))
  exact aS.mp this
 ·have f:scope.names.lookup x=Z .cell:=by simpa[cxC]using h1
  have:=pP f h2;exact aC (aZ _) this
 ·subst z;rcases d x c h with⟨a1,_⟩|a1
  ·exact absurd (bK (bL a1) (w c l)) (az _)
  ·exact(hf c l).2.2.2.2.1 x c a1 O
 ·rcases(hf b l).2.2.2.1 with z|z
  ·exact I.ok.noex b o e z
  ·exact absurd (nL1 (hL1 e) (aC I.ok.bsz z)) (az _)
 ·-- a name of the block that has a value:one of the outer text's
  have hi:T.length<=i:=by
   refine Nat.le_of_not_lt λhi=>?_;unfold si at h2;rw[gL1 (by rw[lR1];exact hi),aU]at h2;split at h2<;>cases h2
  unfold si at h2;rw[gR1 (by rw[lR1];exact hi),lR1,gP1]at h2;obtain⟨j,P,h2⟩:=PD h2;have f:X.N.getD j (NP "")=x:=by
   have f:(T++keep.map λi=>X.N.getD i (NP ""))[i]?=Z x:=h1;rw[gR1 hi,gP1,P]at f;exact Option.some.inj f
  obtain⟨y,ao,au,Q,ny⟩:=C.free j (gM1 P);have L:y=x:=by rw[<- f,bM,ao];rfl
  subst L;have F:σ[j]?=Z (Z v):=by
   cases e:σ[j]? with
   |none=>rw[e]at h2;cases h2
   |some o=>rw[e]at h2;cases h2;rfl
  obtain⟨m,hn,hl⟩:=I.loc;obtain⟨u,ru,aq⟩:=hl j y v ao F (by
   rcases Q with z|z
   ·exact .inr (.inl z)
   ·exact .inr (.inr z))
  refine⟨u,ru,?_⟩;rcases aq with⟨z,_⟩|⟨_,c,R,W⟩
  ·rcases Q with q|q<;>(rw[z]at q;cases q)
  ·right;refine⟨?_,c,?_,W.keeps kept⟩
   ·rw[kindOf,au];simp only[oP1];split
    ·exact .inl O
    ·exact .inr O
   ·obtain⟨c',U⟩:=aS.mp (NC scope.names (s.heap.objs.size+1) t (.inr (nT B (.inl au))):((NB (s.heap.objs.size+1) scope.names t).lookup y).isSome=M);have N:(NB (s.heap.objs.size+1) scope.names t).lookup y=Z c':=U;rcases d y c' N with⟨a1,a2⟩|a1
    ·-- an own cell of that name:its kind would be cell
     exfalso;have:∀(names:List (Str×Nz)) (n:Nat),(y,c')∈NB n names []->(y,Oc)∈names:=by
      have app:∀(names:List (Str×Nz)) (m:Nat) (acc:List (Str×dP)),NB m names acc=NB m names []++acc:=by
       intro names
       induction names with
       |nil=>intro m acc;rfl
       |cons p r ih=>
        obtain⟨z,q⟩:=p;intro m acc;unfold NB;split
        ·rw[ih _ ((z,m)::acc),ih _ [(z,m)],bJ];rfl
        ·exact ih m acc
      intro names
      induction names with
      |nil=>intro n h;cases h
      |cons p r ih=>
       obtain⟨z,q⟩:=p;intro n h;unfold NB at h;split at h
       ·rename_i V;rw[app]at h;rcases aG.mp h with h|h
        ·exact mC1 _ (ih _ h)
        ·have:(y,c')=(z,n):=by simpa using h
         cases this;have E:q=Oc:=by simpa using V
         subst E;exact mS1
       ·exact mC1 _ (ih _ h)
     exact ny (this _ _ a2)
    ·rw[R]at a1;cases a1;exact N
 ·rcases d x c h with⟨a1,a2⟩|a1
  ·exact⟨_,(A.empty x c a2).1⟩
  ·obtain⟨v,z⟩:=I.cell x c a1;exact⟨v,z.keeps kept⟩
 ·rcases d x c h with⟨a1,a2⟩|a1
  ·exact I.hok.fresh (bL a1)
  ·exact I.freeC x c a1
 ·show(si T.length keep σ).length=(T++keep.map λi=>X.N.getD i (NP "")).length;unfold si;rw[lA1,lA1,lR1,lM1,lM1]
noncomputable def lp(p:Pos)(tg:Expr)(ifs:List Expr)(it:dM)(env:Env)(emit:Sem Unit)(c:Code):Sem PySem.Fin:=do
 M6 p
 match<-Nf it with
 |none=>pure (.done .next)
 |some v=>
  Ng tg it v
  M0 tg env v
  let mut ok:=M
  for c in ifs do
   if ok then ok<-isTrue c env (eval c env)
  if ok then emit
  again c
noncomputable def oZ(elt:Expr)(acc:dM)(env:Env):Sem Unit:=do let _<-call (.builtin "list.append") [acc,<- eval elt env]
noncomputable def qr(e:Expr)(iter:Expr)(acc:dM)(env:Env):Sem Unit:=do
 let x<-eval iter env
 M6 iter.pos
 let x<-Nl iter env x
 let _<-runOwn (.compStart e 1 (<- M5 [x] (Nh x)) acc env) env
theorem zp(elt tg iter:Expr)(ifs:List Expr)(scope:d4)(pos:Pos)(it acc:dM)(env:Env):
  Oe (.ListComp elt [⟨tg,iter,ifs,0⟩] scope pos) 0 it acc env=lp iter.pos tg ifs it env (oZ elt acc env) (.compLoop (.ListComp elt [⟨tg,iter,ifs,0⟩] scope pos) 0 it acc env):=by rfl
noncomputable def Et(p:Pos)(tg:Expr)(ifs:List Expr)(it:dM)(env:Env)(e iter:Expr)(acc:dM)(c:Code):Sem PySem.Fin:=do
 M6 p
 match<-Nf it with
 |none=>pure (.done .next)
 |some v=>
  Ng tg it v
  M0 tg env v
  let mut ok:=M
  for c in ifs do
   if ok then ok<-isTrue c env (eval c env)
  if ok then
   let x<-eval iter env
   M6 iter.pos
   let x<-Nl iter env x
   let _<-runOwn (.compStart e 1 (<- M5 [x] (Nh x)) acc env) env
  again c
theorem Co(p:Pos)(tg:Expr)(ifs:List Expr)(it:dM)(env:Env)(e iter:Expr)(acc:dM)(c:Code):Et p tg ifs it env e iter acc c=lp p tg ifs it env (qr e iter acc env) c:=by
 unfold Et lp qr;simp only[bind_assoc,pure_bind]
theorem E4(elt tg iter tg2 iter2:Expr)(ifs ifs2:List Expr)(scope:d4)(pos:Pos)(it acc:dM)(env:Env):
  Oe (.ListComp elt [⟨tg,iter,ifs,0⟩,⟨tg2,iter2,ifs2,0⟩] scope pos) 0 it acc env =
   lp iter.pos tg ifs it env (qr (.ListComp elt [⟨tg,iter,ifs,0⟩,⟨tg2,iter2,ifs2,0⟩] scope pos) iter2 acc env) (.compLoop (.ListComp elt [⟨tg,iter,ifs,0⟩,⟨tg2,iter2,ifs2,0⟩] scope pos) 0 it acc env):=by
 rw[<- Co];rfl
theorem E3(elt tg iter tg2 iter2:Expr)(ifs ifs2:List Expr)(scope:d4)(pos:Pos)(it acc:dM)(env:Env):
  Oe (.ListComp elt [⟨tg,iter,ifs,0⟩,⟨tg2,iter2,ifs2,0⟩] scope pos) 1 it acc env =
   lp iter2.pos tg2 ifs2 it env (oZ elt acc env) (.compLoop (.ListComp elt [⟨tg,iter,ifs,0⟩,⟨tg2,iter2,ifs2,0⟩] scope pos) 1 it acc env):=by rfl
def pA(X:Cx)(ifs:List Expr)(t:TT):Prop:=
 ∀(ag:List (dP×Obj)) (s:dN) (σ:L2.St) (H:Hp) (Q:Bool->Hp->Prop),Inv X ag σ H s->t σ H Q ->
  dX (Mw X.prog X.w) X.A (forIn ifs M λc r=>if r=M then do let ok<-isTrue c X.env (eval c X.env);pure (Of ok)else pure (Of r)) (TP X ag σ Q) X.xe s
theorem Ae{X:Cx}:pA X [] (fun σ H Q=>Q M H):=λag s σ H Q I h=>wpAny_tests_nil ⟨H,I,h⟩
theorem Ad{X:Cx}{c:Expr}{t:TT}(h:PT X c t):pA X [c] t:=λag s σ H Q I q=>wpAny_tests_one (h ag s σ H Q I q)
def PU(X:Cx)(m:Sem Unit)(t:TS):Prop:=
 ∀(ag:List (dP×Obj)) (s:dN) (σ:L2.St) (H:Hp) (E:jt),Inv X ag σ H s->t E σ H->dX (Mw X.prog X.w) X.A m (λ_ s'=>∃ σ' H',Inv X ag σ' H' s'/\E.nx σ' H') X.xe s
theorem mZ{X:Cx}(hx:X.xe=fun _ _=>False)(hc:X.calm=true){elt:Expr}{c:List Comprehension}{scope:d4}{pos p:Pos}{d:Nat}{tg:Expr}{ifs:List Expr}{acc:dM}{emit:Sem Unit}{am:It}{fp:List dP}{it:dP}{tn:Nat->dZ->Prop}{g:TG}{U:TT}{tb:TS}(eq:Oe (.ListComp elt c scope pos) d (.ref it) acc X.env=lp p tg ifs (.ref it) X.env emit (.compLoop (.ListComp elt c scope pos) d (.ref it) acc X.env))(T:wd X.prog X.w X.K tg am fp it tn)(hg:PG X tg g)(hi:pA X ifs U)(he:PU X emit tb){ag:List (dP×Obj)}{s:dN}{σ:L2.St}{H:Hp}{D:jt}(I:Inv X ag σ H s)(st:tn 0 s.heap)(f2:∀b∈fp,kG X ag H b)(h:∃W:Nat->Nat->L2.St->Hp->Prop,(∃m,W 0 m σ H) /\ ∀i m σ H,W i m σ H ->
   (am.stop i H/\D.nx σ H)\/(am.go i H /\ ∃N:L2.St->Hp->Prop,(∀a H',N a H' -> ∃ao,ao<m/\W (i+1) ao a H') /\ ∀x H',am.yld i H x H'->g x σ H' λy H2=>U y H2 λb t=>if b=M then tb {D with nx:=N} y t else N y t)):
  dY (Mw X.prog X.w) X.A (.compLoop (.ListComp elt c scope pos) d (.ref it) acc X.env) (λr s'=>match r with | .ok _=>∃a H',Inv X ag a H' s'/\D.nx a H' | .error _=>False) s:=by
 obtain⟨W,⟨m0,w0⟩,L⟩:=h;have f:∀{H':Hp},(∀b∈fp,H' b=Y) -> ∀b∈fp,kG X ag H' b:=λhn b l=>⟨hn b l,(f2 b l).2⟩;refine codeAny_loop O (λn s'=>∃i a H',Inv X ag a H' s'/\tn i s'.heap/\(∀b∈fp,H' b=Y)/\W i n a H') ?_ m0 ⟨0,σ,H,I,st,λb l=>(f2 b l).1,w0⟩;rintro n R ⟨i,k,t,aq,F,G,w3⟩;show dX _ _ ((Oe (.ListComp elt c scope pos) d (.ref it) acc X.env).onRaise (λx=>do noteFrame x X.env;theTreesLotGoes x)) _ _ R;refine wpAny_noted ?_;rw[eq];have B:∀{α:Type} {m:Sem α} {Q:α->dN->Prop} {s:dN} {E:dM->dN->Prop},dX (Mw X.prog X.w) X.A m Q X.xe s->dX (Mw X.prog X.w) X.A m Q E s:=λh=>by
  rw[hx]at h;exact MU h (λ_ _ q=>q) λ_ _ q=>q.elim
 unfold lp;refine wB1 (M8 (wB1 ?_));rcases L i n k t w3 with⟨C,qn⟩|⟨go,N,hN,step⟩
 ·refine B (fr (T.done X O O O hc i ag R k t X.xe aq (f G) F C) λr s4 ⟨au,I4⟩=>?_);subst au;exact wP1 ⟨k,t,I4,qn⟩
 ·refine B (fr (T.item X rfl rfl rfl hc i ag R k t X.xe aq (f G) F go) fun r s4 ⟨u,au,h4⟩=>?_);subst au;refine wB1 (B (fr h4 fun _ V ⟨x,H5,I5,r5,y5,v,S⟩=>?_));have P:=I5.pinned (f S) (T.obj _ _ v);refine wB1 (B (fr (hg _ V k H5 x u _ P r5 (step x H5 y5)) fun _ s6 ⟨K,H6,I6,q6⟩=>?_));refine wB1 (B (fr (hi _ s6 K H6 _ I6 q6) fun ok z ⟨w,A,wq⟩=>?_));have again':∀ {j:L2.St} {w:Hp} {z:dN},Inv X (ag++ot fp V.heap) j w z->N j w -> ∃ m,m<n /\ ∃ i a H',Inv X ag a H' z/\tn i z.heap/\(∀ b∈fp,H' b=none)/\W i m a H':=fun {j w z} A n7=>by
   obtain⟨ao,hm,w7⟩:=hN j w n7;refine⟨ao,hm,i+1,j,w,A.unpinned,T.keep _ _ _ v λb l o e=>(A.pin (b,o) (mA1 _ (mA1 _ (jf l e)))).1,λb l=>?_,w7⟩;obtain⟨o,e,d⟩:=T.obj _ _ v b l;exact(A.pin (b,o) (mA1 _ (mA1 _ (jf l e)))).2.1
  cases ok with
  |false=>exact wP1 ⟨O,again' A wq⟩
  |true=>exact wB1 (B (fr (he _ z K w _ A wq) λ_ s8 ⟨σ8,H8,I8,q8⟩=>wP1 ⟨O,again' I8 q8⟩))
def s7(p:dP)(te:TE):TS:=λD σ H=>te σ H λx H1=>∃xs,H1 p=Z (.lst xs)/\xs.length<dW/\D.nx σ (upd H1 p (.lst (xs++[x])))
theorem rA{X:Cx}{elt:Expr}{te:TE}(h:PE X elt te)(p:dP):PU X (oZ elt (.ref p) X.env) (s7 p te):=by
 intro ag s σ H E I q;unfold oZ;refine wB1 (fr (h ag s σ H _ I q) λu b ⟨x,H1,c,g,xs,i,f,a⟩=>?_);refine wB1 (fr (p9 ag b σ H1 (.ref p) [x] (.ref p) [u] (λ_ H'=>E.nx σ H') c O (.cons g .nil) ⟨p,xs,x,O,O,i,f,a⟩) λ_ j ⟨_,H2,d,_,e⟩=>?_);exact wP1 ⟨σ,H2,d,e⟩
noncomputable def zz(am:It)(g:TG)(ti:TT)(tb:TS):TS:=λD σ H=>∃W:Nat->Nat->L2.St->Hp->Prop,(∃m,W 0 m σ H) /\ ∀i m σ H,W i m σ H ->
 (am.stop i H/\D.nx σ H)\/(am.go i H /\ ∃N:L2.St->Hp->Prop,(∀ σ' H',N σ' H' -> ∃m',m'<m/\W (i+1) m' σ' H') /\ ∀x H',am.yld i H x H'->g x σ H' fun σ2 H2=>ti σ2 H2 λb H3=>if b=M then tb {D with nx:=N} σ2 H3 else N σ2 H3)
def zx(wi:TI)(g:TG)(ti:TT)(tb:TS):TS:=λD σ H=>wi σ H λam H1=>zz am g ti tb D σ H1
theorem uJ{prog:dQ}{w:dS}{A:dR}{R:Result->dN->Prop}{s:dN}{elt tg iter tg2 iter2:Expr}{ifs ifs2:List Expr}{scope:d4}{pos:Pos}{it acc:dM}{env:Env}(b:dY (Mw prog w) A (.compLoop (.ListComp elt [⟨tg,iter,ifs,0⟩,⟨tg2,iter2,ifs2,0⟩] scope pos) 1 it acc env) R s)(h:dX (Mw prog w) A (Nh it) (fun a s'=>dY (Mw prog w) A (.compLoop (.ListComp elt [⟨tg,iter,ifs,0⟩,⟨tg2,iter2,ifs2,0⟩] scope pos) 1 a acc env) R s')
   (notedBy (Mw prog w) A env λx s'=>R (.error x) s') s):
  dY (Mw prog w) A (.compStart (.ListComp elt [⟨tg,iter,ifs,0⟩,⟨tg2,iter2,ifs2,0⟩] scope pos) 1 it acc env) R s:=by
 refine codeAny_of_tree ?_;show dX _ _ ((compStart (.ListComp elt [⟨tg,iter,ifs,0⟩,⟨tg2,iter2,ifs2,0⟩] scope pos) 1 it acc env).onRaise (λx=>do noteFrame x env;M6 theWindowsPlace)) _ _ s;refine wpAny_notedAt ?_;unfold compStart;show dX _ _ (ask >>= _) _ _ s;refine wB1 (wpAny_askSetting (wpAny_ite ?_));split
 ·first
   |exact wB1 (wP1 (wP1 (And.intro rfl b)))
   |exact wP1 (And.intro rfl b)
 ·first
   |exact wB1 (Nb (wB1 (M8 (wB1 (MU h (λa s' h'=>wP1 (And.intro O h')) λ_ _ x=>x)))))
   |(refine wB1 (Nb ?_);show dX _ _ (M6 iter2.pos >>= _) _ _ s;exact wB1 (M8 (wB1 (MU h (λa s' h'=>wP1 (And.intro O h')) λ_ _ x=>x))))
theorem CM{X:Cx}(hx:X.xe=fun _ _=>False)(hc:X.calm=true){elt tg iter tg2 iter2:Expr}{ifs ifs2:List Expr}{scope:d4}{pos:Pos}{acc:dM}{i:TI}{g:TG}{j:TT}{tb:TS}(hi:PI X tg2 iter2 i)(hg:PG X tg2 g)(hf:pA X ifs2 j)(he:PU X (oZ elt acc X.env) tb)(hs:autoParam (∀x,Nl iter2 X.env x=pure x) du0):
  PU X (qr (.ListComp elt [⟨tg,iter,ifs,0⟩,⟨tg2,iter2,ifs2,0⟩] scope pos) iter2 acc X.env) (zx i g j tb):=by
 intro ag s σ H E I q;unfold qr;refine wB1 (fr (hi ag s σ H _ I q) λv u h1=>?_);refine wB1 (M8 (wB1 (wpAny_of_eq (hs v) (wB1 (M7 (fr h1 λk t h2=>?_))))));obtain⟨it,fp,tn,am,H2,rfl,n,T,b,o,p⟩:=h2;have a:=mZ hx hc (E3 elt tg iter tg2 iter2 ifs ifs2 scope pos (.ref it) acc X.env) T hg hf he n b o p;refine wB1 (wpAny_runOwn (h:=Y) ?_);refine Nx (uJ a (T.self X.A 0 t _ _ b a)) λr s' d=>?_;cases r with
 |error e=>exact d.elim
 |ok f=>
  obtain⟨c,H',m,l⟩:=d;exact wP1 ⟨c,H',m,l⟩
theorem Un.sameBut{fs ex:List dP}{H H':Hp}{h h1 h2:dZ}{c:dP}(u:Un fs ex H H' h h1)(hs:Mv c h1 h2)(hc:h.get? c=Y):Un fs ex H H' h h2:=by
 have ne:∀{b o},h.get? b=Z o->b≠c:=λe z=>by rw[z,hc]at e;cases e
 refine⟨λb o e n d a=>(hs.2 b (ne e)).trans (u.keep b o e n d a),λb o e n d a=>?_,u.free,λb o e a=>?_,u.tups,u.frzs,u.tbls⟩
 ·obtain⟨f,q⟩:=u.slot b o e n d a;exact⟨f,(hs.2 b (ne e)).trans q⟩
 ·obtain⟨o',q⟩:=u.there b o e a;exact⟨o',(hs.2 b (ne e)).trans q⟩
def zA(k:Nat)(keep:List Nat)(wi:TI)(g:TG)(ti:TT)(tb:dP->TS):TE:=fun σ H Q=>wi σ H λam H1=>∀p,H1 p=Y ->
 zz am g ti (tb p) {nx:=λ_ H'=>Q (.ref p) H',rt:=λ_ _=>False} (si k keep σ) (upd H1 p (.lst []))
theorem C4{X:Cx}(hc:X.calm=true){elt tg iter:Expr}{ifs:List Expr}{rest:List Comprehension}{scope:d4}{pos:Pos}{T:List Str}{keep:List Nat}{j:List (Str×dP)}{ao:TI}{g:TG}{D:TT}{tb:dP->TS}{emit:dM->Env->Sem Unit}(eq:∀it k d,Oe (.ListComp elt (⟨tg,iter,ifs,0⟩::rest) scope pos) 0 it k d=lp iter.pos tg ifs it d (emit k d) (.compLoop (.ListComp elt (⟨tg,iter,ifs,0⟩::rest) scope pos) 0 it k d))(C:HS X scope T keep)(w:jW X.env.cells scope.names []=some j)(hi:PI X tg iter ao)(hb:∀s H fp p,PG (cxC X scope j T keep s H fp) tg g/\pA (cxC X scope j T keep s H fp) ifs D/\PU (cxC X scope j T keep s H fp) (emit (.ref p) (cxC X scope j T keep s H fp).env) (tb p))(hs:autoParam (∀x,Nl iter X.env x=pure x) du0):
  PE X (.ListComp elt (⟨tg,iter,ifs,0⟩::rest) scope pos) (zA T.length keep ao g D tb):=by
 intro ag s σ H Q I h;rw[eval_ListComp];refine wpAny_comprehension_free (use:=Y) O hs (BH w) C.kind C.names ?_;refine fr (hi ag s σ H _ I h) λv s1 h1=>fr h1 λW a h2=>?_;obtain⟨it,fp,tn,am,H2,rfl,K,TT,u,L,q2⟩:=h2;refine wO1 ?_;have G:Inv X ag σ (upd H2 a.heap.objs.size (.lst [])) {a with heap:=a.heap.push {cls:=.type "list",data:=.seq ([]:List dM).toArray}}:=K.lnew (t':=a.toks) .nil (bj _);have old:∀b∈fp,∃o,a.heap.get? b=Z o:=λb hb=>by
  obtain⟨o,e,_⟩:=TT.obj 0 a.heap u b hb;exact⟨o,e⟩
 have B:∀b∈fp,b≠a.heap.objs.size:=λb hb z=>by
  obtain⟨o,e⟩:=old b hb;have:=hL1 e;rw[z]at this;exact az _ this
 have y:∀b∈fp,kG X ag (upd H2 a.heap.objs.size (.lst [])) b:=λb hb=>⟨by rw[eD (B b hb)];exact(L b hb).1,(L b hb).2⟩;have wq:∀b∈fp,∃o,({a with heap:=a.heap.push {cls:=.type "list",data:=.seq ([]:List dM).toArray}}:dN).heap.get? b=Z o:=λb hb=>by
  obtain⟨o,e⟩:=old b hb;exact⟨o,hP1 _ e⟩
 have A:=ul G C w y wq;obtain⟨S,au,R⟩:=hb {a with heap:=a.heap.push {cls:=.type "list",data:=.seq ([]:List dM).toArray}} (upd H2 a.heap.objs.size (.lst [])) fp a.heap.objs.size;refine kN ?_;have f4:∀b∈fp,kG (cxC X scope j T keep {a with heap:=a.heap.push {cls:=.type "list",data:=.seq ([]:List dM).toArray}} (upd H2 a.heap.objs.size (.lst [])) fp) [] (upd H2 a.heap.objs.size (.lst [])) b:=λb hb=>
  ⟨(y b hb).1,(A.ok.exf b hb).1,A.ok.exfs b hb,.inl hb,(A.ok.exf b hb).2,λp P=>absurd (show p∈([]:List (dP×Obj))from P) (by simp)⟩
 have t:tn 0 (pushCells ((a.heap.push {cls:=.type "list",data:=.seq ([]:List dM).toArray}).push {cls:=.type "dict",data:=.dict #[]}) scope.names):=
  TT.keep 0 a.heap _ u λb hb o e=>Od scope.names _ b o (hP1 _ (hP1 _ e))
 have i:=mZ (X:=cxC X scope j T keep {a with heap:=a.heap.push {cls:=.type "list",data:=.seq ([]:List dM).toArray}} (upd H2 a.heap.objs.size (.lst [])) fp) O hc (eq (.ref it) (.ref a.heap.objs.size) _) TT S au R A t f4
  (q2 a.heap.objs.size (K.hok.fresh (nR1 _)))
 refine Nx (codeAny_compStart_list i (TT.self X.A 0 _ _ _ t i)) λr s' E=>?_;cases r with
 |error e=>exact E.elim
 |ok f=>
  obtain⟨aq,H',l,N⟩:=E;obtain⟨m,U,_⟩:=id l.loc;refine⟨m,U,λh' n=>⟨.ref a.heap.objs.size,H',?_,O,N⟩⟩;refine G.call' (s':={s' with heap:=h'}) (ch:=fp) l.os (Un.sameBut l.base n (Ms (nR1 _))) (λb V e=>?_) l.bare λb hb=>(y b hb).2.2.2 |> λz=>⟨z.1,(y b hb).2.1,z.2.1,z.2.2⟩
  refine(l.hok b V e).stay (λc w' hc q=>(n.2 c ?_).trans q) (λ_ q=>q) λ_ _ q=>q;rintro rfl;have F:=l.free;rcases hc with rfl|hc
  ·exact nomatch F.symm.trans e
  ·exact nomatch F.symm.trans hc
section
variable{K:Fg1}{H:Hp}{mu:List dP}{S:d7}{p:dP}{u:HO}{o:Ob}{n:Nat}
theorem Rd.ne{a:dP}{x:HO}(h:H p=Y)(q:Rd H a x):a≠p:=by
 rintro rfl;rcases q with q|⟨_,q⟩<;>(rw[h]at q;cases q)
theorem Ext.fresh(hp:H p=Y):Ext mu mu H (upd H p u) where
 pre:=bo
 old:=λa o h _=>by rw[eD (eN h hp)];exact h
 tup:=λa xs h=>by
  have ne:=Rd.ne hp h;rcases h with h|⟨b,h⟩
  ·exact .inl (by rw[eD ne];exact h)
  ·exact .inr ⟨b,by rw[eD ne];exact h⟩
 frz:=λa o x h=>by rw[eD (eN h hp)];exact h
 new:=λ_ h=>.inl h
theorem Ext.new_(hp:H p=Y):Ext mu (mu++[p]) H (upd H p u) where
 pre:=bw _ _
 old:=(Ext.fresh (mu:=mu) hp).old
 tup:=(Ext.fresh (mu:=mu) hp).tup
 frz:=(Ext.fresh (mu:=mu) hp).frz
 new:=λa h=>by
  rcases aG.mp h with h|h
  ·exact .inl h
  ·have:a=p:=by simpa using h
   subst this;exact .inr hp
theorem Sim.fresh(s:Sim K H mu S)(hp:H p=Y):Sim K (upd H p u) mu S:=
 ⟨s.len,s.nd,λk o a h1 h2=>(s.ob k o a h1 h2).keep (Ext.fresh hp) λb e=>by rw[eD (eN e hp)];exact e⟩
theorem Sim.notin(s:Sim K H mu S)(hp:H p=Y):p∉mu:=λh=>by
 obtain⟨o,e⟩:=s.here h;rw[hp]at e;cases e
theorem nw.more{a:dP}{mu':List dP}{H':Hp}(e:Ext mu mu' H H')(h:∀o,H a=Z o->H' a=Z o):∀{o:Ob},nw K H mu a o->nw K H' mu' a o
 | .lst _,⟨vs,q,r⟩=>⟨vs,h _ q,r.ext e⟩
 | .dct _,⟨ws,q,r⟩=>⟨ws,h _ q,KR.ext e r⟩
 | .dcT _,⟨ws,q,r,l⟩=>⟨ws,h _ q,KT.ext e r,l⟩
 | .iset _,q=>⟨h _ q.1,q.2⟩
 | .dcF _,⟨ws,⟨o,u,c,b⟩,r,l⟩=>⟨ws,⟨o,u,h _ c,b⟩,KT.ext e r,l⟩
 | .tst _,⟨ws,q,r⟩=>⟨ws,h _ q,KT.ext e r⟩
theorem Sim.new(s:Sim K H mu S)(hp:H p=Y)(ho:nw K (upd H p u) (mu++[p]) p o):Sim K (upd H p u) (mu++[p]) (S++[o]):=by
 refine⟨by rw[lA1,lA1,s.len];rfl,?_,λk o' a h1 h2=>?_⟩
 ·rw[bB];refine⟨s.nd,by simp,λa f b g e=>?_⟩;have:b=p:=by simpa using g
  subst this;subst e;exact s.notin hp f
 ·by_cases d:k<S.length
  ·rw[gL1 d]at h1;rw[gL1 (by rw[s.len];exact d)]at h2;exact(s.ob k o' a h1 h2).more (Ext.new_ hp) λh e=>by rw[eD (eN e hp)];exact e
  ·have c:k=S.length:=by
    have:=(PB h1).1;rw[lA1]at this;simp at this;lia
   subst c;rw[gR1 (nR1 _)]at h1;rw[<- s.len,gR1 (nR1 _)]at h2;simp at h1 h2;subst h1;subst h2;exact ho
theorem Ext.put{x:HO}(hp:H p=Z x)(hm:HL (Z x))(b:p∈mu):Ext mu mu H (upd H p u) where
 pre:=bo
 old:=λa o h n=>by rw[eD (λe=>n (by rw[e];exact b))];exact h
 tup:=λa xs h=>by
  have ne:a≠p:=by
   rintro rfl;rcases h with h|⟨_,h⟩<;>(rw[hp]at h;cases h;exact hm)
  rcases h with h|⟨c,h⟩
  ·exact .inl (by rw[eD ne];exact h)
  ·exact .inr ⟨c,by rw[eD ne];exact h⟩
 frz:=λa o y h=>by
  rw[eD (λe=>?_)]
  ·exact h
  ·subst e;rw[hp]at h;cases h;exact hm
 new:=λ_ h=>.inl h
theorem Sim.put(s:Sim K H mu S){x:HO}(hn:mu[n]?=Z p)(hp:H p=Z x)(hm:HL (Z x))(ho:nw K (upd H p u) mu p o):Sim K (upd H p u) mu (S.set n o):=by
 refine⟨by rw[aY];exact s.len,s.nd,λk o' a h1 h2=>?_⟩;by_cases b:n=k
 ·subst b;have d:n<S.length:=by
   have:=(PB h1).1
   rwa [aY]at this
  rw[aJ d]at h1;cases h1;rw[hn]at h2;cases h2;exact ho
 ·rw [gS1 b] at h1;have ne:a≠p:=fun e=>by
   subst e;obtain⟨g,f⟩:=PB hn;obtain⟨i,c⟩:=PB h2;exact b ((aI s.nd).mp (f.trans c.symm))
  exact(s.ob k o' a h1 h2).keep (Ext.put hp hm (gM1 hn)) λh e=>by rw[eD ne];exact e
theorem Sim.lst(s:Sim K H mu S){ds:List D}{a:dP}(h:S[n]?=Z (.lst ds))(hn:mu[n]?=Z a):∃vs,H a=Z (.lst vs)/\ej K H mu ds vs:=s.ob n _ a h hn
theorem Sim.dcT(s:Sim K H mu S){ks:List (TK×D)}{a:dP}(h:S[n]?=Z (.dcT ks))(hn:mu[n]?=Z a):∃ws,H a=Z (.ext (iN a ws))/\KT K H mu ks ws/\ws.length<=dW:=s.ob n _ a h hn
theorem Sim.iset(s:Sim K H mu S){xs:List Int}{a:dP}(h:S[n]?=Z (.iset xs))(hn:mu[n]?=Z a):H a=Z (.set (λk=>xs.contains k) xs.length)/\xs.Nodup:=s.ob n _ a h hn
theorem Sim.dct(s:Sim K H mu S){ks:List (Key×D)}{a:dP}(h:S[n]?=Z (.dct ks))(hn:mu[n]?=Z a):∃ws,H a=Z (.dK ws)/\KR K H mu ks ws:=s.ob n _ a h hn
theorem Sim.newL(s:Sim K H mu S){ds:List D}{vs:List V}(r:ej K H mu ds vs)(hp:H p=Y):Sim K (upd H p (.lst vs)) (mu++[p]) (S++[.lst ds]):=s.new hp ⟨vs,eI,r.ext (Ext.new_ hp)⟩
theorem Sim.putL(s:Sim K H mu S){ds:List D}{vs ws:List V}(r:ej K H mu ds vs)(hn:mu[n]?=Z p)(hp:H p=Z (.lst ws)):Sim K (upd H p (.lst vs)) mu (S.set n (.lst ds)):=
 s.put hn hp trivial ⟨vs,eI,r.ext (Ext.put hp trivial (gM1 hn))⟩
end
theorem gA{mu:List dP}{S:d7}(h:mu.length=S.length)(p:dP):(mu++[p])[S.length]?=Z p:=by
 rw[<- h,gR1 (nR1 _)];simp
noncomputable def fw (a:FA):FE:=λr S=>(a r S).bind λp=>if p.1.length<=dW then some (.tup p.1,p.2)else none
noncomputable def ic (a:FA):FE:=λr S=>(a r S).bind λp=>if p.1.length<=dW then some (.ref p.2.length,p.2++[.lst p.1])else none
section
variable{es:List Expr}{pos:Pos}{a:FA}
theorem GJ{x1}(h:MA X es a):ME X (.Tuple es x1 pos) (fw a):=ff (F6 h) <| by
 rintro σ H Q ⟨r,mu,S,d,l,j,g,b,hc⟩;obtain⟨⟨ds,m⟩,k,b⟩:=PC b;dsimp only at b;split at b
 ·rename_i i;cases b;refine⟨r,mu,S,ds,_,j,g,k,λvs H1 mu1 x1 e f=>⟨by rw[<- e.length];exact i,λp c=>?_⟩⟩;exact hc _ _ mu1 (x1.trans (Ext.fresh c)) (.tup (kF.of eI) (e.ext (Ext.fresh c))) (f.fresh c)
 ·cases b
theorem GO(h:MA X es a):ME X (.List es pos) (ic a):=ff (Ga h) <| by
 rintro σ H Q ⟨r,mu,S,d,m,k,i,b,hc⟩;obtain⟨⟨ds,n⟩,l,b⟩:=PC b;dsimp only at b;split at b
 ·rename_i j;cases b;refine⟨r,mu,S,ds,_,k,i,l,λvs H1 mu1 g f c=>⟨by rw[<- f.length];exact j,λp e=>?_⟩⟩;exact hc _ _ (mu1++[p]) (g.trans (Ext.new_ e)) (.ref (gA c.len p)) (c.newL f e)
 ·cases b
end
noncomputable def vP(k:Nat)(keep:List Nat)(r:Ev):Ev:=aR k Y++keep.map λi=>(r[i]?).join
noncomputable def fu:FT:=λ_ S=>Z (M,S)
theorem Jf{K:Fg1}{H:Hp}{mu:List dP}{r:Ev}{σ:L2.St}(k:Nat)(keep:List Nat)(h:fN K H mu r σ):fN K H mu (vP k keep r) (si k keep σ):=by
 refine⟨by unfold vP si;rw[lA1,lA1,lM1,lM1,lR1,lR1],λi d e=>?_⟩;unfold vP at e;unfold si;by_cases hi:i<k
 ·rw[gL1 (by rw[lR1];exact hi),aU]at e;split at e<;>cases e
 ·rw [gR1 (by rw [lR1];lia),lR1,gP1] at e;rw [gR1 (by rw [lR1];lia),lR1,gP1];obtain ⟨j,c,e⟩:=PD e;rw [c];have b:r[j]? = some (some d):=by
   cases q:r[j]? with
   |none=>rw[q]at e;cases e
   |some o=>rw[q]at e;cases e;rfl
  obtain⟨v,a,f⟩:=h.val j d b;exact⟨v,by rw[oP1,a];rfl,f⟩
theorem Af{ifs:List Expr}{t t':L2.TT}(h:pA X ifs t)(i:∀ σ H Q,t' σ H Q->t σ H Q):pA X ifs t':=λag s σ H Q I q=>h ag s σ H Q I (i σ H Q q)
theorem Dq:pA X [] (zy X.K fu):=Af Ae fun σ H Q ⟨r,mu,S,b,e,d,a,c,hc⟩=>by cases c;exact hc H mu (.refl _ _) a
theorem Dp{c:Expr}{t:FT}(h:MT X c t):pA X [c] (zy X.K t):=Ad h
open PySem.AutoSeq1 (wpAny_loadPart')
def SIt(b:Bool)(h:dZ)(it a:dP)(i:Nat):Prop:=match b with
 |true=>h.IsListIter it a i
 |false=>h.IsTupleIter it a i
def SCo(b:Bool)(h:dZ)(a:dP)(xs:Array dM):Prop:=match b with
 |true=>h.IsList a xs
 |false=>h.IsTuple a xs
theorem SIt.to{b:Bool}{h h':dZ}{it a:dP}{i:Nat}(x:SIt b h it a i)(k:∀o,h.get? it=Z o->h'.get? it=Z o):SIt b h' it a i:=by
 cases b<;>(obtain⟨o,e,r⟩:=x;exact⟨o,k o e,r⟩)
theorem SIt.rec_{b:Bool}{h:dZ}{it a:dP}{i:Nat}(x:SIt b h it a i):∃o,h.get? it=Z o /\ ∀v,o.data ≠ .cell v:=by
 cases b<;>(obtain⟨o,e,c,d⟩:=x;exact⟨o,e,λv z=>by rw[d]at z;cases z⟩)
theorem SCo.to{b:Bool}{h h':dZ}{a:dP}{xs:Array dM}(x:SCo b h a xs)(k:∀o,h.get? a=Z o->h'.get? a=Z o):SCo b h' a xs:=by
 cases b<;>(obtain⟨o,e,r⟩:=x;exact⟨o,k o e,r⟩)
noncomputable def gv(b:Bool)(a:dP):Obj:=match b with
 |true=>{cls:=.type "list_iterator",data:=.fields #[.ref a,.int 0 0]}
 |false=>{cls:=.type "tuple_iterator",data:=.fields #[.ref a,.int 0 0]}
variable{prog:dQ}{w:dS}{A:dR}{E:dM->dN->Prop}{s:dN}
theorem rm{b:Bool}{h:dZ}{it a:dP}(e:h.get? it=Z (gv b a)):SIt b h it a 0:=by
 cases b<;>exact⟨_,e,O,O⟩
theorem jC{b:Bool}{a:dP}{xs:Array dM}{Q:dM->dN->Prop}(x:SCo b s.heap a xs)(h:Q (.ref s.heap.objs.size) {s with heap:=s.heap.push (gv b a)}):dX (Mw prog w) A (Nh (.ref a)) Q E s:=by
 cases b
 ·exact wpAny_pyIter_tuple x h
 ·exact wpAny_pyIter_list x h
theorem Az{it l:dP}{i:Nat}{xs:Array dM}{x:dM}{Q:dM->dN->Prop}(e:s.heap.IsTupleIter it l i)(tl:s.heap.IsTuple l xs)(hx:xs[i]? = Z x)(f:∀h',h'.IsTupleIter it l (i+1)->Mv it s.heap h'->Q x {s with heap:=h'}):dX (Mw prog w) A (Oh (.ref it)) Q E s:=by
 obtain⟨o,b,hc,a⟩:=id e;obtain⟨h,c,_,g,d⟩:=tl;unfold Oh;refine wB1 (NO (name:=NP "__next__") e.typeIs Oi (wE1 Oi e.typeIs F.entry_tuple_iterator_next ?_ (F.args_tuple_iterator_next_1 _)));show dX _ _ (field (.ref it) 0 >>= _) _ _ s;refine wB1 (NN b a (x:=.ref l) O ?_);show dX _ _ (if(D4 l == ab)=M then _ else _) _ _ s;rw[aj (show¬ ((D4 l == ab)=M)from aL)];show dX _ _ (field (.ref it) 1 >>= _) _ _ s;refine wB1 (NN b a (x:=.int i 0) O ?_);show dX _ _ (seqItems? (.ref l) >>= _) _ _ s;refine wB1 (Oj c d ?_);simp only[NH,hx];refine wB1 (wpAny_setField b a (by simp) (wP1 ⟨x,O,wP1 (f _ ⟨_,hW1 _ b (Obj.isFreed_of_fields (Obj.data_mapFields a _)),(Obj.cls_mapFields ..).trans hc,by rw[Obj.data_mapFields a];simp[Ni]⟩ (Heap.SameBut.update ..))⟩))
theorem rV {it l:dP}{i:Nat}{xs:Array dM}{Q:dM->dN->Prop}(h:A.handled=none)(g:s.heap.IsTupleIter it l i)(tl:s.heap.IsTuple l xs)(hx:xs[i]? = none)
  (j:∀h' e,Heap.ExtBut it s.heap h'->(∃o,h'.get? e=Z o/\o.cls = .type "StopIteration")->E (.ref e) {s with heap:=h'}):dX (Mw prog w) A (Oh (.ref it)) Q E s:=by
 obtain⟨o,b,hc,d⟩:=id g;obtain⟨n,c,_,k,f⟩:=tl;unfold Oh;refine wB1 (NO (name:=NP "__next__") g.typeIs Oi (wE1 Oi g.typeIs F.entry_tuple_iterator_next ?_ (F.args_tuple_iterator_next_1 _)));show dX _ _ (field (.ref it) 0 >>= _) _ _ s;refine wB1 (NN b d (x:=.ref l) O ?_);show dX _ _ (if(D4 l == ab)=M then _ else _) _ _ s;rw[aj (show¬ ((D4 l == ab)=M)from aL)];show dX _ _ (field (.ref it) 1 >>= _) _ _ s;refine wB1 (NN b d (x:=.int i 0) O ?_);show dX _ _ (seqItems? (.ref l) >>= _) _ _ s;refine wB1 (Oj c f ?_);simp only[NH,hx];refine wB1 (Nb (wB1 (wpAny_setField b d (by simp) ?_)));show dX _ _ (newExc (.type "StopIteration") [] >>= _) _ _ _;refine wB1 ?_;simp only[newExc,newTuple];refine wB1 (wO1 ?_ (by size_fits));refine wB1 (m:=Ol _ _) (wpAny_of_eq (a:=ab) (by first|rfl|(simp only[Ol];rfl)) ?_);refine wO1 ?_ (by size_fits);simp only[raiseNew];refine wB1 (wpAny_handled ?_)
 first|rw[show A.in1.handled=Y from h] | rw[h]
 refine wB1 (wP1 (wpAny_throw ?_));exact j _ _ (((Heap.SameBut.update ..).extBut.push _).push _) ⟨_,hS1 _ O,O⟩
theorem lZ{b:Bool}{it l:dP}{i:Nat}{xs:Array dM}{x:dM}{Q:dM->dN->Prop}(c:SIt b s.heap it l i)(tl:SCo b s.heap l xs)(hx:xs[i]? = Z x)(a:∀h',SIt b h' it l (i+1)->Mv it s.heap h'->Q x {s with heap:=h'}):dX (Mw prog w) A (Oh (.ref it)) Q E s:=by
 cases b
 ·exact Az c tl hx a
 ·exact wpAny_nextOf_list_item c tl hx a
theorem jd {b:Bool}{it l:dP}{i:Nat}{xs:Array dM}{Q:dM->dN->Prop}(c:A.handled=none)(d:SIt b s.heap it l i)(tl:SCo b s.heap l xs)(hx:xs[i]? = none)
  (a:∀h' e,Heap.ExtBut it s.heap h'->(∃o,h'.get? e=Z o/\o.cls = .type "StopIteration")->E (.ref e) {s with heap:=h'}):dX (Mw prog w) A (Oh (.ref it)) Q E s:=by
 cases b
 ·exact rV c d tl hx a
 ·exact wpAny_nextOf_list_end c d tl hx a
theorem zp9{γ:Type}{Q:γ->dN->Prop}{x:γ}(h:∀y,Q y s):dX (Mw prog w) A (pure x:Sem γ) Q E s:=wP1 (h x)
theorem Bz{b:Bool}(l:dP)(xs:Array dM):
  Meets (Builtin.«enumerate.__new__» ⟨[.type "enumerate",.ref l],[]⟩) (λ_ R s=>SCo b s.heap l xs /\
   R (.ok (.ret (.ref (s.heap.push (gv b l)).objs.size))) {s with heap:=(s.heap.push (gv b l)).push {cls:=.type "enumerate",data:=.fields #[.none,.bool J,.ref s.heap.objs.size,Ni 0,.none,.none]}}):=
 .of_wp λprog w A R s h=>by
  obtain⟨j,g,d,tk,k⟩:=s;obtain⟨i,h⟩:=h;have f:=sub_enumerate
  have a:SCo b (Shared.heap ⟨j,g,d,tk,k⟩) l xs:=i;obtain⟨m,el⟩:∃o,j.get? l=some o:=by cases b<;>(obtain⟨o,e,_⟩:=i;exact⟨o,e⟩)
  wp_walk using wpAny_loadPart' el
  refine wpAny_stack_any λst=>zp9 λbb=>?_;cases bb<;>(wp_walk using wpAny_loadPart' el,jC a;exact⟨_,O,h⟩)
theorem yE{b:Bool}{l:dP}{xs:Array dM}{Q:dM->dN->Prop}(f:SCo b s.heap l xs)(h:∀h',Om h' (s.heap.objs.size+1) s.heap.objs.size 0 .none->SIt b h' s.heap.objs.size l 0->h'.objs.size=s.heap.objs.size+2->(∀b o,s.heap.get? b=some o->h'.get? b=some o)->Q (.ref (s.heap.objs.size+1)) {s with heap:=h'}):
  dX (Mw prog w) A (call (.type "enumerate") [.ref l]) Q E s:=by
 refine callType_new F.called_enumerate (by decide) (F.typeCall_enumerate_1 _) (F.newCall_enumerate_1 _) (λa=>F.args_object_init_2 a _) F.entry_enumerate_new (Bz (b:=b) l xs) ⟨f,?_⟩;have d:(s.heap.push (gv b l)).objs.size=s.heap.objs.size+1:=hZ1 ..
 show _/\_;rw[d];have e:Om ((s.heap.push (gv b l)).push {cls:=.type "enumerate",data:=.fields #[.none,.bool J,.ref s.heap.objs.size,Ni 0,.none,.none]}) (s.heap.objs.size+1) s.heap.objs.size 0 .none:=by
  have q:=hS1 (s.heap.push (gv b l)) (o:={cls:=.type "enumerate",data:=.fields #[.none,.bool J,.ref s.heap.objs.size,Ni 0,.none,.none]}) O;rw[d]at q;exact q
 have hi:(s.heap.push (gv b l)).get? s.heap.objs.size=Z (gv b l):=hS1 _ (by cases b<;>rfl);refine⟨⟨_,e,O⟩,h _ e (rm (hP1 _ hi)) (by rw[hZ1,d]) λc o x=>hP1 _ (hP1 _ x)⟩
theorem yD {b:Bool}{e it l:dP}{i:Nat}{xs:Array dM}{x old:dM}{Q:Option dM->dN->Prop}(he:Om s.heap e it i old)(U:SIt b s.heap it l i)(tl:SCo b s.heap l xs)(hx:xs[i]? = some x)(h:e≠it)
  (V:∀h',IsEnumOut h' e it ((i:Int)+1) x s.heap.objs.size->SIt b h' it l (i+1)->h'.get? s.heap.objs.size=Z {cls:=.type "tuple",data:=.seq #[.int i s.toks,x]}->h'.objs.size=s.heap.objs.size+1 ->
   (∀b o,b≠e->b≠it->s.heap.get? b=Z o->h'.get? b=Z o)->Q (Z (.ref s.heap.objs.size)) {s with heap:=h',toks:=s.toks+1}):dX (Mw prog w) A (Nf (.ref e)) Q E s:=by
 have T:s.TypeIs (.ref e) "enumerate":=⟨_,he,O⟩;unfold Nf;refine wB1 (On (NO (name:=NP "__next__") T Oo (wE1 Oo T F.entry_enumerate_next ?_ (F.args_enumerate_next_1 _))));obtain⟨k,g,d,tk,t⟩:=s;show dX _ _ (field (.ref e) 2 >>= _) _ _ _;refine wB1 (NN he O (x:=.ref it) O ?_);refine wB1 (lZ U tl hx λh1 H G=>?_);replace G:Mv it k h1:=G;have p:Om h1 e it i old:=(G.2 e h).trans he;show dX _ _ (field (.ref e) 3 >>= _) _ _ ⟨h1,g,d,tk,t⟩;refine wB1 (NN p O (x:=Ni i) O ?_);show dX _ _ (field (.ref e) 4 >>= _) _ _ ⟨h1,g,d,tk,t⟩;refine wB1 (NN p O (x:=.none) O ?_);show dX _ _ (mkInt i >>= _) _ _ ⟨h1,g,d,tk,t⟩;refine wB1 (wpAny_mkInt ?_);show dX _ _ (setField (.ref e) 3 (Ni ((i:Int)+1)) >>= _) _ _ ⟨h1,g,d,tk+1,t⟩;refine wB1 (wS1 p (by simp) λh2 n C=>?_);replace C:Mv e h1 h2:=C;replace n:Om h2 e it ((i:Int)+1) old:=n;show dX _ _ (setField (.ref e) 4 .none >>= _) _ _ ⟨h2,g,d,tk+1,t⟩;refine wB1 (wS1 n (by simp) λh3 j D=>?_);replace D:Mv e h2 h3:=D;replace j:Om h3 e it ((i:Int)+1) old:=j;show dX _ _ (newTuple [.int i tk,x] >>= _) _ _ ⟨h3,g,d,tk+1,t⟩;refine wB1 (Op ?_);have m:Om (h3.push {cls:=.type "tuple",data:=.seq #[.int i tk,x]}) e it ((i:Int)+1) old:=hP1 _ j;generalize f:h3.push {cls:=.type "tuple",data:=.seq #[.int i tk,x]}=h4 at m;have r:h3.objs.size=k.objs.size:=by rw[D.1,C.1,G.1]
 have S:e<k.objs.size:=hL1 he;have L:h4.get? k.objs.size=Z {cls:=.type "tuple",data:=.seq #[.int i tk,x]}:=by rw[<- f,<- r];exact hS1 _ O
 have P:h4.objs.size=k.objs.size+1:=by rw[<- f,hZ1,r]
 have N:∀b o,b≠e->b≠it->k.get? b=Z o->h4.get? b=Z o:=λb o a v ao=>by
  rw[<- f];exact hP1 _ (D.extBut b o a (C.extBut b o a (G.extBut b o v ao)))
 have au:SIt b h4 it l (i+1):=H.to λo q=>by rw[<- f];exact hP1 _ (D.extBut _ _ (Mt h) (C.extBut _ _ (Mt h) q))
 show dX _ _ (Oq (.ref e) >>= _) _ _ ⟨h4,g,d,tk+1,t⟩;rw[r];clear f j D n C p G H r h3 h2 h1;refine wB1 ?_;unfold Oq;refine wB1 (NN m O (x:=.none) O (wP1 ?_));simp only[NL];refine wB1 (Nb ?_);refine wB1 (NN m O (x:=old) O ?_);refine wB1 (wS1 m (by simp) λh5 u am=>?_);replace am:Mv e h4 h5:=am;replace u:Om h5 e it ((i:Int)+1) x:=u;show dX _ _ (Os (.ref e) (.ref k.objs.size) >>= _) _ _ ⟨h5,g,d,tk+1,t⟩;refine wB1 ?_;unfold Os;refine wB1 (wS1 u (by simp) λh6 y K=>?_);replace K:Mv e h5 h6:=K;replace y:IsEnumOut h6 e it ((i:Int)+1) x k.objs.size:=y;refine wS1 y (by simp) λh7 B I=>?_;replace I:Mv e h6 h7:=I;replace B:IsEnumOut h7 e it ((i:Int)+1) x k.objs.size:=B;have R:∀c o,c≠e->h4.get? c=Z o->h7.get? c=Z o:=λc o z q=>I.extBut _ _ z (K.extBut _ _ z (am.extBut _ _ z q));refine wB1 (Ot (wP1 ⟨_,O,wP1 (V h7 B (au.to λo q=>R _ o (Mt h) q) (R _ _ (nG1 S) L) (by rw[I.1,K.1,am.1,P]) λc o a v ao=>R c o a (N c o a v ao))⟩))
theorem BA{b:Bool}{e it l:dP}{i:Nat}{xs:Array dM}{old:dM}{Q:Option dM->dN->Prop}(h:A.handled=Y)(he:Om s.heap e it i old)(j:SIt b s.heap it l i)(tl:SCo b s.heap l xs)(hx:xs[i]? = Y)(f:∀h',Heap.ExtBut it s.heap h'->Q Y {s with heap:=h'}):dX (Mw prog w) A (Nf (.ref e)) Q E s:=by
 have d:s.TypeIs (.ref e) "enumerate":=⟨_,he,O⟩;unfold Nf;refine wB1 (On (NO (name:=NP "__next__") d Oo (wE1 Oo d F.entry_enumerate_next ?_ (F.args_enumerate_next_1 _))));show dX _ _ (field (.ref e) 2 >>= _) _ _ _;refine wB1 (NN he O (x:=.ref it) O ?_);refine wB1 (jd h j tl hx λh' x a c=>?_);obtain⟨o,g,hc⟩:=c;refine wB1 (Ou (T:="StopIteration") (b:=M) ⟨o,g,hc⟩ Ov ?_);exact wP1 (f _ a)
theorem qq{e it:dP}{i:Int}{old:dM}{Q:dM->dN->Prop}(he:Om s.heap e it i old)(h:Q (.ref e) s):dX (Mw prog w) A (Nh (.ref e)) Q E s:=by
 have a:s.TypeIs (.ref e) "enumerate":=⟨_,he,O⟩;refine wpAny_pyIter_slot a F.slot_enumerate_iter (wE1 F.slot_enumerate_iter a F.entry_enumerate_iter ?_ (F.args_enumerate_iter_1 _));show dX _ _ (ret (.ref e)) _ _ s;exact wP1 ⟨_,O,"enumerate",_,a,F.slot_enumerate_next.lookup,h⟩
open PySem.AutoSeq1 (wpAny_loadPart')
structure Lb (z ti to i1 i2:dP):Prop where
 a1:ti≠z
 a2:to≠z
 a3:i1≠z
 a4:i2≠z
 a5:ti≠to
 a6:ti≠i1
 a7:ti≠i2
 a8:to≠i1
 a9:to≠i2
 a10:i1≠i2
section
variable{b1 b2:Bool}
theorem SCo.ne{b:Bool}{h:dZ}{a c:dP}{xs:Array dM}{o:Obj}(x:SCo b h a xs)(e:h.get? c=Z o)(n:∀ys k,o.data ≠ .seq ys k):a≠c:=by
 rintro rfl;cases b<;>(obtain⟨o',f,g,k,d⟩:=x;rw[e]at f;cases f;exact n _ _ d)
theorem SCo.ne_it{b f:Bool}{h:dZ}{a it l:dP}{xs:Array dM}{i:Nat}(x:SCo b h a xs)(y:SIt f h it l i):a≠it:=by
 cases f<;>(obtain⟨o,e,c,d⟩:=y;exact x.ne e λys k z=>by rw[d]at z;cases z)
theorem yV{z g to i1 l B m:dP}{R au:Nat}{xs ys:Array dM}{x y a b:dM}{Q:Option dM->dN->Prop}(D:Lb z g to i1 l)(hz:Ow s.heap z g to .none)(hti:Ox s.heap g (.ref i1) (.ref l))(hto:Ox s.heap to a b)(n1:B≠to)(n2:m≠to)(h1:SIt b1 s.heap i1 B R)(h2:SIt b2 s.heap l m au)(c1:SCo b1 s.heap B xs)(c2:SCo b2 s.heap m ys)(hx:xs[R]?=some x)(hy:ys[au]?=some y)(hQ:∀h',Ow h' z g to (Ni s.heap.objs.size)->Ox h' to x y->SIt b1 h' i1 B (R+1)->SIt b2 h' l m (au+1)->Ox h' s.heap.objs.size x y->h'.objs.size=s.heap.objs.size+1 ->
   (∀c o,c≠z->c≠to->c≠i1->c≠l->s.heap.get? c=Z o->h'.get? c=Z o)->Q (Z (.ref s.heap.objs.size)) {s with heap:=h'}):dX (Mw prog w) A (Nf (.ref z)) Q E s:=by
 have hT:s.TypeIs (.ref z) "zip":=⟨_,hz,O⟩;have l1z:B≠z:=c1.ne hz λ_ _ q=>by cases q
 have U:m≠z:=c2.ne hz λ_ _ q=>by cases q
 have G:m≠i1:=c2.ne_it h1;unfold Nf;refine wB1 (On (NO (name:=NP "__next__") hT Oy (wE1 Oy hT F.entry_zip_next ?_ (F.args_zip_next_1 _))));show dX _ _ (field (.ref z) 2 >>= _) _ _ _;refine wB1 (NN hz O (x:=.bool J) O ?_);show dX _ _ (field (.ref z) 3 >>= _) _ _ _;refine wB1 (NN hz O (x:=.ref g) O ?_);refine wB1 (Oj hti O ?_);show dX _ _ (Oq (.ref z) >>= _) _ _ _;refine wB1 ?_;unfold Oq;refine wB1 (NN hz O (x:=.none) O (wP1 ?_));simp only[NL];refine wB1 (Nb ?_);refine wB1 (NN hz O (x:=.ref to) O ?_);refine wB1 (wS1 hz (by simp) λg1 n r=>?_);replace n:Ow g1 z g to .ellipsis:=n;refine wB1 ?_;simp only[bN,List.zipIdx_nil,bH,List.forIn_nil];refine wB1 (wB1 (wpAny_onRaise ?_));show dX _ _ (Oh (.ref i1) >>= _) _ _ _
 refine wB1 (lZ (h1.to λo q=>r.extBut _ _ D.a3 q) (c1.to λo q=>r.extBut _ _ l1z q) hx λg2 S u=>wP1 ?_);have i:Ox g2 to a b:=u.extBut _ _ D.a8 (r.extBut _ _ D.a2 hto);refine wB1 (Oj i O ?_);refine wB1 (Oz i λg3 f v=>?_);replace f:Ox g3 to x b:=f;refine wB1 (Ot (wP1 ?_));refine wB1 (wB1 (wpAny_onRaise ?_));show dX _ _ (Oh (.ref l) >>= _) _ _ _
 refine wB1 (lZ (h2.to λo q=>v.extBut _ _ D.a9.symm (u.extBut _ _ D.a10.symm (r.extBut _ _ D.a4 q))) (c2.to λo q=>v.extBut _ _ n2 (u.extBut _ _ G (r.extBut _ _ U q))) hy λg4 aq L=>wP1 ?_);have k:Ox g4 to x b:=L.extBut _ _ D.a9 f;refine wB1 (Oj k O ?_);refine wB1 (Oz k λd e I=>?_);replace e:Ox d to x y:=e;refine wB1 (Ot (wP1 (wP1 ?_)));refine wB1 (Oj e O ?_);refine wB1 (Op ?_);have K:d.objs.size=s.heap.objs.size:=by rw[I.1,L.1,v.1,u.1,r.1]
 have H:Ow d z g to .ellipsis:=I.extBut _ _ D.a2.symm (L.extBut _ _ D.a4.symm (v.extBut _ _ D.a2.symm (u.extBut _ _ D.a3.symm n)));have wq:∀c o,c≠z->c≠to->c≠i1->c≠l->s.heap.get? c=Z o->d.get? c=Z o:=λc o p P q3 X q=>I.extBut _ _ P (L.extBut _ _ X (v.extBut _ _ P (u.extBut _ _ q3 (r.extBut _ _ p q))));have V:SIt b1 d i1 B (R+1):=S.to λo q=>I.extBut _ _ D.a8.symm (L.extBut _ _ D.a10 (v.extBut _ _ D.a8.symm q));have h25:SIt b2 d l m (au+1):=aq.to λo q=>I.extBut _ _ D.a9.symm q;have j:z<d.objs.size:=hL1 H;show dX _ _ (Os (.ref z) (.ref d.objs.size) >>= _) _ _ _;refine wB1 ?_;unfold Os;have hz6:Ow (d.push {cls:=.type "tuple",data:=.seq #[x,y]}) z g to .ellipsis:=hP1 _ H;refine wB1 (wS1 hz6 (by simp) λg7 t T=>?_);replace t:Ow g7 z g to (Ni d.objs.size):=t;refine wS1 t (by simp) λam h W=>?_;replace h:Ow am z g to (Ni d.objs.size):=h;have N:∀c o,c≠z->d.get? c=Z o->am.get? c=Z o:=λc o p q=>W.extBut _ _ p (T.extBut _ _ p (hP1 _ q));have ao:Ox am d.objs.size x y:=W.extBut _ _ (nG1 j) (T.extBut _ _ (nG1 j) (hS1 _ O));have C:am.objs.size=d.objs.size+1:=by rw[W.1,T.1,hZ1]
 rw[K]at h ao C;refine wP1 ⟨_,O,wP1 ?_⟩;show Q (Z (.ref d.objs.size)) _;rw[K]
 exact hQ am h (N _ _ D.a2 e) (V.to λo q=>N _ o D.a3 q) (h25.to λo q=>N _ o D.a4 q) ao C λc o p P q3 X q=>N c o p (wq c o p P q3 X q)
theorem Cd{z l to i1 C G p:dP}{R au:Nat}{xs ys:Array dM}{a b:dM}{Q:Option dM->dN->Prop}(wq:A.handled=Y)(D:Lb z l to i1 C)(hz:Ow s.heap z l to .none)(N:Ox s.heap l (.ref i1) (.ref C))(ao:Ox s.heap to a b)(n1:G≠to)(n2:p≠to)(h1:SIt b1 s.heap i1 G R)(h2:SIt b2 s.heap C p au)(P:SCo b1 s.heap G xs)(S:SCo b2 s.heap p ys)(t:xs[R]?=Y\/ys[au]?=Y)(X:∀h',(∀c o,c≠z->c≠to->c≠i1->c≠C->s.heap.get? c=Z o->h'.get? c=Z o)->Q Y {s with heap:=h'}):dX (Mw prog w) A (Nf (.ref z)) Q E s:=by
 have V:s.TypeIs (.ref z) "zip":=⟨_,hz,O⟩;have B:G≠z:=P.ne hz λ_ _ q=>by cases q
 have H:p≠z:=S.ne hz λ_ _ q=>by cases q
 have r:p≠i1:=S.ne_it h1;unfold Nf;refine wB1 (On (NO (name:=NP "__next__") V Oy (wE1 Oy V F.entry_zip_next ?_ (F.args_zip_next_1 _))));show dX _ _ (field (.ref z) 2 >>= _) _ _ _;refine wB1 (NN hz O (x:=.bool J) O ?_);show dX _ _ (field (.ref z) 3 >>= _) _ _ _;refine wB1 (NN hz O (x:=.ref l) O ?_);refine wB1 (Oj N O ?_);show dX _ _ (Oq (.ref z) >>= _) _ _ _;refine wB1 ?_;unfold Oq;refine wB1 (NN hz O (x:=.none) O (wP1 ?_));simp only[NL];refine wB1 (Nb ?_);refine wB1 (NN hz O (x:=.ref to) O ?_);refine wB1 (wS1 hz (by simp) λg1 g i=>?_);replace g:Ow g1 z l to .ellipsis:=g;refine wB1 ?_;simp only[bN,List.zipIdx_nil,bH,List.forIn_nil];refine wB1 (wB1 (wpAny_onRaise ?_));show dX _ _ (Oh (.ref i1) >>= _) _ _ _
 cases hx:xs[R]? with
 |none=>
  refine wB1 (jd wq (h1.to λo q=>i.extBut _ _ D.a3 q) (P.to λo q=>i.extBut _ _ B q) hx λI e k K=>?_);obtain⟨am,d,f⟩:=K;have u:Ow I z l to .ellipsis:=k _ _ D.a3.symm g;have n:e≠z:=λq=>by subst q;rw[u]at d;cases d;simp at f
  refine wS1 u (by simp) λW _ m=>?_;refine wB1 (Ou (T:="StopIteration") (b:=M) ⟨am,m.extBut _ _ n d,f⟩ Ov ?_);exact wP1 (X W λc o y _ L _ q=>m.extBut _ _ y (k _ _ L (i.extBut _ _ y q)))
 |some x=>
  have hy:ys[au]?=Y:=by rcases t with h|h;rw[hx]at h;cases h;exact h
  refine wB1 (lZ (h1.to λo q=>i.extBut _ _ D.a3 q) (P.to λo q=>i.extBut _ _ B q) hx λI h12 k=>wP1 ?_);have j:Ox I to a b:=k.extBut _ _ D.a8 (i.extBut _ _ D.a2 ao);refine wB1 (Oj j O ?_);refine wB1 (Oz j λW U m=>?_);refine wB1 (Ot (wP1 ?_));refine wB1 (wB1 (wpAny_onRaise ?_));show dX _ _ (Oh (.ref C) >>= _) _ _ _
  refine wB1 (jd wq (h2.to λo q=>m.extBut _ _ D.a9.symm (k.extBut _ _ D.a10.symm (i.extBut _ _ D.a4 q))) (S.to λo q=>m.extBut _ _ n2 (k.extBut _ _ r (i.extBut _ _ H q))) hy λg4 e s4 K=>?_);obtain⟨am,d,f⟩:=K;have v:Ow g4 z l to .ellipsis:=s4 _ _ D.a4.symm (m.extBut _ _ D.a2.symm (k.extBut _ _ D.a3.symm g));have n:e≠z:=λq=>by subst q;rw[v]at d;cases d;simp at f
  refine wS1 v (by simp) λg5 _ aq=>?_;refine wB1 (Ou (T:="StopIteration") (b:=M) ⟨am,aq.extBut _ _ n d,f⟩ Ov ?_);exact wP1 (X g5 λc o y q2 L q4 q=>aq.extBut _ _ y (s4 _ _ q4 (m.extBut _ _ q2 (k.extBut _ _ L (i.extBut _ _ y q)))))
def zH(b1 b2:Bool)(h:dZ)(l1 l2:dP):dZ:=((((h.push (gv b1 l1)).push (gv b2 l2)).push {cls:=.type "tuple",data:=.seq #[.ref h.objs.size,.ref (h.objs.size+1)]}).push {cls:=.type "tuple",data:=.seq #[.none,.none]}).push
 {cls:=.type "zip",data:=.fields #[.none,.bool J,.bool J,.ref (h.objs.size+2),.ref (h.objs.size+3)]}
theorem Cc(a c:dP)(xs ys:Array dM):Meets (Builtin.«zip.__new__» ⟨[.type "zip",.ref a,.ref c],[]⟩) (λ_ R s=>SCo b1 s.heap a xs/\SCo b2 s.heap c ys/\R (.ok (.ret (.ref (s.heap.objs.size+4)))) {s with heap:=zH b1 b2 s.heap a c}):=
 .of_wp λprog w A R s h=>by
  obtain⟨b,g,d,tk,f⟩:=s;obtain⟨j,l,h⟩:=h;have e:=sub_zip
  have k:SCo b1 (Shared.heap ⟨b,g,d,tk,f⟩) a xs:=j;have i:SCo b2 (Shared.heap ⟨b.push (gv b1 a),g,d,tk,f⟩) c ys:=l.to λo q=>hP1 _ q
  wp_walk using jC k,jC i
  refine⟨_,O,?_⟩;have m:(b.push (gv b1 a)).objs.size=b.objs.size+1:=hZ1 ..
  simp only[hZ1,zH]at h ⊢;exact h
theorem yW{b d:dP}{xs ys:Array dM}{Q:dM->dN->Prop}(r:SCo b1 s.heap b xs)(v:SCo b2 s.heap d ys)(h:∀h',Ow h' (s.heap.objs.size+4) (s.heap.objs.size+2) (s.heap.objs.size+3) .none->Ox h' (s.heap.objs.size+2) (.ref s.heap.objs.size) (.ref (s.heap.objs.size+1))->Ox h' (s.heap.objs.size+3) .none .none ->
   SIt b1 h' s.heap.objs.size b 0->SIt b2 h' (s.heap.objs.size+1) d 0->h'.objs.size=s.heap.objs.size+5->(∀c o,s.heap.get? c=Z o->h'.get? c=Z o)->Q (.ref (s.heap.objs.size+4)) {s with heap:=h'}):
  dX (Mw prog w) A (call (.type "zip") [.ref b,.ref d]) Q E s:=by
 refine callType_new F.called_zip (by decide) (F.typeCall_zip_2 _ _) (F.newCall_zip_2 _ _) (λg=>F.args_object_init_3 g _ _) F.entry_zip_new (Cc (b1:=b1) (b2:=b2) b d xs ys) ⟨r,v,?_⟩;have a:∀{h:dZ} {o:Obj} {c:dP} {u:Obj},h.get? c=Z u->(h.push o).get? c=Z u:=λq=>hP1 _ q;have at_:∀{h:dZ} {o:Obj} {n:Nat},h.objs.size=n->o.isFreed=J->(h.push o).get? n=Z o:=λe f=>by rw[<- e];exact hS1 _ f
 have l:(gv b1 b).isFreed=J:=by cases b1<;>rfl
 have p:(gv b2 d).isFreed=J:=by cases b2<;>rfl
 have t:(zH b1 b2 s.heap b d).get? s.heap.objs.size=Z (gv b1 b):=a (a (a (a (at_ O l))));have m:(zH b1 b2 s.heap b d).get? (s.heap.objs.size+1)=Z (gv b2 d):=a (a (a (at_ (by simp only[hZ1]) p)));have j:Ox (zH b1 b2 s.heap b d) (s.heap.objs.size+2) (.ref s.heap.objs.size) (.ref (s.heap.objs.size+1)):=a (a (at_ (by simp only[hZ1]) O));have k:Ox (zH b1 b2 s.heap b d) (s.heap.objs.size+3) .none .none:=a (at_ (by simp only[hZ1]) O);have i:Ow (zH b1 b2 s.heap b d) (s.heap.objs.size+4) (s.heap.objs.size+2) (s.heap.objs.size+3) .none:=at_ (by simp only[hZ1]) O;exact⟨⟨_,i,O⟩,h _ i j k (rm t) (rm m) (by simp only[zH,hZ1]) λc o q=>a (a (a (a (a q))))⟩
end
def sL(K:Fg1)(b:Bool)(H:Hp)(a:dP)(xs:List V):Prop:=match b with
 |true=>nG K H a xs
 |false=>kF K H a xs
section
variable{ag:List (dP×Obj)}{σ:L2.St}{H:Hp}{s:dN}
theorem fg{b:Bool}{a:dP}{xs:List V}(I:Inv X ag σ H s)(h:sL X.K b H a xs):∃c:List dM,eG xs c/\SCo b s.heap a c.toArray/\xs.length<=dW:=by
 cases b
 ·obtain⟨c,r,p,z⟩:=I.tuple h;exact⟨c,r,p,z⟩
 ·obtain⟨c,r,p,z⟩:=I.list h;exact⟨c,r,p.isList,z⟩
theorem nK{b:Bool}{a:dP}{xs ys:List V}(I:Inv X ag σ H s)(h:sL X.K b H a xs)(h':sL X.K b H a ys):xs=ys:=by
 cases b
 ·exact I.tuple_inj h h'
 ·exact I.list_inj h h'
theorem rj{b:Bool}{a c:dP}{xs:List V}(I:Inv X ag σ H s)(h:sL X.K b H a xs)(f:kG X ag H c):a≠c:=by
 rintro rfl;have d:∀{o},X.K.lookup a=Z o->False:=λ{o} e=>by
  have g:=I.ok.mod.kin _ _ e;rcases f.2.2.2.1 with z|z
  ·exact I.ok.noex _ _ g z
  ·exact absurd (nL1 (hL1 g) (aC I.ok.bsz z)) (az _)
 cases b
 ·rcases h with(h|⟨_,h⟩)|⟨_,_,_,h,_⟩
  ·rw[f.1]at h;cases h
  ·rw[f.1]at h;cases h
  ·exact d h
 ·rcases h with(h|⟨_,h⟩)|⟨_,_,_,h,_⟩
  ·rw[f.1]at h;cases h
  ·rw[f.1]at h;cases h
  ·exact d h
theorem uk(I:Inv X ag σ H s){fp:List dP}(hf:∀ b∈fp,kG X ag H b){h':dZ}{p:dP}{xs:List V}{its:List dM}{t':Nat}(hp:s.heap.objs.size<=p)(d:∀ b o,b∉fp->s.heap.get? b=Z o->h'.get? b=Z o)(j:L3 h' p its.toArray)(k:eG xs its)(hz:xs.length<=dW):Inv X ag σ (upd H p (.tup xs)) {s with heap:=h',toks:=t'}:=by
 have f:H p=Y:=I.hok.fresh hp;have g:∀{b o},s.heap.get? b=Z o->b≠p:=λe=>nN1 (nL1 (hL1 e) hp);have h:∀{b u},H b=Z u->b∉fp:=λe z=>by rw[(hf _ z).1]at e;cases e
 refine I.step (g':=s.gens) (d':=s.drawn) (ch:=fp) (λb a=>⟨(hf b a).2.2.2.1,(hf b a).2.1,(hf b a).2.2.2.2.1,(hf b a).2.2.2.2.2⟩) (λb o _ _ hc e _=>d b o hc e) (λb o _ _ hc e _=>⟨o.slots,d b o hc e⟩) (λb o _ e n=>?_)
  (λb o hc e=>⟨o,d b o hc e⟩) (λb ys e=>?_) (λb o u e=>?_) (λb ps e=>⟨#[],?_⟩) (λm l=>?_) (λb u e=>?_) I.bare
 ·rw[eD (g e)];exact n
 ·rw[eD (eN e f)];exact e
 ·rw[eD (eN e f)];exact e
 ·rw[eD (eN e f),e];simp
 ·obtain⟨o,es,ep,i,r⟩:=l;exact⟨o,es,ep,d _ o (λz=>(hf _ z).2.1 O) i,r⟩
 ·by_cases a:b=p
  ·subst a;rw[eI]at e;cases e;exact⟨hz,its,k,j⟩
  ·rw[eD a]at e;refine(I.hok b u e).stay (λc v hc q=>d c v ?_ q) (λc q=>by rw[eD (eN q f)];exact q) λc ys q=>by rw[eD (eN q f)];exact q
   rcases hc with z|z
   ·rw[z];exact h e
   ·exact h z
theorem oO(I:Inv X ag σ H s){fp:List dP}(hf:∀b∈fp,kG X ag H b){h':dZ}{t':Nat}(a:∀b o,b∉fp->s.heap.get? b=Z o->h'.get? b=Z o):Inv X ag σ H {s with heap:=h',toks:=t'}:=by
 have f:∀{b u},H b=Z u->b∉fp:=λe z=>by rw[(hf _ z).1]at e;cases e
 refine I.step (g':=s.gens) (d':=s.drawn) (ch:=fp) (λb d=>⟨(hf b d).2.2.2.1,(hf b d).2.1,(hf b d).2.2.2.2.1,(hf b d).2.2.2.2.2⟩) (λb o _ _ hc e _=>a b o hc e) (λb o _ _ hc e _=>⟨o.slots,a b o hc e⟩) (λb o _ e n=>n)
  (λb o hc e=>⟨o,a b o hc e⟩) (λb ys e=>e) (λb o u e=>e) (λb ps e=>⟨#[],by rw[e];simp⟩) (λm h=>?_) (λb u e=>?_) I.bare
 ·obtain⟨o,es,ep,g,r⟩:=h;exact⟨o,es,ep,a _ o (λz=>(hf _ z).2.1 O) g,r⟩
 ·refine(I.hok b u e).stay (λc v hc q=>a c v ?_ q) (λc q=>q) λc ys q=>q;rcases hc with z|z
  ·rw[z];exact f e
  ·exact f z
end
theorem s0:(2:Nat)<=dW:=by decide
def LP(K:Fg1)(b:Bool)(a:dP):It:=
 ⟨λi H=>∃xs x,sL K b H a xs/\xs[i]?=Z x,λi H x H'=>∃p v,H p=Y/\x = .ref p/\H'=upd H p (.tup [.int i,v]) /\ ∀xs,sL K b H a xs->xs[i]?=Z v,λi H=>∃xs,sL K b H a xs/\xs.length<=i⟩
theorem xU{P:dQ}{w:dS}{K:Fg1}{elts:List Expr}{k:Nat}{pos:Pos}(b:Bool)(a e it:dP)(ne:e≠it):wd P w K (.Tuple elts k pos) (LP K b a) [e,it] e (λi h=>(∃old,Om h e it (i:Nat) old)/\SIt b h it a i) where
 mem:=by simp
 obj:=by
  rintro i h ⟨⟨old,st⟩,L⟩ c hc;rcases aF.mp hc with z|z
  ·subst z;exact⟨_,st,λv q=>by cases q⟩
  ·have aq:c=it:=by simpa using z
   subst aq;exact L.rec_
 keep:=λi h h' ⟨⟨old,st⟩,L⟩ Q=>⟨⟨old,Q e (by simp) _ st⟩,L.to λo q=>Q it (by simp) o q⟩
 item:=by
  intro X am D n hc i ag s σ H E I f st t;subst am D n;obtain⟨⟨old,g⟩,j⟩:=st;obtain⟨xs,x,l,ao⟩:=t;obtain⟨G,C,r,hz⟩:=fg I l;obtain⟨u,V,ru⟩:=C.get ao;refine yD g j r (x:=u) (by simpa using V) ne λh1 A B y wq N=>?_;refine⟨.ref s.heap.objs.size,O,?_⟩;refine wpAny_letOwnedTupleGo_enum A λh2 p d=>?_;have R:s.heap.objs.size≠e:=nG1 (hL1 g);have F:∀c o,c∉[e,it]->s.heap.get? c=Z o->h2.get? c=Z o:=λc o hc q=>by
   have m:c≠e:=λz=>hc (by simp[z]);have c2:c≠it:=λz=>hc (by simp[z]);exact d.extBut _ _ m (N c o m c2 q)
  have T:L3 h2 s.heap.objs.size [.int (i:Nat) s.toks,u].toArray:=⟨_,d.extBut _ _ R y,O,_,O⟩;have I2:=uk I f (t':=s.toks+1) (nR1 _) F T (xs:=[.int i,x]) (.cons ⟨_,O⟩ (.cons ru .nil)) s0;have W:H s.heap.objs.size=Y:=I.hok.fresh (nR1 _);refine⟨.ref s.heap.objs.size,_,I2,O,⟨_,x,W,O,O,λys U=>by rw[nK I U l];exact ao⟩,⟨⟨u,?_⟩,B.to λo q=>d.extBut _ _ (Mt ne) q⟩,λc hc=>?_⟩
  ·have:((i+1:Nat):Int)=(i:Int)+1:=by push_cast;rfl
   rw[this];exact p
  ·have m:c≠s.heap.objs.size:=fun z=>by
    rcases aF.mp hc with q|q
    ·exact R (z.symm.trans q)
    ·have S:c=it:=by simpa using q
     obtain⟨o,au,_⟩:=j.rec_;rw[<- S,z]at au;exact az _ (hL1 au)
   rw[eD m];exact(f c hc).1
 done:=by
  intro X am D n hc i ag s σ H E I f st t;subst am D n;obtain⟨⟨old,g⟩,j⟩:=st;obtain⟨xs,l,ao⟩:=t;obtain⟨G,C,r,hz⟩:=fg I l;have hl:=C.length;refine BA (I.ok.hd hc) g j r (by simp;lia) λh' eb=>⟨O,oO I (t':=s.toks) f λc o hc q=>eb c o (λz=>hc (by simp[z])) q⟩
 self:=λ_ _ _ _ _ ⟨⟨_,st⟩,_⟩ h=>qq st h
def LM(K:Fg1)(b1 b2:Bool)(a1 a2:dP):It:=
 ⟨λi H=>∃xs ys x y,sL K b1 H a1 xs/\sL K b2 H a2 ys/\xs[i]?=Z x/\ys[i]?=Z y,λi H x H'=>∃p v u,H p=Y/\x = .ref p/\H'=upd H p (.tup [v,u])/\(∀xs,sL K b1 H a1 xs->xs[i]?=Z v) /\ ∀ys,sL K b2 H a2 ys->ys[i]?=Z u,
  λi H=>∃xs ys,sL K b1 H a1 xs/\sL K b2 H a2 ys/\(xs.length<=i\/ys.length<=i)⟩
theorem zo{P:dQ}{w:dS}{K:Fg1}{elts:List Expr}{k:Nat}{pos:Pos}(b1 b2:Bool)(a1 a2 z n to p A:dP)(D:Lb z n to p A):wd P w K (.Tuple elts k pos) (LM K b1 b2 a1 a2) [z,n,to,p,A] z
  (λi h=>Ow h z n to .none/\Ox h n (.ref p) (.ref A)/\(∃u v,Ox h to u v)/\SIt b1 h p a1 i/\SIt b2 h A a2 i) where
 mem:=by simp
 obj:=by
  rintro i h ⟨j,b,⟨u,v,g⟩,f,l⟩ c hc;simp only[aF,bO,OA]at hc;rcases hc with rfl|rfl|rfl|rfl|rfl
  ·exact⟨_,j,λv q=>by cases q⟩
  ·exact⟨_,b,λv q=>by cases q⟩
  ·exact⟨_,g,λv q=>by cases q⟩
  ·exact f.rec_
  ·exact l.rec_
 keep:=λi h h' ⟨j,b,⟨u,v,g⟩,f,l⟩ am=>⟨am z (by simp) _ j,am n (by simp) _ b,⟨u,v,am to (by simp) _ g⟩,f.to λo q=>am p (by simp) o q,l.to λo q=>am A (by simp) o q⟩
 item:=by
  intro X wq V L hc i ag s σ H E I d st T;subst wq V L;obtain⟨j,b,⟨u0,v0,g⟩,f,l⟩:=st;obtain⟨xs,ys,x,y,C,B,ex,ey⟩:=T;obtain⟨aq,U,S,hz⟩:=fg I C;obtain⟨F,r,t,R⟩:=fg I B;obtain⟨u,hu,ru⟩:=U.get ex;obtain⟨N,Q,ao⟩:=r.get ey;refine yV D j b g (rj I C (d to (by simp))) (rj I B (d to (by simp))) f l S t (x:=u) (y:=N) (by simpa using hu) (by simpa using Q) λh1 p1 p2 p3 p4 p5 p6 G=>?_;refine⟨.ref s.heap.objs.size,O,?_⟩;refine wpAny_letOwnedTupleGo_zip p1 λh2 z2 a=>?_;have lt:∀c∈[z,n,to,p,A],c≠s.heap.objs.size:=λc hc e=>by
   obtain⟨o,eo⟩:∃o,s.heap.get? c=some o:=by
    simp only[aF,bO,OA]at hc;rcases hc with rfl|rfl|rfl|rfl|rfl
    ·exact⟨_,j⟩
    ·exact⟨_,b⟩
    ·exact⟨_,g⟩
    ·obtain⟨o,e,_⟩:=f.rec_;exact⟨o,e⟩
    ·obtain⟨o,e,_⟩:=l.rec_;exact⟨o,e⟩
   rw[e]at eo;exact az _ (hL1 eo)
  have W:∀c o,c∉[z,n,to,p,A]->s.heap.get? c=Z o->h2.get? c=Z o:=λc o hc q=>by
   simp only[aF,bO,OA,not_or]at hc;exact a.extBut _ _ hc.1 (G c o hc.1 hc.2.2.1 hc.2.2.2.1 hc.2.2.2.2 q)
  have tp:L3 h2 s.heap.objs.size [u,N].toArray:=⟨_,a.extBut _ _ (Mt (lt z (by simp))) p5,O,_,O⟩;have I2:=uk I d (t':=s.toks) (nR1 _) W tp (xs:=[x,y]) (.cons ru (.cons ao .nil)) s0;have hn:H s.heap.objs.size=Y:=I.hok.fresh (nR1 _);refine⟨.ref s.heap.objs.size,_,I2,O,⟨_,x,y,hn,O,O,λau m=>by rw[nK I m C];exact ex,λau m=>by rw[nK I m B];exact ey⟩,
   ⟨z2,a.extBut _ _ D.a1 (G _ _ D.a1 D.a5 D.a6 D.a7 b),⟨u,N,a.extBut _ _ D.a2 p2⟩,p3.to λo q=>a.extBut _ _ D.a3 q,p4.to λo q=>a.extBut _ _ D.a4 q⟩,λc hc=>?_⟩
  rw[eD (lt c hc)];exact(d c hc).1
 done:=by
  intro X wq V L hc i ag s σ H E I d st T;subst wq V L;obtain⟨j,b,⟨u0,v0,g⟩,f,l⟩:=st;obtain⟨xs,ys,C,B,hl⟩:=T;obtain⟨aq,U,S,hz⟩:=fg I C;obtain⟨F,r,t,R⟩:=fg I B;have l1:=U.length;have l2:=r.length;refine Cd (I.ok.hd hc) D j b g (rj I C (d to (by simp))) (rj I B (d to (by simp))) f l S t (by simp;lia) λh' eb=>⟨O,oO I (t':=s.toks) d λc o hc q=>?_⟩;simp only[aF,bO,OA,not_or]at hc;exact eb c o hc.1 hc.2.2.1 hc.2.2.2.1 hc.2.2.2.2 q
 self:=λ_ _ _ _ _ ⟨st,_⟩ h=>wpAny_pyIter_zip st h
section
variable{elts:List Expr}{k:Nat}{tpos:Pos}
def Jk(K:Fg1)(ta:TA):TI:=fun σ H R=>ta σ H λvs H1=>∃a b,vs=[.ref a]/\(∃xs,sL K b H1 a xs)/\R (LP K b a) H1
theorem C1 {a:Expr}{ta:TA}{p pos:Pos}(hg:Gl X "enumerate")(hm:X.mg "enumerate"=Y)(ha:PA X [a] ta)(hs:autoParam (dV [a] X.env=[(J,eval a X.env)]) au0):PI X (.Tuple elts k tpos) (.Call (.Name "enumerate" p) [a] [] pos) (Jk X.K ta):=by
 intro ag s σ H R I h;refine Call_ (jV I hg hm boot_enumerate (Nk (fr (ha pos ag s σ H _ I h) λB f ⟨vs,H1,g,o,m⟩=>?_) hs O));obtain⟨c,b,e,⟨xs,l⟩,q⟩:=m;subst e;cases o with
 |cons r A=>
  cases A;cases r;obtain⟨j,D,u,C⟩:=fg g l;refine yE u λh' i y x v=>qq i ?_;have n:Inv X ag σ H1 {f with heap:=h'}:=g.kept (t':=f.toks) v;refine⟨f.heap.objs.size+1,[f.heap.objs.size+1,f.heap.objs.size],_,_,H1,O,n,xU b c _ _ (Nat.succ_ne_self _),⟨⟨.none,i⟩,y⟩,λd t=>?_,q⟩;rcases aF.mp t with z|z
  ·subst z;exact g.fpOk (aZ _) (g.hok.fresh (aZ _))
  ·have w:d=f.heap.objs.size:=by simpa using z
   subst w;exact g.fpOk (nR1 _) (g.hok.fresh (nR1 _))
def KX(K:Fg1)(ta:TA):TI:=fun σ H R=>ta σ H λvs H1=>∃a1 b1 a2 b2,vs=[.ref a1,.ref a2]/\(∃xs,sL K b1 H1 a1 xs)/\(∃xs,sL K b2 H1 a2 xs)/\R (LM K b1 b2 a1 a2) H1
theorem F2 {a b:Expr}{ta:TA}{p pos:Pos}(hg:Gl X "zip")(hm:X.mg "zip"=none)(ha:PA X [a,b] ta)(hs:autoParam (dV [a,b] X.env=[(false,eval a X.env),(false,eval b X.env)]) au0)(hs2:autoParam (dV [b] X.env=[(false,eval b X.env)]) au0):
  PI X (.Tuple elts k tpos) (.Call (.Name "zip" p) [a,b] [] pos) (KX X.K ta):=by
 intro ag s σ H R I h;refine Call_ (jV I hg hm boot_zip (Nk (fr (ha pos ag s σ H _ I h) λau c ⟨vs,H1,g,y,E⟩=>?_) (by rw[hs,hs2]) (by rw[hs2];rfl)));obtain⟨B,b1,L,b2,e,⟨xs,K⟩,⟨ys,v⟩,q⟩:=E;subst e;cases y with
 |cons r i=>
  cases i with
  |cons F i=>
   cases i;cases r;cases F;obtain⟨C,P,x,Q⟩:=fg g K;obtain⟨l,am,j,w⟩:=fg g v;refine yW x j λh' m u D A o ao t=>wpAny_pyIter_zip m ?_;have G:Inv X ag σ H1 {c with heap:=h'}:=g.kept (t':=c.toks) t;refine⟨c.heap.objs.size+4,[c.heap.objs.size+4,c.heap.objs.size+2,c.heap.objs.size+3,c.heap.objs.size,c.heap.objs.size+1],_,_,H1,O,G,zo b1 b2 B L _ _ _ _ _ ?_,⟨m,u,⟨_,_,D⟩,A,o⟩,λd n=>?_,q⟩
   ·constructor<;>(intro z;have N:((_:Nat)=_):=z;lia)
   ·have f:c.heap.objs.size<=d:=by
     simp only[aF,bO,OA]at n;rcases n with rfl|rfl|rfl|rfl|rfl
     ·exact br _ _
     ·exact br _ _
     ·exact br _ _
     ·exact nR1 _
     ·exact br _ _
    exact g.fpOk f (g.hok.fresh f)
end
noncomputable def eg (S:d7):D->Option (Bool×List D)
 | .tup xs=>some (false,xs)
 | .rol xs=>some (true,xs)
 | .ref n=>match S[n]? with
  |some (.lst xs)=>some (true,xs)
  |_=>none
 |_=>none
noncomputable def jX(S:d7):D->List (Nat×List D)
 | .ref n=>match S[n]? with
  |some (.lst xs)=>[(n,xs)]
  |_=>[]
 |_=>[]
section
variable{K:Fg1}{H:Hp}{mu:List dP}{S:d7}
theorem er{d:D}{v:V}{b:Bool}{xs:List D}(r:fc K H mu d v)(s:Sim K H mu S)(h:eg S d=Z (b,xs)):∃a vs,v = .ref a/\sL K b H a vs/\ej K H mu xs vs:=by
 cases d with
 |tup ys=>cases h;cases r with|tup q t=>exact⟨_,_,rfl,q,t⟩
 |rol ys=>cases h;cases r with|rol q t=>exact⟨_,_,rfl,q.sq,t⟩
 |ref n=>
  rw[eg]at h;split at h
  ·rename_i ys e;cases h;cases r with
   |ref q=>
    obtain⟨vs,f,c⟩:=s.lst e q;exact⟨_,vs,O,nG.of f,c⟩
  ·cases h
 |_=>cases h
theorem iT{d:D}{a:dP}{b:Bool}{xs:List D}(r:fc K H mu d (.ref a))(s:Sim K H mu S)(h:eg S d=some (b,xs)){H1:Hp}{mu1:List dP}{S1:d7}(x:sP mu mu1 H H1)(g:Sim K H1 mu1 S1)(ok:pC S1 (jX S d)=true):
  ∃vs,sL K b H1 a vs/\ej K H1 mu1 xs vs:=by
 have c:=r.exw x;have h1:eg S1 d=Z (b,xs):=by
  cases d with
  |ref n=>
   rw[eg]at h;split at h
   ·rename_i ys e;cases h;rw[jX,e]at ok;dsimp only[pC]at ok;rw[bP]at ok;rw[eg];split at ok
    ·rename_i zs f
     first|rw[f,D.sames_eq ok] | rw[D.sames_eq ok]
    ·cases ok
   ·cases h
  |_=>exact h
 obtain⟨i,vs,e,q,t⟩:=er c g h1;cases e;exact⟨vs,q,t⟩
end
noncomputable def gZ (m:FE):FI:=λr S=>(m r S).bind λp=>(eg p.2 p.1).bind λq=>some (⟨q.2,jX p.2 p.1⟩,p.2)
noncomputable def u6:Nat->List D->List D
 |_,[]=>[]
 |n,d::ds=>.tup [.int n,d]::u6 (n+1) ds
noncomputable def oR (m:FA):FI:=λr S=>(m r S).bind λp=>match p.1 with
 |[d]=>(eg p.2 d).bind λq=>some (⟨u6 0 q.2,jX p.2 d⟩,p.2)
 |_=>none
noncomputable def xL:List D->List D->List D
 |x::xs,y::ys=>.tup [x,y]::xL xs ys
 |_,_=>[]
def Jg(m:FA):FI:=λr S=>(m r S).bind λp=>match p.1 with
 |[d,e]=>(eg p.2 d).bind λq=>(eg p.2 e).bind λt=>Z (⟨xL q.2 t.2,jX p.2 d++jX p.2 e⟩,p.2)
 |_=>Y
noncomputable def gb(lo:Int):Nat->List D
 |0=>[]
 |n+1=>.int lo::gb (lo+1) n
noncomputable def pN (m:FA):FI:=λr S=>(m r S).bind λp=>match p.1 with
 |[.int j]=>if-(2^62)<=j/\j<2^62 then some (⟨gb 0 j.toNat,[]⟩,p.2)else none
 |_=>none
def Hf(m:FA):FI:=λr S=>(m r S).bind λp=>match p.1 with
 |[.int i,.int j]=>if-(2^62)<=i/\i<2^62 /\ -(2^62)<=j/\j<2^62 then Z (⟨gb i (j-i).toNat,[]⟩,p.2)else Y
 |_=>Y
theorem fZ:∀(ds:List D) (n i:Nat),(u6 n ds)[i]?=(ds[i]?).map λd=>.tup [.int ((n+i:Nat):Int),d]
 |[],n,i=>by simp[u6]
 |d::ds,n,0=>by simp[u6]
 |d::ds,n,i+1=>by
  rw[u6,gC1,fZ ds (n+1) i,gC1];rw[show n+1+i=n+(i+1) by lia]
theorem fY:∀(ds:List D) (n:Nat),(u6 n ds).length=ds.length
 |[],_=>rfl
 |d::ds,n=>by rw[u6,lC1,fY ds,lC1]
theorem wk:∀(xs ys:List D) (i:Nat) (d:D),(xL xs ys)[i]?=Z d -> ∃x y,xs[i]?=Z x/\ys[i]?=Z y/\d = .tup [x,y]
 |[],_,i,d,h=>by simp[xL]at h
 |_::_,[],i,d,h=>by simp[xL]at h
 |x::xs,y::ys,0,d,h=>by simp[xL]at h;exact⟨x,y,O,O,h.symm⟩
 |x::xs,y::ys,i+1,d,h=>by
  rw[xL,gC1]at h;obtain⟨e,a,f,c,b⟩:=wk xs ys i d h;exact⟨e,a,by simpa using f,by simpa using c,b⟩
theorem wj:∀(xs ys:List D) (i:Nat),(xL xs ys).length<=i->xs.length<=i\/ys.length<=i
 |[],_,i,_=>.inl (bj _)
 |_::_,[],i,_=>.inr (bj _)
 |x::xs,y::ys,0,h=>by simp[xL]at h
 |x::xs,y::ys,i+1,h=>by
  rcases wj xs ys i (by simpa[xL]using h)with q|q
  ·exact .inl (by simpa using q)
  ·exact .inr (by simpa using q)
theorem oB:∀(n:Nat) (lo:Int) (i:Nat) (d:D),(gb lo n)[i]?=Z d->i<n/\d = .int (lo+i)
 |0,lo,i,d,h=>by simp[gb]at h
 |n+1,lo,0,d,h=>by simp[gb]at h;exact⟨Nat.succ_pos _,by rw[<- h];simp⟩
 |n+1,lo,i+1,d,h=>by
  rw[gb,gC1]at h;obtain⟨h1,h2⟩:=oB n (lo+1) i d h;refine⟨Nat.succ_lt_succ h1,?_⟩;rw[h2,show lo+1+(i:Int)=lo+((i+1:Nat):Int) by push_cast;lia]
theorem eM:∀(n:Nat) (lo:Int),(gb lo n).length=n
 |0,_=>rfl
 |n+1,lo=>by rw[gb,lC1,eM n]
theorem wL{S:d7}:∀{c a:List (Nat×List D)},pC S (c++a)=M->pC S c=M/\pC S a=M
 |[],_,h=>⟨O,h⟩
 |(n,xs)::c,a,h=>by
  rw[bm,pC,bA1]at h;obtain⟨h1,h2⟩:=wL h.2;exact⟨by rw[pC,bA1];exact⟨h.1,h1⟩,h2⟩
section
variable{tg:Expr}
theorem uj(K:Fg1)(lo:Int)(n:Nat)(mu:List dP)(H:Hp):Lk K (JT lo n) ⟨gb lo n,[]⟩ mu H:=by
 intro i H1 mu1 e x s ok;refine⟨λd a=>?_,λh=>by rw[eM]at h;exact h⟩;obtain⟨h1,h2⟩:=oB n lo i d a;refine⟨h1,λy H2 ⟨b,c⟩=>?_⟩;subst b;subst c;subst h2;exact⟨.refl _ _,s,.int _⟩
theorem GE{e:Expr}{m:FE}(h:ME X e m):MI X tg e (gZ m):=ou (Iz (C0 h) (F3 h)) <| by
 rintro σ H R ⟨r,mu,S,am,K,C,D,n,hc⟩;obtain⟨⟨d,I⟩,E,n⟩:=PC n;obtain⟨⟨b,xs⟩,o,n⟩:=PC n;cases n;cases b with
 |true=>
  left;refine⟨r,mu,S,d,_,C,D,E,λv H1 mu1 p k c=>?_⟩;obtain⟨a,vs,rfl,q,t⟩:=er k c o;refine⟨a,O,⟨vs,q⟩,hc _ H1 mu1 p (λi H2 u F z l ok=>?_) c⟩;obtain⟨ws,f,g⟩:=iT k c o z l ok;refine⟨λd x=>?_,λB=>⟨ws,f,by rw[<- g.length];exact B⟩⟩;obtain⟨v,j,w⟩:=g.get x;refine⟨⟨ws,v,f,j⟩,λy G ⟨s,A⟩=>?_⟩;subst s;have:=A ws f;rw[j]at this;cases this;exact⟨.refl _ _,l,w⟩
 |false=>
  right;refine⟨r,mu,S,d,_,C,D,E,λv H1 mu1 p k c=>?_⟩;obtain⟨a,vs,rfl,q,t⟩:=er k c o;refine⟨a,O,⟨vs,q⟩,hc _ H1 mu1 p (λi H2 u F z l ok=>?_) c⟩;obtain⟨ws,f,g⟩:=iT k c o z l ok;refine⟨λd x=>?_,λB=>⟨ws,f,by rw[<- g.length];exact B⟩⟩;obtain⟨v,j,w⟩:=g.get x;refine⟨⟨ws,v,f,j⟩,λy G ⟨s,A⟩=>?_⟩;subst s;have:=A ws f;rw[j]at this;cases this;exact⟨.refl _ _,l,w⟩
theorem lT{K:Fg1}{H:Hp}{mu:List dP}{d:D}{vs:List V}(r:ej K H mu [d] vs):∃v,vs=[v]/\fc K H mu d v:=by
 cases r with|cons r t=>cases t;exact⟨_,O,r⟩
theorem tE{K:Fg1}{H:Hp}{mu:List dP}{d e:D}{vs:List V}(r:ej K H mu [d,e] vs):∃v u,vs=[v,u]/\fc K H mu d v/\fc K H mu e u:=by
 cases r with|cons r t=>cases t with|cons q t=>cases t;exact⟨_,_,O,r,q⟩
theorem ym {a:Expr}{m:FA}{p pos:Pos}(hg:Gl X "range")(hm:X.mg "range"=Y)(ha:MA X [a] m)(hs:autoParam (dV [a] X.env=[(J,eval a X.env)]) au0):MI X tg (.Call (.Name "range" p) [a] [] pos) (pN m):=
 ou (yc hg hm ha hs) <| by
  rintro σ H R ⟨r,mu,S,am,i,f,hs,hm,hc⟩;obtain⟨⟨ds,k⟩,g,hm⟩:=PC hm;dsimp only at hm;split at hm
  ·rename_i j;split at hm
   ·rename_i b;cases hm;refine⟨r,mu,S,_,_,f,hs,g,λvs H1 mu1 d e c=>?_⟩;obtain⟨v,rfl,h⟩:=lT e;cases h;exact⟨j,O,b.1,b.2,hc _ H1 mu1 d (uj _ _ _ _ _) c⟩
   ·cases hm
  ·cases hm
theorem yk {a b:Expr}{m:FA}{p pos:Pos}(hg:Gl X "range")(hm:X.mg "range"=Y)(ha:MA X [a,b] m)(hs:autoParam (dV [a,b] X.env=[(J,eval a X.env),(J,eval b X.env)]) au0)(hs2:autoParam (dV [b] X.env=[(J,eval b X.env)]) au0):MI X tg (.Call (.Name "range" p) [a,b] [] pos) (Hf m):=
 ou (yb hg hm ha hs hs2) <| by
  rintro σ H R ⟨r,mu,S,am,n,h,hs,hm,hc⟩;obtain⟨⟨ds,o⟩,k,hm⟩:=PC hm;dsimp only at hm;split at hm
  ·rename_i i j;split at hm
   ·rename_i d;cases hm;refine⟨r,mu,S,_,_,h,hs,k,λvs H1 mu1 e g c=>?_⟩;obtain⟨v,u,rfl,l,f⟩:=tE g;cases l;cases f;exact⟨i,j,O,d,hc _ H1 mu1 e (uj _ _ _ _ _) c⟩
   ·cases hm
  ·cases hm
variable{elts:List Expr}{k:Nat}{tpos:Pos}
theorem Dr {a:Expr}{m:FA}{p pos:Pos}(hg:Gl X "enumerate")(hm:X.mg "enumerate"=Y)(ha:MA X [a] m)(hs:autoParam (dV [a] X.env=[(J,eval a X.env)]) au0):MI X (.Tuple elts k tpos) (.Call (.Name "enumerate" p) [a] [] pos) (oR m):=
 ou (C1 hg hm ha hs) <| by
  rintro σ H R ⟨r,mu,S,am,au,z,hs,hm,hc⟩;obtain⟨⟨ds,L⟩,E,hm⟩:=PC hm;dsimp only at hm;split at hm
  ·rename_i d;obtain⟨⟨b,xs⟩,j,hm⟩:=PC hm;cases hm;refine⟨r,mu,S,_,_,z,hs,E,λvs H1 mu1 x A f=>?_⟩;obtain⟨v,rfl,s⟩:=lT A;obtain⟨a,vs,rfl,q,t⟩:=er s f j;refine⟨a,b,O,⟨vs,q⟩,hc _ H1 mu1 x (λi H2 C K F o ok=>?_) f⟩;obtain⟨ws,g,l⟩:=iT s f j F o ok;refine⟨λd c=>?_,λu=>⟨ws,g,by rw[fY]at u;rw[<- l.length];exact u⟩⟩;rw[fZ]at c;obtain⟨ao,w,c⟩:=PD c;obtain⟨v,n,h⟩:=l.get w;refine⟨⟨ws,v,g,n⟩,λy N ⟨p,I,e,B,G,D⟩=>?_⟩;have:=D ws g;rw[n]at this;cases this;subst B;subst G;subst c;rw[bQ];exact⟨Ext.fresh e,o.fresh e,.tup (kF.of eI) (.cons (.int _) (.cons (h.ext (Ext.fresh e)) .nil))⟩
  ·cases hm
theorem GD {a b:Expr}{m:FA}{p pos:Pos}(hg:Gl X "zip")(hm:X.mg "zip"=Y)(ha:MA X [a,b] m)(hs:autoParam (dV [a,b] X.env=[(J,eval a X.env),(J,eval b X.env)]) au0)(hs2:autoParam (dV [b] X.env=[(J,eval b X.env)]) au0):MI X (.Tuple elts k tpos) (.Call (.Name "zip" p) [a,b] [] pos) (Jg m):=
 ou (F2 hg hm ha hs hs2) <| by
  rintro σ H R ⟨r,mu,S,am,S',au,hs,hm,hc⟩;obtain⟨⟨ds,S1⟩,W,hm⟩:=PC hm;dsimp only at hm;split at hm
  ·rename_i d e;obtain⟨⟨b1,xs⟩,A,hm⟩:=PC hm;obtain⟨⟨b2,ys⟩,x,hm⟩:=PC hm;cases hm;refine⟨r,mu,S,_,_,au,hs,W,λvs H1 mu1 ao P f=>?_⟩;obtain⟨v,u,rfl,G,L⟩:=tE P;obtain⟨a1,t,rfl,aq,t1⟩:=er G f A;obtain⟨a2,s,rfl,q2,t2⟩:=er L f x;refine⟨a1,b1,a2,b2,O,⟨t,aq⟩,⟨s,q2⟩,hc _ H1 mu1 ao (λi H2 U S2 K n ok=>?_) f⟩;obtain⟨w,h⟩:=wL ok;obtain⟨ws,o,B⟩:=iT G f A K n w;obtain⟨c,j,F⟩:=iT L f x K n h;refine⟨λd wq=>?_,λhl=>⟨ws,c,o,j,?_⟩⟩
   ·obtain⟨x',y',ex,N,rfl⟩:=wk xs ys i d wq;obtain⟨v,C,q⟩:=B.get ex;obtain⟨u,E,l⟩:=F.get N;refine⟨⟨ws,c,v,u,o,j,C,E⟩,λy H3 ⟨p,v',u',g,T,z2,V,Q⟩=>?_⟩;have D:=V ws o;have I:=Q c j;rw[C]at D;cases D;rw[E]at I;cases I;subst T;subst z2;exact⟨Ext.fresh g,n.fresh g,.tup (kF.of eI) (.cons (q.ext (Ext.fresh g)) (.cons (l.ext (Ext.fresh g)) .nil))⟩
   ·rcases wj xs ys i hl with z|z
    ·exact .inl (by rw[<- B.length];exact z)
    ·exact .inr (by rw[<- F.length];exact z)
  ·cases hm
end
abbrev G1:=D->d7->Option (D×d7)
abbrev G2:=D->D->d7->Option (D×d7)
abbrev G3:=D->D->D->d7->Option (D×d7)
noncomputable def b1 (f:G1):FN:=λds S=>match ds with
 |[a]=>f a S
 |_=>none
noncomputable def b2 (f:G2):FN:=λds S=>match ds with
 |[a,b]=>f a b S
 |_=>none
noncomputable def b3 (f:G3):FN:=λds S=>match ds with
 |[a,b,c]=>f a b c S
 |_=>none
section
variable{K:Fg1}{H:Hp}{Q:VK}
theorem u4{f:G2}{x y:V}(h:rN K (b2 f) [x,y] H Q):∃mu S d e r a,fc K H mu d x/\fc K H mu e y/\Sim K H mu S/\f d e S=Z (r,a)/\sN K mu H r a Q:=by
 obtain⟨mu,S,ds,r,a,b,c,i,hc⟩:=h;cases b with
 |cons q t=>cases t with
  |cons g t=>cases t;exact⟨mu,S,_,_,r,a,q,g,c,i,hc⟩
theorem xZ{f:G1}{xs:List V}(h:rN K (b1 f) xs H Q):∃x mu S d r a,xs=[x]/\fc K H mu d x/\Sim K H mu S/\f d S=Z (r,a)/\sN K mu H r a Q:=by
 obtain⟨mu,S,ds,r,a,c,e,b,hc⟩:=h;cases c with
 |nil=>cases b
 |cons q t=>cases t with
  |nil=>exact⟨_,mu,S,_,r,a,O,q,e,b,hc⟩
  |cons g t=>cases b
theorem zR{f:G2}{xs:List V}(h:rN K (b2 f) xs H Q):∃x y mu S d e r a,xs=[x,y]/\fc K H mu d x/\fc K H mu e y/\Sim K H mu S/\f d e S=Z (r,a)/\sN K mu H r a Q:=by
 obtain⟨mu,S,ds,r,a,c,g,b,hc⟩:=h;cases c with
 |nil=>cases b
 |cons q t=>cases t with
  |nil=>cases b
  |cons i t=>cases t with
   |nil=>exact⟨_,_,mu,S,_,_,r,a,O,q,i,g,b,hc⟩
   |cons j t=>cases b
theorem sN.now{mu:List dP}{S:d7}{d:D}{v:V}(c:sN K mu H d S Q)(r:fc K H mu d v)(s:Sim K H mu S):Q v H:=c v H mu (.refl _ _) r s
end
noncomputable def fq(i j:Int):Bool:=(decide (-(2^64)<i)&&decide (i<2^64))||(decide (-(2^64)<j)&&decide (j<2^64))||(decide (i.natAbs<2^1000)&&decide (j.natAbs<2^1000))
noncomputable def gj:G2:=λd e S=>match d,e with
 | .int i,.int j=>Z (.int (i+j),S)
 | .tup xs,.tup ys=>if xs.length+ys.length<=dW then Z (.tup (xs++ys),S)else Y
 | .str x,.str y=>if x.length+y.length<=dW then Z (.str (x++y),S)else Y
 | .ref a,.ref b=>match S[a]?,S[b]? with
  |some (.lst xs),Z (.lst ys)=>if xs.length+ys.length<=dW then Z (.ref S.length,S++[.lst (xs++ys)])else Y
  |_,_=>Y
 |_,_=>Y
noncomputable def gSub:G2:=λd e S=>match d,e with
 | .int i,.int j=>Z (.int (i-j),S)
 |_,_=>Y
def mW:G2:=λd e S=>match d,e with
 | .int i,.int j=>if fq i j=M then Z (.int (i*j),S)else Y
 |_,_=>Y
noncomputable def mf:G2:=λd e S=>match d,e with
 | .int i,.int j=>if 0<j then Z (.int (i%j),S)else Y
 |_,_=>Y
noncomputable def ss:G2:=λd e S=>match d,e with
 | .int i,.int j=>if 0<j/\j<1073741824 then Z (.int (i/j),S)else Y
 |_,_=>Y
noncomputable def vR:G2:=λd e S=>match d,e with
 | .int i,.int j=>if 0<=j/\j<=1000000/\i.natAbs<2^64 then Z (.int (i^j.toNat),S)else Y
 |_,_=>Y
noncomputable def Bt:G1:=λd S=>match d with
 | .int i=>Z (.int (-i),S)
 |_=>Y
theorem vE{i j:Int}(h:fq i j=M):IntMulOk i j:=by
 unfold fq at h;simp only[bR,bA1,al]at h;rcases h with(⟨h1,h2⟩|⟨h1,h2⟩)|⟨h1,h2⟩
 ·exact .of_left (intBits_le_64 h1 h2)
 ·exact .of_right (intBits_le_64 h1 h2)
 ·exact .of_bits (aC (intBits_le h1) (by decide)) (aC (intBits_le h2) (by decide))
theorem nP{f:dM->dM->Sem dM}{g:G2}{c:Int->Int->Prop}{v:Int->Int->D}(hg:∀ d e S r a,g d e S=Z (r,a) -> ∃ i j,d = .int i/\e = .int j/\c i j/\r=v i j/\a=S){b:Int->Int->V}(hv:∀i j K H mu,fc K H mu (v i j) (b i j))(ho:gJ X f (rI c b)):gJ X f (r2 X.K (b2 g)):=by
 intro ag s σ H x y u w Q I l k h;obtain⟨mu,S,d,e,r,a,o,r2,m,p,hc⟩:=u4 h;obtain⟨i,j,rfl,rfl,n,rfl,rfl⟩:=hg d e S r a p;cases o;cases r2;exact ho ag s σ H _ _ u w Q I l k ⟨i,j,O,O,n,hc.now (hv i j _ _ _) m⟩
theorem ox{f:dM->dM->Sem dM}{g:G2}{v:Int->Int->D}(hg:∀ d e S r a,g d e S=Z (r,a) -> ∃ i j,d = .int i/\e = .int j/\r=v i j/\a=S){b:Int->Int->V}(hv:∀i j K H mu,fc K H mu (v i j) (b i j))(ho:gJ X f (ED b)):gJ X f (r2 X.K (b2 g)):=by
 intro ag s σ H x y u w Q I k c h;obtain⟨mu,S,d,e,r,a,m,r2,l,n,hc⟩:=u4 h;obtain⟨i,j,rfl,rfl,rfl,rfl⟩:=hg d e S r a n;cases m;cases r2;exact ho ag s σ H _ _ u w Q I k c ⟨i,j,O,O,hc.now (hv i j _ _ _) l⟩
theorem ng:gJ X (Nm .Mult) (r2 X.K (b2 mW)):=nP (c:=λi j=>IntMulOk i j) (v:=λi j=>.int (i*j)) (λd e S r a h=>by
 unfold mW at h;split at h
 ·split at h
  ·rename_i q;cases h;exact⟨_,_,O,O,vE q,O,O⟩
  ·cases h
 ·cases h) (λ_ _ _ _ _=>.int _) (J3 λ_ _ _ _ _ _ _ hc q=>mul_int q hc)
theorem nh:gJ X (Nm .Mod) (r2 X.K (b2 mf)):=nP (c:=λ_ j=>0<j) (v:=λi j=>.int (i%j)) (λd e S r a h=>by
 unfold mf at h;split at h
 ·split at h
  ·rename_i q;cases h;exact⟨_,_,O,O,q,O,O⟩
  ·cases h
 ·cases h) (λ_ _ _ _ _=>.int _) Gi
theorem wM:gJ X (Nm .FloorDiv) (r2 X.K (b2 ss)):=nP (c:=JW) (v:=λi j=>.int (i/j)) (λd e S r a h=>by
 unfold ss at h;split at h
 ·split at h
  ·rename_i q;cases h;exact⟨_,_,O,O,q,O,O⟩
  ·cases h
 ·cases h) (λ_ _ _ _ _=>.int _) C8
theorem Av:gJ X (Nm .Pow) (r2 X.K (b2 vR)):=nP (c:=JV) (v:=λi j=>.int (i^j.toNat)) (λd e S r a h=>by
 unfold vR at h;split at h
 ·split at h
  ·rename_i q;cases h;exact⟨_,_,O,O,q,O,O⟩
  ·cases h
 ·cases h) (λ_ _ _ _ _=>.int _) Gh
theorem EF:HR X (unaryOp .USub) (λx H Q=>rN X.K (b1 Bt) [x] H Q):=by
 intro ag s σ H x v Q I b h;obtain⟨j,mu,S,d,r,g,e,f,c,a,hc⟩:=xZ h;cases e;cases d with
 |int i=>cases a;cases f;exact EZ ag s σ H _ v Q I b ⟨i,O,hc.now (.int _) c⟩
 |_=>cases a
theorem yJ{s:dN}{prog:dQ}{w:dS}{A:dR}{E:dM->dN->Prop}{t b:dP}{ws:List dM}{Q:dM->dN->Prop}(ht:L3 s.heap t ([]:List dM).toArray)(hb:L3 s.heap b ws.toArray)(h:Q (.ref b) s):
  dX (Mw prog w) A (Nm .Add (.ref t) (.ref b)) Q E s:=by
 obtain⟨⟨q,m,j,o⟩,i,hc,n,k⟩:=id ht;obtain⟨⟨l,g,e,f⟩,d,a,p,c⟩:=id hb;simp only at hc k a c;subst hc k a c;exact concat_meets ⟨_,i,O⟩ ⟨_,d,O⟩ noFill_tuple_add seq_tuple_add NE NF (NG _ _) (tuple_addW0 t b ([]:List dM).toArray ws.toArray n p m g o f (by simp)) ⟨i,d,h⟩
theorem gt:gJ X (Nm .Add) (r2 X.K (b2 gj)):=by
 intro ag s σ H x y u w Q I o q h;obtain⟨mu,S,d,e,r,R,v,r2,g,c,hc⟩:=u4 h;unfold gj at c;split at c
 ·cases c;cases v;cases r2;exact Gm ag s σ H _ _ u w Q I o q ⟨_,_,O,O,hc.now (.int _) g⟩
 ·rename_i xs ys;split at c
  ·rename_i t;cases c;cases v with
   |tup B l=>
    cases r2 with
    |tup C k=>
     rename_i f a1 m a2;by_cases E:f=[]
     ·subst E;have:xs=[]:=by cases l;rfl
      subst this;cases o;cases q;obtain⟨A,ao,am,_⟩:=I.tuple B;obtain⟨D,au,p2,_⟩:=I.tuple C;have:A=[]:=ao.nil_iff.mpr O;subst this;exact yJ am p2 ⟨.ref a2,H,I,O,hc.now (.tup C k) g⟩
     ·refine C9 ag s σ H _ _ u w Q I o q ⟨a1,a2,f,m,O,O,B,C,E,by rw[<- l.length,<- k.length];exact t,λz=>?_,λz p n=>?_⟩
      ·subst z;have:ys=[]:=by cases k;rfl
       subst this;rw[aP]at hc;exact hc.now (.tup B l) g
      ·exact hc _ _ mu (Ext.fresh n) (.tup (kF.of eI) ((l.append k).ext (Ext.fresh n))) (g.fresh n)
  ·cases c
 ·rename_i i j;split at c
  ·rename_i t;cases c;cases v;cases r2;exact vy ag s σ H _ _ u w Q I o q ⟨i,j,O,O,t,hc.now (.str _) g⟩
  ·cases c
 ·rename_i a b;split at c
  ·rename_i xs ys N P;split at c
   ·rename_i t;cases c;cases v with
    |ref F=>
     cases r2 with
     |ref K=>
      obtain⟨f,L,l⟩:=g.lst N F;obtain⟨m,G,k⟩:=g.lst P K;refine Gk ag s σ H _ _ u w Q I o q ⟨_,_,f,m,O,O,L,G,by rw[<- l.length,<- k.length];exact t,λp n=>?_⟩;exact hc _ _ (mu++[p]) (Ext.new_ n) (.ref (gA g.len p)) (g.newL (l.append k) n)
   ·cases c
  ·cases c
 ·cases c
noncomputable def kE(p:Int->Int->Bool):G2:=λd e S=>match d,e with
 | .int i,.int j=>Z (.bl (p i j),S)
 |_,_=>Y
theorem su{p:Int->Int->Bool}(d e:D)(S:d7)(r:D)(a:d7)(h:kE p d e S=Z (r,a)):∃i j,d = .int i/\e = .int j/\r = .bl (p i j)/\a=S:=by
 unfold kE at h;split at h
 ·cases h;exact⟨_,_,O,O,O,O⟩
 ·cases h
theorem IK:gJ X (Nn .LtE) (r2 X.K (b2 (kE λi j=>decide (i<=j)))):=ox su (λ_ _ _ _ _=>.bl _) IG
theorem KO:gJ X (Nn .Gt) (r2 X.K (b2 (kE λi j=>decide (j<i)))):=ox su (λ_ _ _ _ _=>.bl _) IH
theorem IP:gJ X (Nn .GtE) (r2 X.K (b2 (kE λi j=>decide (j<=i)))):=ox su (λ_ _ _ _ _=>.bl _) II
noncomputable def mj:D->Bool
 | .non=>M
 | .bl _=>M
 | .int _=>M
 | .str _=>M
 |_=>J
noncomputable def Kd:D->D->Option Bool
 | .non,.non=>some true
 | .bl a,.bl b=>some (a == b)
 | .bl a,.int b=>some ((if a then 1 else 0) == b)
 | .int a,.bl b=>some (a == (if b then 1 else 0))
 | .int a,.int b=>some (a == b)
 | .str a,.str b=>some (a == b)
 |d,e=>if mj d&&mj e then some false else none
noncomputable def xr(f:D->D->Option Bool):List D->List D->Option Bool
 |x::xs,y::ys=>(f x y).bind λb=>(xr f xs ys).map λc=>b&&c
 |[],[]=>Z M
 |_,_=>Z J
def hL(S:d7):Nat->D->D->Option Bool
 |0,_,_=>Y
 |n+1,d,e=>match eg S d,eg S e with
  |some p,Z q=>if p.1=q.1 then(if p.1=M/\p.2.length≠q.2.length then Z J else xr (hL S n) p.2 q.2)else Z J
  |some _,Y=>if mj e=M then Z J else Y
  |none,Z _=>if mj d=M then Z J else Y
  |none,Y=>Kd d e
section
variable{ag:List (dP×Obj)}{σ:L2.St}{H:Hp}{s:dN}{mu:List dP}{S:d7}
theorem fR{K:Fg1}{d:D}{v:V}(r:fc K H mu d v)(h:mj d=M):kS v=M /\ ∀e w,fc K H mu e w->mj e=M->Kd d e=Z (u5 v w):=by
 cases d with
 |non=>cases r;refine⟨O,λe w q f=>?_⟩;cases e with
  |non=>cases q;rfl
  |bl _=>cases q;rfl
  |int _=>cases q;rfl
  |str _=>cases q;rfl
  |_=>cases f
 |bl b=>cases r;refine⟨O,λe w q f=>?_⟩;cases e with
  |non=>cases q;rfl
  |bl _=>cases q;rfl
  |int _=>cases q;rfl
  |str _=>cases q;rfl
  |_=>cases f
 |int i=>cases r;refine⟨O,λe w q f=>?_⟩;cases e with
  |non=>cases q;rfl
  |bl _=>cases q;rfl
  |int _=>cases q;rfl
  |str _=>cases q;rfl
  |_=>cases f
 |str x=>cases r;refine⟨O,λe w q f=>?_⟩;cases e with
  |non=>cases q;rfl
  |bl _=>cases q;rfl
  |int _=>cases q;rfl
  |str _=>cases q;rfl
  |_=>cases f
 |_=>cases h
theorem oX{d e:D}{b:Bool}(h:Kd d e=Z b):mj d=M/\mj e=M:=by
 cases d<;>cases e<;>first|exact⟨rfl,rfl⟩|(cases h;done)|exact nomatch h|(simp[Kd,mj]at h)
theorem By{v:V}(h:kS v=M):u5 v v=M:=by
 cases v<;>first|rfl|(cases h;done)|exact OB _|(simp[u5];done)
theorem uC(I:Inv X ag σ H s)(hs:Sim X.K H mu S):∀(n:Nat) {d e:D} {v:V} {b:Bool},fc X.K H mu d v->fc X.K H mu e v->hL S n d e=Z b->b=M
 |0,_,_,_,_,_,_,h=>by cases h
 |n + 1,d,e,v,b,u,l,h=>by
  rw[hL]at h;have g:∀{xs ys:List D} {vs:List V} {b:Bool},ej X.K H mu xs vs->ej X.K H mu ys vs->xr (hL S n) xs ys=Z b->b=M:=by
   intro xs
   induction xs with
   |nil=>intro ys vs b A w h;cases A;cases w;cases h;rfl
   |cons x xs ih=>
    intro ys vs b A w h;cases A with
    |cons r t=>
     cases w with
     |cons au R=>
      rw[xr]at h;obtain⟨b1,i,h⟩:=PC h;obtain⟨b2,c,h⟩:=PD h;subst h;rw[uC I hs n r au i,ih t R c];rfl
  cases hd:eg S d with
  |some p=>
   obtain⟨F,xs⟩:=p;obtain⟨a,vs,rfl,q,t⟩:=er u hs hd;cases he:eg S e with
   |some p2=>
    obtain⟨qb,ys⟩:=p2;obtain⟨a2,z,c,B,m⟩:=er l hs he;cases c;rw[hd,he]at h;dsimp only at h;obtain⟨N,U,C,_⟩:=fg I q;obtain⟨E,T,j,_⟩:=fg I B;have G:F=qb:=by
     cases F<;>cases qb
     ·rfl
     ·obtain⟨o,i,y,_⟩:=C;obtain⟨K,c,k,_⟩:=j;rw[i]at c;cases c;rw[y]at k;exact absurd k (by decide)
     ·obtain⟨o,i,y,_⟩:=C;obtain⟨K,c,k,_⟩:=j;rw[i]at c;cases c;rw[y]at k;exact absurd k (by decide)
     ·rfl
    subst G;have L:=nK I q B;subst L;rw[ak O,aj (by rw[t.length,m.length];simp)]at h;exact g t m h
   |none=>
    rw[hd,he]at h;dsimp only at h;split at h
    ·rename_i f;have:=(fR l f).1;cases this
    ·cases h
  |none=>
   cases he:eg S e with
   |some p2=>
    obtain⟨qb,ys⟩:=p2;obtain⟨a2,z,c,B,m⟩:=er l hs he;subst c;rw[hd,he]at h;dsimp only at h;split at h
    ·rename_i f;have:=(fR u f).1;cases this
    ·cases h
   |none=>
    rw[hd,he]at h;dsimp only at h;obtain⟨P,Q⟩:=oX h;obtain⟨ao,am⟩:=fR u P;rw[am e v l Q]at h;cases h;exact By ao
theorem fG{A:dR}{b:Bool}{a:dP}{its:Array dM}{v:V}{u:dM}(c:SCo b s.heap a its)(r:eu v u)(f:kS v=true)(d:A.units<Nv):
   NX A s (.ref a) u J/\NX A s u (.ref a) J/\OC A s (.ref a) u J/\OC A s u (.ref a) J:=by
 cases v with
 | non => cases r;cases b
          · exact⟨.tuple_none c d,.none_tuple c d,.tuple_none c d,.none_tuple c d⟩
          · exact⟨.list_none c d,.none_list c d,.list_none c d,.none_list c d⟩
 | bl k => cases r;cases b
           · exact⟨.tuple_bool k c d,.bool_tuple k c d,.tuple_bool k c d,.bool_tuple k c d⟩
           · exact⟨.list_bool k c d,.bool_list k c d,.list_bool k c d,.bool_list k c d⟩
 | int i => obtain ⟨t,rfl⟩:=r;cases b
            · exact⟨.tuple_int i t c d,.int_tuple i t c d,.tuple_int i t c d,.int_tuple i t c d⟩
            · exact⟨.list_int i t c d,.int_list i t c d,.list_int i t c d,.int_list i t c d⟩
 | str x => obtain ⟨t,rfl⟩:=r;cases b
            · exact⟨.tuple_str x t c d,.str_tuple x t c d,.tuple_str x t c d,.str_tuple x t c d⟩
            · exact⟨.list_str x t c d,.str_list x t c d,.list_str x t c d,.str_list x t c d⟩
 |_=>cases f
theorem CH{A:dR}{x y:V}{u w:dM}(d:eu x u)(a:eu y w)(h:kS x=M)(e:kS y=M):OC A s u w (u5 x y):=by
 cases x with
 |non=>cases d;cases y with
  |non=>cases a;exact .none_none
  |bl k=>cases a;exact .none_bool k
  |int i=>obtain⟨t,rfl⟩:=a;exact .none_int i t
  |str z=>obtain⟨t,rfl⟩:=a;exact .none_str z t
  |_=>cases e
 |bl c=>cases d;cases y with
  |non=>cases a;exact .bool_none c
  |bl k=>cases a;exact .bool_bool c k
  |int i=>obtain⟨t,rfl⟩:=a;exact .bool_int c i t
  |str z=>obtain⟨t,rfl⟩:=a;exact .bool_str c z t
  |_=>cases e
 |int f=>obtain⟨b,rfl⟩:=d;cases y with
  |non=>cases a;exact .int_none f b
  |bl k=>cases a;exact .int_bool f b k
  |int i=>obtain⟨t,rfl⟩:=a;exact .int_int f b i t
  |str z=>obtain⟨t,rfl⟩:=a;exact .int_str f b z t
  |_=>cases e
 |str g=>obtain⟨b,rfl⟩:=d;cases y with
  |non=>cases a;exact .str_none g b
  |bl k=>cases a;exact .str_bool g b k
  |int i=>obtain⟨t,rfl⟩:=a;exact .str_int g b i t
  |str z=>obtain⟨t,rfl⟩:=a;exact .str_str g b z t
  |_=>cases e
 |_=>cases h
theorem vT(f:D->D->Option Bool):∀{xs ys:List D} {b:Bool},xr f xs ys=Z b -> ∃e:Nat->Bool,(∀j x y,xs[j]?=Z x->ys[j]?=Z y->f x y=Z (e j))/\b=((af (min xs.length ys.length)).all e&&xs.length == ys.length)
 |[],[],b,h=>by cases h;exact⟨λ_=>M,λj x y h=>by simp at h,O⟩
 |[],y::ys,b,h=>by cases h;exact⟨λ_=>M,λj x y h=>by simp at h,by simp⟩
 |x::xs,[],b,h=>by cases h;exact⟨λ_=>M,λj x y h h'=>by simp at h',by simp⟩
 |x::xs,y::ys,b,h=>by
  rw[xr]at h;obtain⟨b1,m,h⟩:=PC h;obtain⟨b2,k,h⟩:=PD h;obtain⟨e,l,g⟩:=vT f k;refine⟨λj=>match j with|0=>b1|j+1=>e j,λj i d c a=>?_,?_⟩
  ·cases j with
   |zero=>simp at c a;subst c;subst a;exact m
   |succ j=>exact l j i d (by simpa using c) (by simpa using a)
  ·rw[<- h,g,lC1,lC1,Nat.succ_min_succ,List.range_succ_eq_map,bS,List.all_map];have:((xs.length+1 == ys.length+1):Bool)=(xs.length == ys.length):=by simp
   rw[this,Bool.and_assoc];rfl
theorem k9(I:Inv X ag σ H s)(hs:Sim X.K H mu S):∀(n:Nat) {A:dR} {d e:D} {v w:V} {u z:dM} {b:Bool},A.units+n<Nv->fc X.K H mu d v->fc X.K H mu e w->eu v u->eu w z->hL S n d e=Z b->NX A s u z b/\OC A s u z b
 |0,_,_,_,_,_,_,_,_,_,_,_,_,_,h=>by cases h
 |n + 1,A,d,e,v,w,u,z,b,hu,P,r,R,ao,h=>by
  have g:A.units<Nv:=by lia
  have h0:=h;rw[hL]at h;cases hd:eg S d with
  |some p=>
   obtain⟨pb,xs⟩:=p;obtain⟨a,vs,rfl,q,t⟩:=er P hs hd;obtain⟨k,Q,o,_⟩:=fg I q;cases R;cases he:eg S e with
   |some p2=>
    obtain⟨qb,ys⟩:=p2;obtain⟨a2,K,rfl,aq,au⟩:=er r hs he;obtain⟨c,l,i,_⟩:=fg I aq;cases ao;rw[hd,he]at h;dsimp only at h;have m:OC A s (.ref a) (.ref a2) b->NX A s (.ref a) (.ref a2) b/\OC A s (.ref a) (.ref a2) b:=λrc=>by
     refine⟨?_,rc⟩;by_cases ha:a=a2
     ·subst ha;rw[uC I hs (n+1) P r h0];exact .same _
     ·exact .of_refs ha rc
    split at h
    ·rename_i N;have hb':pb=qb:=N;subst hb';split at h
     ·rename_i wq;cases h;obtain⟨h1,h2⟩:=wq;subst h1;refine m (.lists_lengths o i ?_ g);have l1:=t.length;have l2:=au.length;have l3:=Q.length;have l4:=l.length
      simp only[sT1,bne_iff_ne,ne_eq];lia
     ·rename_i wq;obtain ⟨f,hf,C⟩:=vT _ h;have elts:∀ j (h1:j<k.toArray.size) (h2:j<c.toArray.size),NX A.in1 s k.toArray[j] c.toArray[j] (f j):=fun j h1 h2=>by
       have B:j<k.length:=by simpa using h1
       have F:j<c.length:=by simpa using h2
       have k1:j<vs.length:=by rw[Q.length];exact B
       have k2:j<K.length:=by rw[l.length];exact F
       obtain⟨x,ex,rx⟩:=t.getV (gG1 k1);obtain⟨y,ey,ry⟩:=au.getV (gG1 k2);obtain⟨u1,am,W⟩:=Q.get (gG1 k1);obtain⟨u2,G,T⟩:=l.get (gG1 k2);have L:k.toArray[j]=u1:=by
        rw[gG1 B]at am;simpa using am
       have U:c.toArray[j]=u2:=by
        rw[gG1 F]at G;simpa using G
       rw[L,U];exact(k9 I hs n (A:=A.in1) (by show A.units+1+n<Nv;lia) rx ry W T (hf j x y ex ey)).1
      have l1:=t.length;have l2:=au.length;have l3:=Q.length;have l4:=l.length
      cases pb with
      |false=>
       refine m ?_;have:=SeqAt.RcAt.tuples o i g elts;rw[C];have L:k.toArray.size=xs.length:=by simp;lia
       have U:c.toArray.size=ys.length:=by simp;lia
       rw[L,U]at this;exact this
      |true=>
       refine m ?_;have E:xs.length=ys.length:=by
        by_cases z:xs.length=ys.length
        ·exact z
        ·exact absurd ⟨O,z⟩ wq
       have:=SeqAt.RcAt.lists o i (by simp;lia) g elts;rw[C];have L:k.toArray.size=xs.length:=by simp;lia
       rw[L]at this;rw[E,Nat.min_self,OB,bP,<- E];exact this
    ·rename_i N;cases h;cases pb with
     |true=>
      cases qb with
      |true=>exact absurd O N
      |false=>exact⟨.list_tuple o i g,.list_tuple o i g⟩
     |false=>
      cases qb with
      |false=>exact absurd O N
      |true=>exact⟨.tuple_list o i g,.tuple_list o i g⟩
   |none=>
    rw[hd,he]at h;dsimp only at h;split at h
    ·rename_i f;cases h;obtain⟨r1,r2,r3,r4⟩:=fG o ao (fR r f).1 g;exact⟨r1,r3⟩
    ·cases h
  |none=>
   cases he:eg S e with
   |some p2=>
    obtain⟨qb,ys⟩:=p2;obtain⟨a2,K,rfl,aq,au⟩:=er r hs he;obtain⟨c,l,i,_⟩:=fg I aq;cases ao;rw[hd,he]at h;dsimp only at h;split at h
    ·rename_i f;cases h;obtain⟨r1,r2,r3,r4⟩:=fG i R (fR P f).1 g;exact⟨r2,r4⟩
    ·cases h
   |none=>
    rw[hd,he]at h;dsimp only at h;obtain⟨f1,f2⟩:=oX h;obtain⟨g1,g2⟩:=fR P f1;have g3:=(fR r f2).1;rw[g2 e w r f2]at h;cases h;exact⟨lc R ao g1 g3,CH R ao g1 g3⟩
end
def eK:Nat:=60
def gEq:G2:=λd e S=>(hL S eK d e).map λb=>(.bl b,S)
theorem rR(l:X.A.units+64<Nv):gJ X (Nn .Eq) (r2 X.K (b2 gEq)):=by
 intro ag s σ H x y u w Q I g f h;obtain⟨mu,S,d,e,r,k,i,r2,c,a,hc⟩:=u4 h;obtain⟨b,j,a⟩:=PD a;cases a;exact(k9 I c eK (by show _+60<Nv;lia) i r2 g f j).2 X.prog X.w X.xe _ ⟨.bl b,H,I,O,hc.now (.bl b) c⟩
section
variable{ag:List (dP×Obj)}{σ:L2.St}{H:Hp}{s:dN}{mu:List dP}{S:d7}
theorem Df{A:dR}{x y:V}{u w:dM}(d:eu x u)(a:eu y w)(h:kS x=M)(e:kS y=M):SeqAt.RcNeAt A s u w (!u5 x y):=by
 cases x with
 |non=>cases d;cases y with
  |non=>cases a;exact .none_none
  |bl k=>cases a;exact .none_bool k
  |int i=>obtain⟨t,rfl⟩:=a;exact .none_int i t
  |str z=>obtain⟨t,rfl⟩:=a;exact .none_str z t
  |_=>cases e
 |bl c=>cases d;cases y with
  |non=>cases a;exact .bool_none c
  |bl k=>cases a;exact .bool_bool c k
  |int i=>obtain⟨t,rfl⟩:=a;exact .bool_int c i t
  |str z=>obtain⟨t,rfl⟩:=a;exact .bool_str c z t
  |_=>cases e
 |int f=>obtain⟨b,rfl⟩:=d;cases y with
  |non=>cases a;exact .int_none f b
  |bl k=>cases a;exact .int_bool f b k
  |int i=>obtain⟨t,rfl⟩:=a;exact .int_int f b i t
  |str z=>obtain⟨t,rfl⟩:=a;exact .int_str f b z t
  |_=>cases e
 |str g=>obtain⟨b,rfl⟩:=d;cases y with
  |non=>cases a;exact .str_none g b
  |bl k=>cases a;exact .str_bool g b k
  |int i=>obtain⟨t,rfl⟩:=a;exact .str_int g b i t
  |str z=>obtain⟨t,rfl⟩:=a;exact .str_str g b z t
  |_=>cases e
 |_=>cases h
theorem nj{A:dR}{b:Bool}{a:dP}{its:Array dM}{v:V}{u:dM}(c:SCo b s.heap a its)(r:eu v u)(f:kS v=M)(d:A.units<Nv):SeqAt.RcNeAt A s (.ref a) u M/\SeqAt.RcNeAt A s u (.ref a) M:=by
 cases v with
 | non => cases r;cases b
          · exact⟨.tuple_none c d,.none_tuple c d⟩
          · exact⟨.list_none c d,.none_list c d⟩
 | bl k => cases r;cases b
           · exact⟨.tuple_bool k c d,.bool_tuple k c d⟩
           · exact⟨.list_bool k c d,.bool_list k c d⟩
 | int i => obtain ⟨t,rfl⟩:=r;cases b
            · exact⟨.tuple_int i t c d,.int_tuple i t c d⟩
            · exact⟨.list_int i t c d,.int_list i t c d⟩
 | str x => obtain ⟨t,rfl⟩:=r;cases b
            · exact⟨.tuple_str x t c d,.str_tuple x t c d⟩
            · exact⟨.list_str x t c d,.str_list x t c d⟩
 |_=>cases f
theorem Gq(I:Inv X ag σ H s)(hs:Sim X.K H mu S)(n:Nat){A:dR}{d e:D}{v w:V}{u z:dM}{b:Bool}(hu:A.units+n<Nv)(P:fc X.K H mu d v)(C:fc X.K H mu e w)(ru:eu v u)(ao:eu w z)(h:hL S n d e=Z b):SeqAt.RcNeAt A s u z (!b):=by
 cases n with
 |zero=>cases h
 |succ n=>
  have g:A.units<Nv:=by lia
  rw[hL]at h;cases hd:eg S d with
  |some p=>
   obtain⟨wq,xs⟩:=p;obtain⟨a,vs,rfl,q,t⟩:=er P hs hd;obtain⟨k,T,m,_⟩:=fg I q;cases ru;cases he:eg S e with
   |some p2=>
    obtain⟨qb,ys⟩:=p2;obtain⟨a2,am,rfl,U,au⟩:=er C hs he;obtain⟨c,l,i,_⟩:=fg I U;cases ao;rw[hd,he]at h;dsimp only at h;have l1:=t.length;have l2:=au.length;have l3:=T.length;have l4:=l.length
    split at h
    ·rename_i L;have W:wq=qb:=L;subst W;split at h
     ·rename_i aq;cases h;obtain⟨h1,h2⟩:=aq;subst h1;refine .lists_lengths m i ?_ g;simp only[sT1,bne_iff_ne,ne_eq];lia
     ·rename_i aq;obtain ⟨f,hf,r⟩:=vT _ h;have elts:∀ j (h1:j<k.toArray.size) (h2:j<c.toArray.size),NX A.in1 s k.toArray[j] c.toArray[j] (f j):=fun j h1 h2=>by
       have o:j<k.length:=by simpa using h1
       have E:j<c.length:=by simpa using h2
       have k1:j<vs.length:=by rw[T.length];exact o
       have k2:j<am.length:=by rw[l.length];exact E
       obtain⟨x,ex,rx⟩:=t.getV (gG1 k1);obtain⟨y,ey,ry⟩:=au.getV (gG1 k2);obtain⟨u1,G,R⟩:=T.get (gG1 k1);obtain⟨u2,F,N⟩:=l.get (gG1 k2);have K:k.toArray[j]=u1:=by
        rw[gG1 o]at G;simpa using G
       have Q:c.toArray[j]=u2:=by
        rw[gG1 E]at F;simpa using F
       rw[K,Q];exact(k9 I hs n (A:=A.in1) (by show A.units+1+n<Nv;lia) rx ry R N (hf j x y ex ey)).1
      cases wq with
      |false=>
       have:=SeqAt.RcNeAt.tuples m i g elts;rw[r];have K:k.toArray.size=xs.length:=by simp;lia
       have Q:c.toArray.size=ys.length:=by simp;lia
       rw[K,Q]at this;exact this
      |true=>
       have B:xs.length=ys.length:=by
        by_cases z:xs.length=ys.length
        ·exact z
        ·exact absurd ⟨O,z⟩ aq
       have:=SeqAt.RcNeAt.lists m i (by simp;lia) g elts;rw[r];have K:k.toArray.size=xs.length:=by simp;lia
       rw[K]at this;rw[B,Nat.min_self,OB,bP,<- B];exact this
    ·rename_i L;cases h;cases wq with
     |true=>
      cases qb with
      |true=>exact absurd O L
      |false=>exact .list_tuple m i g
     |false=>
      cases qb with
      |false=>exact absurd O L
      |true=>exact .tuple_list m i g
   |none=>
    rw[hd,he]at h;dsimp only at h;split at h
    ·rename_i f;cases h;exact(nj m ao (fR C f).1 g).1
    ·cases h
  |none=>
   cases he:eg S e with
   |some p2=>
    obtain⟨qb,ys⟩:=p2;obtain⟨a2,am,rfl,U,au⟩:=er C hs he;obtain⟨c,l,i,_⟩:=fg I U;cases ao;rw[hd,he]at h;dsimp only at h;split at h
    ·rename_i f;cases h;exact(nj i ru (fR P f).1 g).2
    ·cases h
   |none=>
    rw[hd,he]at h;dsimp only at h;obtain⟨f1,f2⟩:=oX h;obtain⟨g1,g2⟩:=fR P f1;have g3:=(fR C f2).1;rw[g2 e w C f2]at h;cases h;exact Df ru ao g1 g3
end
def gNe:G2:=λd e S=>(hL S eK d e).map λb=>(.bl (!b),S)
noncomputable def B8(f:D->D->Option Bool)(x:D):List D->Option Bool
 |[]=>Z J
 |y::ys=>(f y x).bind λb=>(B8 f x ys).map λc=>b||c
def Lz:G2:=λd e S=>(eg S e).bind λp=>(B8 (hL S eK) d p.2).map λb=>(.bl b,S)
def mU:G2:=λd e S=>(eg S e).bind λp=>(B8 (hL S eK) d p.2).map λb=>(.bl (!b),S)
noncomputable def w5:D->Bool
 | .non=>M
 |_=>J
def K1:G2:=λd e S=>match e with
 | .non=>Z (.bl (w5 d),S)
 |_=>Y
section
theorem yf(l:X.A.units+64<Nv):gJ X (Nn .NotEq) (r2 X.K (b2 gNe)):=by
 intro ag s σ H x y u w Q I g f h;obtain⟨mu,S,d,e,r,k,i,r2,c,a,hc⟩:=u4 h;obtain⟨b,j,a⟩:=PD a;cases a;exact Gq I c eK (by show _+60<Nv;lia) i r2 g f j X.prog X.w X.xe _ ⟨.bl (!b),H,I,O,hc.now (.bl _) c⟩
theorem Bl(f:D->D->Option Bool)(x:D):∀{ys:List D} {b:Bool},B8 f x ys=Z b -> ∃bs:List Bool,bs.length=ys.length/\(∀(j:Nat) (y:D) (k:Bool),ys[j]?=Z y->bs[j]?=Z k->f y x=Z k)/\b=bs.any id
 |[],b,h=>by cases h;exact⟨[],O,λj y k h=>by simp at h,O⟩
 |y::ys,b,h=>by
  rw[B8]at h;obtain⟨b1,m,h⟩:=PC h;obtain⟨b2,i,h⟩:=PD h;obtain⟨bs,l,g,a⟩:=Bl f x i;refine⟨b1::bs,by simp[l],λj e k c d=>?_,?_⟩
  ·cases j with
   |zero=>simp at c d;subst c;subst d;exact m
   |succ j=>exact g j e k (by simpa using c) (by simpa using d)
  ·rw[<- h,a];simp
open Classical in
theorem Je{ag:List (dP×Obj)}{σ:L2.St}{H:Hp}{s:dN}{mu:List dP}{S:d7}(I:Inv X ag σ H s)(hs:Sim X.K H mu S){A:dR}(K:A.units+61<Nv){x:D}{v:V}{u:dM}(r:fc X.K H mu x v)(F:eu v u){ys:List D}{vs:List V}{a:List dM}{b:Bool}(p:ej X.K H mu ys vs)(o:eG vs a)(h:B8 (hL S eK) x ys=Z b):∃e:dM->Bool,(∀w∈a,NX A.in1 s w u (e w))/\a.any e=b:=by
 obtain⟨bs,ao,t,rfl⟩:=Bl _ x h;have L:=p.length;have G:=o.length;have at_:∀(j:Nat) w k,a[j]?=Z w->bs[j]?=Z k->NX A.in1 s w u k:=λj w k g d=>by
  have m:j<a.length:=(PB g).1;obtain⟨y,B,E⟩:=p.getV (i:=j) (v:=vs[j]'(by lia)) (gG1 (by lia));obtain⟨am,q,r2⟩:=o.get (i:=j) (x:=vs[j]'(by lia)) (gG1 (by lia));rw[g]at q;cases q;exact(k9 I hs eK (A:=A.in1) (by show A.units+1+60<Nv;lia) E r r2 F (t j y k B d)).1
 refine⟨λw=>decide (∃j:Nat,a[j]?=Z w/\bs[j]?=Z M),λw g=>?_,?_⟩
 ·by_cases z:∃j:Nat,a[j]?=Z w/\bs[j]?=Z M
  ·dsimp only;rw[ah z];obtain⟨j,n,c⟩:=z;exact at_ j w M n c
  ·dsimp only;rw[ai z];obtain⟨j,f⟩:=bq g;have m:j<a.length:=(PB f).1;have l:j<bs.length:=by lia
   have c:=gG1 l;cases d:bs[j]with
   |true=>rw[d]at c;exact absurd ⟨j,f,c⟩ z
   |false=>rw[d]at c;exact at_ j w J f c
 ·rw[bT,bU,bU];constructor
  ·rintro⟨w,g,z⟩;obtain⟨j,n,c⟩:=N9 z;exact⟨M,gM1 c,O⟩
  ·rintro⟨k,d,z⟩;obtain⟨j,f⟩:=bq d;have m:j<bs.length:=(PB f).1;have l:j<a.length:=by lia
   have C:k=M:=z;subst C;exact⟨a[j],bV l,ah ⟨j,gG1 l,f⟩⟩
theorem Dc(F:X.A.units+64<Nv):gJ X (Nn .NotIn) (r2 X.K (b2 mU)):=by
 intro ag s σ H x y u w Q I o n h;obtain⟨mu,S,d,e,r,E,B,r2,k,i,hc⟩:=u4 h;obtain⟨⟨v,ys⟩,C,i⟩:=PC i;obtain⟨b,z,i⟩:=PD i;cases i;obtain⟨a,vs,rfl,q,t⟩:=er r2 k C;cases n;obtain⟨c,D,m,_⟩:=fg I q;obtain⟨f,l,p⟩:=Je I k (A:=X.A) (by lia) B o t D z;have g:EP X ag σ Q (.bool (!c.toArray.any f)) s:=⟨.bl (!b),H,I,by rw[show c.toArray.any f=c.any f by simp,p];rfl,hc.now (.bl _) k⟩;cases v
 ·exact SeqAt.notIn_tupleAt f m (λy j=>l y (by simpa using j)) g
 ·exact SeqAt.notIn_listAt f m (λy j=>l y (by simpa using j)) g
theorem Dd{K:Fg1}{H:Hp}{mu:List dP}{d:D}{v:V}(r:fc K H mu d v):w5 d=decide (v = .non):=by
 cases r<;>simp[w5]
theorem IM:gJ X (Nn .Is) (r2 X.K (b2 K1)):=by
 intro ag s σ H x y u w Q I c b h;obtain⟨mu,S,d,e,r,i,g,r2,f,a,hc⟩:=u4 h;cases e with
 |non=>
  cases a;cases r2;refine Gj ag s σ H _ _ u w Q I c b ⟨O,?_⟩;rw[<- Dd g];exact hc.now (.bl _) f
 |_=>cases a
end
def eQ:G1:=λd S=>match d with
 | .str x=>if x.length<=dW then Z (.int x.length,S)else Y
 |_=>(eg S d).map λp=>(.int p.2.length,S)
def xi:G2:=λd e S=>match e with
 | .int i=>(eg S d).bind λp=>(uR p.2 i).map λx=>(x,S)
 |_=>Y
def gTup:G1:=λd S=>(eg S d).map λp=>(.tup p.2,S)
def D8:G1:=λd S=>(eg S d).map λp=>(.ref S.length,S++[.lst p.2])
def k8:G3:=λo i v S=>match o,i with
 | .ref n,.int k=>match S[n]? with
  |some (.lst xs)=>(vM xs.length k).map λj=>(.non,S.set n (.lst (xs.set j v)))
  |_=>Y
 |_,_=>Y
noncomputable def BX:List D->Option Bool
 |[]=>Z M
 | .bl b::r=>(BX r).map λc=>b&&c
 |_=>Y
def mX:G1:=λd S=>(eg S d).bind λp=>(BX p.2).map λb=>(.bl b,S)
noncomputable def uv:G1:=λd S=>match d with
 | .int i=>Z (.int i,S)
 | .bl b=>Z (.int (if b then 1 else 0),S)
 |_=>Y
noncomputable def D6:G2:=λd e S=>match d,e with
 | .int i,.int j=>Z (.int (if j>i then j else i),S)
 |_,_=>Y
noncomputable def D5:G2:=λd e S=>match d,e with
 | .int i,.int j=>Z (.int (if j<i then j else i),S)
 |_,_=>Y
theorem eT:fi X (.builtin "len") (rN X.K (b1 eQ)):=by
 intro ag s σ H xs f Q I r h;obtain⟨x,mu,S,d,k,l,rfl,g,e,c,hc⟩:=xZ h;unfold eQ at c;split at c
 ·split at c
  ·rename_i z i;cases c;cases g;exact sC ag s σ H _ f Q I r ⟨_,O,i,hc.now (.int _) e⟩
  ·cases c
 ·obtain⟨⟨b,ys⟩,j,c⟩:=PD c;cases c;obtain⟨a,vs,rfl,q,t⟩:=er g e j;refine sD ag s σ H _ f Q I r ⟨a,vs,O,?_,?_⟩
  ·cases b
   ·exact .inr q
   ·exact .inl q
  ·rw[<- t.length];exact hc.now (.int _) e
theorem Eh{K:Fg1}{H:Hp}{mu:List dP}{ds:List D}{vs:List V}{i:Int}{d:D}(t:ej K H mu ds vs)(h:uR ds i=Z d):∃v,uR vs i=Z v/\fc K H mu d v:=by
 unfold uR at h ⊢;rw[<- t.length];obtain⟨j,b,h⟩:=PC h;obtain⟨v,a,c⟩:=t.get h;exact⟨v,by rw[b];exact a,c⟩
theorem Kn:EU X (r2 X.K (b2 xi)):=by
 intro value c ag s σ H x y v u Q I l k h g;obtain⟨mu,S,d,e,r,B,w,r2,j,f,hc⟩:=u4 h;cases e with
 |int i=>
  obtain⟨⟨b,ys⟩,A,f⟩:=PC f;obtain⟨z,p,f⟩:=PD f;cases f;cases r2;obtain⟨a,vs,rfl,q,t⟩:=er w j A;obtain⟨m,n,o⟩:=Eh t p;cases b
  ·exact Hd value c ag s σ H _ _ v u Q I l k ⟨a,vs,i,m,O,O,q,n,hc.now o j⟩ g
  ·exact DV value c ag s σ H _ _ v u Q I l k ⟨a,vs,i,m,O,O,q,n,hc.now o j⟩ g
 |_=>cases f
theorem fh:fi X (.type "tuple") (rN X.K (b1 gTup)):=by
 intro ag s σ H xs g Q I r h;obtain⟨x,mu,S,d,k,m,rfl,i,c,f,hc⟩:=xZ h;obtain⟨⟨b,ys⟩,j,f⟩:=PD f;cases f;obtain⟨a,vs,rfl,q,t⟩:=er i c j;refine pQ ag s σ H _ g Q I r ⟨a,vs,O,?_⟩;cases b
 ·exact .inr ⟨q,hc.now (.tup q t) c⟩
 ·exact .inl ⟨q,λl e=>hc _ _ mu (Ext.fresh e) (.tup (kF.of eI) (t.ext (Ext.fresh e))) (c.fresh e)⟩
theorem Hx:fi X (.type "list") (rN X.K (b1 D8)):=by
 intro ag s σ H xs g Q I r h;obtain⟨x,mu,S,d,k,m,rfl,i,c,e,hc⟩:=xZ h;obtain⟨⟨b,ys⟩,j,e⟩:=PD e;cases e;obtain⟨a,vs,rfl,q,t⟩:=er i c j;refine sB ag s σ H _ g Q I r ⟨a,vs,O,?_,λl f=>hc _ _ (mu++[l]) (Ext.new_ f) (.ref (gA c.len l)) (c.newL t f)⟩;cases b
 ·exact .inr q
 ·exact .inl q
theorem Im:wf X (rU X.K (b3 k8)):=by
 intro ag s σ H o i v w g u Q I l B z h;obtain⟨mu,S,ds,d,G,p,f,a,hc⟩:=h;cases p with
 |cons A y=>cases y with
  |cons C m=>cases m with
   |cons x q=>
    cases q;rename_i F E D;dsimp only[b3]at a;unfold k8 at a;split at a
    ·rename_i n k;split at a
     ·rename_i xs e;obtain⟨j,r,a⟩:=PD a;cases a;cases A with
      |ref c=>
       cases C;obtain⟨vs,b,t⟩:=f.lst e c;refine zL ag s σ H _ _ v w g u Q I l B z ⟨_,vs,k,j,O,O,b,by rw[<- t.length];exact r,?_⟩;exact hc _ mu (Ext.put b trivial (gM1 c)) (f.putL (t.set x j) c b)
     ·cases a
    ·cases a
theorem Ej{K:Fg1}{H:Hp}{mu:List dP}:∀{ds:List D} {vs:List V} {a:List dM} {b:Bool},ej K H mu ds vs->eG vs a->BX ds=Z b -> ∃bs:List Bool,a=bs.map ae/\b=bs.all id:=by
 intro ds
 induction ds with
 |nil=>intro vs a b r v h;cases r;cases v;cases h;exact⟨[],O,O⟩
 |cons d ds ih=>
  intro vs a b r v h;cases r with
  |cons i t=>
   cases v with
   |cons r f=>
    cases i
    case bl k=>
     obtain⟨c,e,h⟩:=PD h;obtain⟨bs,j,g⟩:=ih t f e;cases r;exact⟨k::bs,by rw[j];rfl,by rw[<- h,g];rfl⟩
    all_goals cases h
theorem pY(bs:List Bool):(af bs.length).all (λi=>bs.getD i M)=bs.all id:=by
 rw[bT,bD,bD];constructor
 ·intro h b c;obtain⟨i,hi,rfl⟩:=List.mem_iff_getElem.mp c;have:=h i (aB.mpr hi);simpa[bM,hi]using this
 ·intro h i hi;have a:=aB.mp hi;have:=h _ (bV a);simpa[bM,a]using this
theorem vf{s:dN}{b:Bool}{a:dP}{bs:List Bool}(hc:X.A.handled=Y)(g:SCo b s.heap a (bs.map ae).toArray){Q:dM->dN->Prop}(all:∀h' tk,(∀c o,s.heap.get? c=Z o->h'.get? c=Z o)->Q (.bool (bs.all id)) {s with heap:=h',toks:=tk}):dX (Mw X.prog X.w) X.A (call (.builtin "all") [.ref a]) Q X.xe s:=by
 refine call_all_walk (jC g ?_);have h:a<s.heap.objs.size:=by cases b<;>(obtain⟨o,e,_⟩:=g;exact hL1 e)
 have ne:a≠s.heap.objs.size:=nN1 h;have l:TruthOf X.prog X.w X.A.in1 (λi v=>(bs.map ae).toArray[i]?=Z v) (λi=>bs.getD i M):=λi v s' q p n j=>by
  have d:(bs.map ae)[i]?=Z v:=by simpa using n
  rw[gP1]at d;obtain⟨k,m,rfl⟩:=PD d;dsimp only at j;rw[bM,m]at j;exact MV j
 have keep:∀(h':dZ),(∀c o,c∉[s.heap.objs.size]->(s.heap.push (gv b a)).get? c=Z o->h'.get? c=Z o) -> ∀c o,s.heap.get? c=Z o->h'.get? c=Z o:=λh' f c o e=>
  f c o (by simpa using nN1 (hL1 e)) (hP1 _ e)
 have hi:(s.heap.push (gv b a)).get? s.heap.objs.size=Z (gv b a):=hS1 _ (by cases b<;>rfl);cases b with
 |true=>
  refine⟨s.heap.objs.size,_,_,_,_,_,_,O,Walks.list (A:=X.A.in1) hc s.heap.objs.size a ne (bs.map ae).toArray,⟨⟨_,hi,O,O⟩,SCo.to (b:=M) g λo e=>hP1 _ e⟩,l,λh' tk f=>?_⟩;have e:(bs.map ae).toArray.size=bs.length:=by simp
  rw[e,pY];exact all h' tk (keep h' f)
 |false=>
  refine⟨s.heap.objs.size,_,_,_,_,_,_,O,Walks.tuple (A:=X.A.in1) hc s.heap.objs.size a ne (bs.map ae).toArray,⟨⟨_,hi,O,O⟩,SCo.to (b:=J) g λo e=>hP1 _ e⟩,l,λh' tk f=>?_⟩;have e:(bs.map ae).toArray.size=bs.length:=by simp
  rw[e,pY];exact all h' tk (keep h' f)
theorem xB(hc:X.calm=M):fi X (.builtin "all") (rN X.K (b1 mX)):=by
 intro ag s σ H xs y Q I r h;obtain⟨x,mu,S,d,v,w,rfl,m,f,c,e⟩:=xZ h;obtain⟨⟨b,ys⟩,o,c⟩:=PC c;obtain⟨k,j,c⟩:=PD c;cases c;obtain⟨a,vs,rfl,q,t⟩:=er m f o;obtain⟨u,rfl,n⟩:=iO r;cases n;obtain⟨g,p,i,_⟩:=fg I q;obtain⟨bs,rfl,rfl⟩:=Ej t p j;exact vf (I.ok.hd hc) i λh' tk l=>⟨.bl _,H,I.kept l,O,e.now (.bl _) f⟩
theorem BP:fi X (.type "int") (rN X.K (b1 uv)):=by
 intro ag s σ H xs c Q I r h;obtain⟨x,mu,S,d,g,j,rfl,f,e,a,hc⟩:=xZ h;cases d with
 |int i=>cases a;cases f;exact qw ag s σ H _ c Q I r (.inl ⟨i,O,hc.now (.int _) e⟩)
 |bl b=>cases a;cases f;exact qw ag s σ H _ c Q I r (.inr ⟨b,O,hc.now (.int _) e⟩)
 |_=>cases a
theorem JB(hc:X.calm=M):fi X (.builtin "max") (rN X.K (b2 D6)):=by
 intro ag s σ H xs c Q I r h;obtain⟨x,y,mu,S,d,e,i,j,rfl,g,r2,f,a,b⟩:=zR h;unfold D6 at a;split at a
 ·cases a;cases g;cases r2;exact yO hc ag s σ H _ c Q I r ⟨_,_,O,b.now (.int _) f⟩
 ·cases a
theorem JA(hc:X.calm=M):fi X (.builtin "min") (rN X.K (b2 D5)):=by
 intro ag s σ H xs c Q I r h;obtain⟨x,y,mu,S,d,e,i,j,rfl,g,r2,f,a,b⟩:=zR h;unfold D5 at a;split at a
 ·cases a;cases g;cases r2;exact yN hc ag s σ H _ c Q I r ⟨_,_,O,b.now (.int _) f⟩
 ·cases a
open PySem.SeqAt
open PySem.AutoSeq1 (wpAny_loadPart')
open PySem.MeetsSeq PySem.MeetsSeq2 PySem.MeetsSeq3
def B3(A:dR)(s:dN)(y x:dM)(b:Bool):Prop:=∀(prog:dQ) (w:dS) (E:dM->dN->Prop) (Q:dM->dN->Prop),Q (.bool b) s->dX (Mw prog w) A (OD .Lt y x) Q E s
inductive uW (A:dR)(s:dN):List dM->List dM->Bool->Prop
 |nn:uW A s [] [] false
 |nc (y:dM) (ys:List dM):uW A s [] (y::ys) true
 |cn (x:dM) (xs:List dM):uW A s (x::xs) [] false
 |eq {x y:dM} {xs ys:List dM} {k:Bool} (e:EqAt A.in1 s x y true) (t:uW A s xs ys k):uW A s (x::xs) (y::ys) k
 |lt {x y:dM} {xs ys:List dM} {k:Bool} (e:EqAt A.in1 s x y false) (t:B3 A.in1 s x y k):uW A s (x::xs) (y::ys) k
theorem E5(l b:dP)(items items2:Array dM)(n H:Nat)(z p:Option dP)(E o:Array (Option dM))(c:Bool):
  Meets (Builtin.«tuple.__lt__» ⟨[.ref l,.ref b],[]⟩) (fun A R s=>s.heap.get? l=some {cls:=.type "tuple",dict:=z,data:=.seq items n,slots:=E}/\s.heap.get? b=some {cls:=.type "tuple",dict:=p,data:=.seq items2 H,slots:=o} /\
    uW A s items.toList items2.toList c/\R (.ok (.ret (.bool c))) s):=
 .of_wp λprog w A R s h=>by
  obtain⟨u,g,d,tk,v⟩:=s;obtain⟨G,B,D,h⟩:=h;have I:=AutoSeq1.sub_tuple_tuple
  wp_walk using wpAny_loadPart' G,wpAny_loadPart' B,OE _ (λrest b s'=>b.1=Y/\s'=⟨u,g,d,tk,v⟩ /\ ∃vs ws:List dM,rest=vs.zip ws/\uW A ⟨u,g,d,tk,v⟩ vs ws c/\vs.length+items2.size=ws.length+items.size) _
  case turn=>
   rintro⟨y,x⟩ rest b s' ⟨k,rfl,vs,ws,f,q,a⟩;cases q with
   |nn=>cases f
   |nc _ _=>cases f
   |cn _ _=>cases f
   |eq e t=>
    rw[bW]at f;injection f with j i;injection j with m r;subst m r
    simp only[lC1]at a;refine wB1 (e prog w _ _ ?_)
    wp_walk
    exact⟨O,O,_,_,i,t,by lia⟩
   |lt e t=>
    rw[bW]at f;injection f with j i;injection j with m r;subst m r
    refine wB1 (e prog w _ _ ?_);have F:=t prog w
    wp_walk using F
    exact⟨_,O,by simpa using h⟩
  case fin=>
   rintro⟨b1,b2⟩ s' ⟨k,rfl,vs,ws,f,q,a⟩;simp only at k;subst k;have C:c=decide (items.size<items2.size):=by
    cases q with
    |nn=>simp only[bg]at a;exact(ai (by lia)).symm
    |nc _ _=>simp only[bg,lC1]at a;exact(ah (by lia)).symm
    |cn _ _=>simp only[bg,lC1]at a;exact(ai (by lia)).symm
    |eq _ _=>rw[bW]at f;cases f
    |lt _ _=>rw[bW]at f;cases f
   rw[C]at h
   wp_walk
   exact⟨_,O,by simpa[Builtin.Tuple.tupleCompareSizes]using h⟩
  case h=>exact⟨O,O,items.toList,items2.toList,O,D,by simp;lia⟩
theorem A3(l b:dP)(items items2:Array dM)(n K:Nat)(C x:Option dP)(I v:Array (Option dM))(c:Bool)(k:Nat):
  ∀i:Nat,items.size-i=k->i<=items.size->i<=items2.size->Meets (Builtin.«list.__eq__.loop» ⟨[.ref l,.ref b,Ni i,Ni 0],[]⟩)
   (λA R s=>s.heap.get? l=Z {cls:=.type "list",dict:=C,data:=.seq items n,slots:=I}/\s.heap.get? b=Z {cls:=.type "list",dict:=x,data:=.seq items2 K,slots:=v} /\
    uW A s (items.toList.drop i) (items2.toList.drop i) c/\R (.ok (.ret (.bool c))) s):=by
 induction k with
 |zero=>
  intro i D B u prog w A R s h;obtain⟨E,g,d,tk,F⟩:=s;obtain⟨j,f,a,h⟩:=h
  wp_walk using wpAny_loadPart' j,wpAny_loadPart' f
  have p:items[((i:Nat):Int).toNat]?=Y:=by simp;lia
  have z:items.toList.drop i=[]:=by simp;lia
  rw[z]at a;rw[p]
  wp_walk using wpAny_loadPart' j,wpAny_loadPart' f
  have H:c=decide (items.size<items2.size):=by
   cases h2:items2.toList.drop i with
   |nil=>
    rw[h2]at a;cases a;have:=congrArg List.length h2;simp at this;exact(ai (by lia)).symm
   |cons y ys=>
    rw[h2]at a;cases a;have:=congrArg List.length h2;simp at this;exact(ah (by lia)).symm
  show R (.ok (.ret (.bool (decide (items.size<items2.size))))) _;rw[<- H];exact h
 |succ k ih=>
  intro i D B u prog w A R s h;obtain⟨E,g,d,tk,F⟩:=s;obtain⟨j,f,a,h⟩:=h;have o:i<items.size:=by lia
  have z:items.toList.drop i=items[i]::items.toList.drop (i+1):=by simp[bX,o]
  have p:items[((i:Nat):Int).toNat]?=Z items[i]:=by simp[o]
  have hc:((i:Int)+1)=((i+1:Nat):Int):=by push_cast;rfl
  rw[z]at a;rcases Nat.lt_or_ge i items2.size with m|G
  ·have r:items2.toList.drop i=items2[i]::items2.toList.drop (i+1):=by simp[bX,m]
   have q:items2[((i:Nat):Int).toNat]?=Z items2[i]:=by simp[m]
   rw[r]at a
   wp_walk using wpAny_loadPart' j,wpAny_loadPart' f
   rw[p,q];cases a with
   |eq e t=>
    refine wB1 (e prog w _ _ ?_)
    wp_walk
    rw[hc];exact⟨OF plain_eq_loop _,wD1 entry_eq_loop (by rw[OG plain_eq_loop _];exact ih (i+1) (by lia) (by lia) (by lia) prog w A R _ ⟨j,f,t,h⟩)⟩
   |lt e t=>
    refine wB1 (e prog w _ _ ?_);have am:=t prog w
    wp_walk using wpAny_loadPart' j,wpAny_loadPart' f
    rw[p,q]
    wp_walk using am
    simpa using h
  ·have q:items2[((i:Nat):Int).toNat]?=Y:=by simp;lia
   have r:items2.toList.drop i=[]:=by simp;lia
   rw[r]at a;cases a
   wp_walk using wpAny_loadPart' j,wpAny_loadPart' f
   rw[p,q]
   wp_walk using wpAny_loadPart' j,wpAny_loadPart' f
   show R (.ok (.ret (.bool (decide (items.size<items2.size))))) _;rw[ai (by lia)];exact h
theorem GW(l b:dP)(items items2:Array dM)(n i:Nat)(f e:Option dP)(j a:Array (Option dM))(c:Bool):
  Meets (Builtin.«list.__lt__» ⟨[.ref l,.ref b],[]⟩) (fun A R s=>s.heap.get? l=some {cls:=.type "list",dict:=f,data:=.seq items n,slots:=j}/\s.heap.get? b=some {cls:=.type "list",dict:=e,data:=.seq items2 i,slots:=a} /\
    uW A s items.toList items2.toList c/\R (.ok (.ret (.bool c))) s):=by
 intro prog w A R s h;obtain⟨q,g,d,tk,r⟩:=s;obtain⟨m,k,o,h⟩:=h;have p:=AutoSeq1.sub_list_list
 wp_walk using wpAny_loadPart' m,wpAny_loadPart' k
 exact⟨OF plain_eq_loop _,wD1 entry_eq_loop (by rw[OG plain_eq_loop _];exact A3 l b items items2 n i f e j a c _ 0 O (bj _) (bj _) prog w A R _ ⟨m,k,by simpa using o,h⟩)⟩
theorem Fu{A:dR}{s:dN}{k:Bool}{l b:dP}{xs ys:Array dM}{c:Bool}(z:SCo k s.heap l xs)(B:SCo k s.heap b ys)(y:A.units<Nv)(h:uW A s xs.toList ys.toList c):B3 A s (.ref l) (.ref b) c:=λprog w E Q q=>by
 cases k
 ·obtain⟨⟨v,r,m,t⟩,j,hc,n,o⟩:=id z;obtain⟨⟨p,i,f,g⟩,e,a,u,d⟩:=id B;simp only at hc o a d;subst hc o a d;exact OH (op:=.Lt) ⟨_,j,O⟩ ⟨_,e,O⟩ PySem.F.slot_tuple_lt PySem.F.entry_tuple_lt (PySem.F.args_tuple_lt_2 _ _) (E5 l b xs ys n u r i t g c) ⟨j,e,h,show ae c≠OI/\Q (.bool c) s from⟨(λx=>nomatch x),q⟩⟩ y
 ·obtain⟨⟨v,r,m,t⟩,j,hc,n,o⟩:=id z;obtain⟨⟨p,i,f,g⟩,e,a,u,d⟩:=id B;simp only at hc o a d;subst hc o a d;exact OH (op:=.Lt) ⟨_,j,O⟩ ⟨_,e,O⟩ PySem.F.slot_list_lt PySem.F.entry_list_lt (PySem.F.args_list_lt_2 _ _) (GW l b xs ys n u r i t g c) ⟨j,e,h,show ae c≠OI/\Q (.bool c) s from⟨(λx=>nomatch x),q⟩⟩ y
noncomputable def vJ(f g:D->D->Option Bool):List D->List D->Option Bool
 |[],[]=>Z J
 |[],_::_=>Z M
 |_::_,[]=>Z J
 |x::xs,y::ys=>(f x y).bind λb=>if b=M then vJ f g xs ys else g x y
noncomputable def J8:D->D->Option Bool
 | .int i,.int j=>Z (decide (i<j))
 | .str x,.str y=>Z (decide (x.cps.toList<y.cps.toList))
 |_,_=>Y
def k7(S:d7):Nat->D->D->Option Bool
 |0,_,_=>Y
 |n+1,d,e=>match J8 d e with
  |some b=>Z b
  |none=>match eg S d,eg S e with
   |some p,Z q=>if p.1=q.1 then vJ (hL S n) (k7 S n) p.2 q.2 else Y
   |_,_=>Y
def gLt:G2:=λd e S=>(k7 S eK d e).map λb=>(.bl b,S)
section
variable{ag:List (dP×Obj)}{σ:L2.St}{H:Hp}{s:dN}{mu:List dP}{S:d7}
theorem A0(I:Inv X ag σ H s)(hs:Sim X.K H mu S){n:Nat}{A:dR}(p:A.units+1+n<Nv)(ih:∀ {d e:D} {v w:V} {u z:dM} {b:Bool},fc X.K H mu d v->fc X.K H mu e w->eu v u->eu w z->k7 S n d e=some b->B3 A.in1 s u z b):
  ∀{xs ys:List D} {vs ws:List V} {f zs:List dM} {b:Bool},ej X.K H mu xs vs->ej X.K H mu ys ws->eG vs f->eG ws zs->vJ (hL S n) (k7 S n) xs ys=Z b->uW A s f zs b
 :=by
 intro xs
 induction xs with
 |nil=>
  intro ys vs ws f zs b a r2 g c h;cases a;cases g;cases r2 with
  |nil=>cases c;cases h;exact .nn
  |cons _ _=>cases c;cases h;exact .nc _ _
 |cons x xs l=>
  intro ys vs ws f zs b a r2 g c h;cases a with
  |cons a m=>
   cases g with
   |cons i q=>
    cases r2 with
    |nil=>cases c;cases h;exact .cn _ _
    |cons r2 o=>
     cases c with
     |cons j p2=>
      rw[vJ]at h;obtain⟨k,r,h⟩:=PC h;have eq:=(k9 I hs n (A:=A.in1) p a r2 i j r).1;cases k with
      |true=>exact .eq eq (l m o q p2 h)
      |false=>exact .lt eq (ih a r2 i j h)
theorem r0(I:Inv X ag σ H s)(hs:Sim X.K H mu S):∀(n:Nat) {A:dR} {d e:D} {v w:V} {u z:dM} {b:Bool},A.units+n<Nv->fc X.K H mu d v->fc X.K H mu e w->eu v u->eu w z->k7 S n d e=Z b->B3 A s u z b
 |0,_,_,_,_,_,_,_,_,_,_,_,_,_,h=>by cases h
 |n + 1,A,d,e,v,w,u,z,b,W,f,g,r,j,h=>by
  rw[k7]at h;split at h
  ·rename_i k c;cases h;unfold J8 at c;split at c
   ·cases c;cases f;cases g;obtain⟨t,rfl⟩:=r;obtain⟨l,rfl⟩:=j;exact λprog w E Q q=>(PyProof.Rows.lt_int q:dX (Mw prog w) A (Nn .Lt (.int _ t) (.int _ l)) Q E s)
   ·cases c;cases f;cases g;obtain⟨t,rfl⟩:=r;obtain⟨l,rfl⟩:=j;exact λprog w E Q q=>(PyProof.Rows.lt_str q:dX (Mw prog w) A (Nn .Lt (.str _ t) (.str _ l)) Q E s)
   ·cases c
  ·split at h
   ·rename_i p q P C;split at h
    ·rename_i y;obtain⟨U,xs⟩:=p;obtain⟨qb,ys⟩:=q;have m:U=qb:=y;subst m;obtain⟨a,vs,rfl,N,am⟩:=er f hs P;obtain⟨a2,K,rfl,R,B⟩:=er g hs C;cases r;cases j;obtain⟨ao,L,F,_⟩:=fg I N;obtain⟨x,o,i,_⟩:=fg I R;refine Fu F i (by lia) ?_;have:=A0 I hs (A:=A) (n:=n) (by lia) (λG r2 au T h=>r0 I hs n (A:=A.in1) (by show A.units+1+n<Nv;lia) G r2 au T h) am B L o h;simpa using this
    ·cases h
   ·cases h
theorem jS(l:X.A.units+64<Nv):gJ X (Nn .Lt) (r2 X.K (b2 gLt)):=by
 intro ag s σ H x y u w Q I g f h;obtain⟨mu,S,d,e,r,k,i,r2,c,a,hc⟩:=u4 h;obtain⟨b,j,a⟩:=PD a;cases a;exact r0 I c eK (by show _+60<Nv;lia) i r2 g f j X.prog X.w X.xe _ ⟨.bl b,H,I,O,hc.now (.bl b) c⟩
end
inductive Ty where
 |int|bool|str|tuple|list|dict
 deriving DecidableEq
noncomputable def Ty.nm:Ty->String
 | .int=>"int" | .bool=>"bool" | .str=>"str" | .tuple=>"tuple" | .list=>"list" | .dict=>"dict"
noncomputable def vN (S:d7)(T:Ty):D->Option Bool
 | .non=>some false
 | .bl _=>some (decide (T = .bool)||decide (T = .int))
 | .int _=>some (decide (T = .int))
 | .str _=>some (decide (T = .str))
 | .tup _=>some (decide (T = .tuple))
 | .rol _=>some (decide (T = .list))
 | .ref n=>match S[n]? with
  |some (.lst _)=>some (decide (T = .list))
  |some (.dct _)=>some (decide (T = .dict))
  |some (.dcT _)=>some (decide (T = .dict))
  |_=>none
 | .fn _=>none
def nC(T:Ty)(m:FE):FE:=λr S=>(m r S).bind λp=>(vN p.2 T p.1).map λb=>(.bl b,p.2)
section
variable{ag:List (dP×Obj)}{σ:L2.St}{H:Hp}{s:dN}{mu:List dP}{S:d7}{K:Fg1}
theorem DQ(T:Ty):Nr K (.type "NoneType") (.type T.nm)=Z J:=by cases T<;>rfl
theorem G5(T:Ty):Nr K (.type "bool") (.type T.nm)=Z (decide (T = .bool)||decide (T = .int)):=by cases T<;>rfl
theorem DS(T:Ty):Nr K (.type "int") (.type T.nm)=Z (decide (T = .int)):=by cases T<;>rfl
theorem DP(T:Ty):Nr K (.type "str") (.type T.nm)=Z (decide (T = .str)):=by cases T<;>rfl
theorem DO(T:Ty):Nr K (.type "tuple") (.type T.nm)=Z (decide (T = .tuple)):=by cases T<;>rfl
theorem DR(T:Ty):Nr K (.type "list") (.type T.nm)=Z (decide (T = .list)):=by cases T<;>rfl
theorem wZ(T:Ty):Nr K (.type "dict") (.type T.nm)=Z (decide (T = .dict)):=by cases T<;>rfl
theorem DW{T:Ty}{d:D}{v:V}{u:dM}{b:Bool}{Q:dM->dN->Prop}{E:dM->dN->Prop}(I:Inv X ag σ H s)(hs:Sim X.K H mu S)(r:fc X.K H mu d v)(f:eu v u)(h:vN S T d=some b)(q:∀ tk,Q (.bool b) {s with toks:=tk}):
  dX (Mw X.prog X.w) X.A (call (.builtin "isinstance") [u,.type T.nm]) Q E s:=by
 have j:∀{k:Bool} {a:dP} {vs:List V},sL X.K k H a vs->b=(match k with|true=>decide (T = .list)|false=>decide (T = .tuple))->dX (Mw X.prog X.w) X.A (call (.builtin "isinstance") [.ref a,.type T.nm]) Q E s:=λ{k a vs} g p=>by
  obtain⟨A,C,w,_⟩:=fg I g;cases k
  ·obtain⟨o,e,c,_⟩:=w;subst p;exact Nt PySem.W.kitx_tuple I.kIn ⟨o,e,c⟩ (DO T) (λz=>nomatch z) q
  ·obtain⟨o,e,c,_⟩:=w;subst p;exact Nt PySem.W.kitx_list I.kIn ⟨o,e,c⟩ (DR T) (λz=>nomatch z) q
 cases d with
 |non=>cases h;cases r;exact i0 I f .non (DQ T) q
 |bl k=>cases h;cases r;exact i0 I f (.bl k) (G5 T) q
 |int i=>cases h;cases r;exact i0 I f (.int i) (DS T) q
 |str x=>cases h;cases r;exact i0 I f (.str x) (DP T) q
 |tup xs=>
  cases h;obtain⟨a,vs,rfl,g,t⟩:=er (S:=S) r hs O;cases f;exact j g O
 |fn x=>cases h
 |rol xs=>
  cases h;obtain⟨a,vs,rfl,g,t⟩:=er (S:=S) r hs O;cases f;exact j g O
 |ref n=>
  rw[vN]at h;split at h
  ·rename_i xs e;cases h;obtain⟨a,vs,rfl,g,t⟩:=er (S:=S) r hs (by rw[eg,e]);cases f;exact j g O
  ·rename_i ks e;cases h;cases r with
   |ref l=>
    obtain⟨ws,m,_⟩:=hs.dct e l;exact i0 I f (.dK m) (wZ T) q
  ·rename_i ks e;cases h;cases r with
   | @ref _ a l=>
    cases(show u=D4 a from f);obtain⟨ws,m,_⟩:=hs.dcT e l;obtain⟨⟨_,_,o,_,_,B,y,_⟩,_⟩:=(show fb X.prog X.w H s.heap a (.ext (iN a ws))from I.hok a _ m);exact Nt PySem.W.kitx_dict I.kIn ⟨o,B,y.1⟩ (wZ T) (λz=>nomatch z) q
  ·cases h
theorem BO(T:Ty):fi X (.builtin "isinstance") (λxs H Q=>∃x mu S d b,xs=[x,.ty T.nm]/\fc X.K H mu d x/\Sim X.K H mu S/\vN S T d=Z b/\Q (.bl b) H):=by
 intro ag s σ H xs i Q I r h;obtain⟨x,mu,S,d,b,rfl,c,a,f,hc⟩:=h;obtain⟨u,g,rfl,e,rt⟩:=zi r;cases rt;exact DW I a c e f λtk=>⟨.bl b,H,I.tok tk,O,hc⟩
theorem yo (T:Ty){e:Expr}{m:FE}{nm:Str}{p p2 pos:Pos}(hg:Gl X "isinstance")(hm:X.mg "isinstance"=none)(hg2:Gl X nm)(hm2:X.mg nm=none)(hv2:L5 nm=some (.type T.nm))(h:ME X e m)
  (hn:autoParam (nm≠"__name__") bu0) (hd:autoParam ((nm == ("__debug__":Str))=J) bu0)
  (hs1:autoParam (dV [e,.Name nm p2] X.env=(J,eval e X.env)::dV [.Name nm p2] X.env) au0) (hs2:autoParam (dV [.Name nm p2] X.env=(J,eval (.Name nm p2) X.env)::dV [] X.env) au0)
  (hpl:autoParam ((MR pos (dV [.Name nm p2] X.env)).any (·.1)=J) au0):ME X (.Call (.Name "isinstance" p) [e,.Name nm p2] [] pos) (nC T m):=
 ff (tO (BO T) hg hm (by decide+kernel) (lV h (lV (C7 (v:=.ty T.nm) hg2 hm2 hv2 O hn hd) rG hs2) hs1) (by decide) (by decide) hs1 hpl) <| by
  rintro σ H Q ⟨r,mu,S,d,n,k,g,hm,hc⟩;obtain⟨⟨a,o⟩,l,hm⟩:=PC hm;obtain⟨b,i,hm⟩:=PD hm;cases hm;refine⟨r,mu,S,a,_,k,g,l,λv H1 mu1 f j c=>?_⟩;exact⟨v,mu1,_,a,b,O,j,c,i,hc _ H1 mu1 f (.bl b) c⟩
end
abbrev FO:=Ev->d7->Option (Option Int×d7)
noncomputable def LW(K:Fg1)(m:FO):TO:=fun σ H Q=>∃r mu S o S',fN K H mu r σ/\Sim K H mu S/\m r S=Z (o,S') /\ ∀H' mu',Ext mu mu' H H'->Sim K H' mu' S'->Q o H'
abbrev MO(X:Cx)(e:Option Expr)(m:FO):Prop:=PO X e (LW X.K m)
def kM:FO:=λ_ S=>Z (Y,S)
noncomputable def ni(m:FE):FO:=λr S=>(m r S).bind λp=>match p.1 with
 | .int i=>Z (Z i,p.2)
 |_=>Y
def pO(xs:List D)(lo hi:Option Int):List D:=(xs.drop (HT.sIx xs.length 0 lo)).take (HT.sIx xs.length xs.length hi-HT.sIx xs.length 0 lo)
theorem Dm:MO X Y kM:=by
 rintro ag s σ H Q I ⟨r,mu,S,o,d,c,a,b,hc⟩;cases b;exact CW ag s σ H Q I (hc H mu (.refl _ _) a)
theorem Dl{e:Expr}{m:FE}(h:ME X e m):MO X (Z e) (ni m):=by
 rintro ag s σ H Q I ⟨r,mu,S,o,l,j,f,a,hc⟩;obtain⟨⟨d,n⟩,k,a⟩:=PC a;cases d with
 |int i=>
  cases a;refine CV h ag s σ H Q I ⟨r,mu,S,_,_,j,f,k,λv H1 mu1 c g b=>?_⟩;cases g;exact⟨i,O,hc H1 mu1 c b⟩
 |_=>cases a
theorem xu{K:Fg1}{H:Hp}{mu:List dP}{ds:List D}{vs:List V}(t:ej K H mu ds vs)(lo hi:Option Int):ej K H mu (pO ds lo hi) (uI vs lo hi):=by
 unfold pO uI;rw[<- t.length];exact(t.drop _).take _
def H7(ta:TA):TE:=fun σ H Q=>ta σ H λvs H1=>∃j:Int,vs=[.int j] /\ ∀p,H1 p=Y->Q (.ref p) (upd H1 p (.rng 0 j))
theorem p7 {a:Expr}{ta:TA}{p pos:Pos}(hg:Gl X "range")(hm:X.mg "range"=Y)(ha:PA X [a] ta)(hs:autoParam (dV [a] X.env=[(J,eval a X.env)]) au0):PE X (.Call (.Name "range" p) [a] [] pos) (H7 ta):=by
 intro ag s σ H Q I h;refine Call_ (jV I hg hm boot_range (Nk (fr (ha pos ag s σ H _ I h) λk f ⟨vs,H1,c,g,d⟩=>?_) hs O));obtain⟨j,e,q⟩:=d;subst e;cases g with
 |cons r i=>
  cases i;obtain⟨t,rfl⟩:=r;refine call_range_1 ⟨.ref f.heap.objs.size,_,c.laid (λb o e=>hP1 _ e) (nR1 _) (o:=.rng 0 j) ?_,O,q _ (c.hok.fresh (nR1 _))⟩;exact⟨_,_,_,hS1 _ O⟩
noncomputable def kx(i:Int):Nat->List V
 |0=>[]
 |n+1=>.int i::kx (i+1) n
theorem jF:∀(n:Nat) (i:Int),(kx i n).length=n
 |0,_=>rfl
 |n+1,i=>by rw[kx,lC1,jF n]
theorem oo:∀(n:Nat) (i:Int) (k:Nat) (v:V),(kx i n)[k]?=Z v->v = .int (i+k)
 |0,i,k,v,h=>by simp[kx]at h
 |n+1,i,0,v,h=>by simp[kx]at h;rw[<- h];simp
 |n+1,i,k+1,v,h=>by
  rw[kx,gC1]at h;rw[oo n (i+1) k v h,show i+1+(k:Int)=i+((k+1:Nat):Int) by push_cast;lia]
theorem om{K:Fg1}{H:Hp}{mu:List dP}:∀(n:Nat) (i:Int),ej K H mu (gb i n) (kx i n)
 |0,_=>.nil
 |n+1,i=>.cons (.int i) (om n (i+1))
theorem q7:∀{xs:List V} {a:List dM},xs.length=a.length->(∀(i:Nat) x u,xs[i]?=Z x->a[i]?=Z u->eu x u)->eG xs a
 |[],[],_,_=>.nil
 |x::xs,u::a,h,f=>.cons (f 0 x u O O) (q7 (by simpa using h) λi y w h1 h2=>f (i+1) y w (by simpa using h1) (by simpa using h2))
 |[],_::_,h,_=>by simp at h
 |_::_,[],h,_=>by simp at h
theorem Eg(hc:X.calm=M):fi X (.type "list") (λxs H Q=>∃p i j,xs=[.ref p]/\H p=Z (.rng i j)/\(-(2^62)<=i/\i<2^62 /\ -(2^62)<=j/\j<2^62)/\(j-i).toNat<=2^20 /\ ∀l,H l=Y->Q (.ref l) (upd H l (.lst (kx i (j-i).toNat)))):=by
 intro ag s σ H xs F Q I r h;obtain⟨p,i,j,rfl,B,⟨h1,h2,w,g⟩,f,q⟩:=h;obtain⟨u,rfl,D⟩:=iO r;cases D;obtain⟨t,u,v,e⟩:=I.hok p _ B;have C:(((j-i).toNat:Nat):Int)=Nj i j 1:=by rw[rangeSize_one];split<;>lia
 refine call_list_range (n:=(j-i).toNat) (I.ok.hd hc) e (small_one h1 h2 w g) C.symm (aC f (by decide)) λh' tk b m A E hi=>?_;obtain⟨d,c⟩:=hi;have a:eG (kx i (j-i).toNat) b.toList:=q7 (by rw[jF];simpa using d.symm) λk x u o z=>by
  rw[oo _ _ _ _ o];obtain⟨y,rfl⟩:=c k u (by simpa using z);exact⟨y,by rw[Int.mul_one]⟩
 refine⟨.ref s.heap.objs.size,_,I.laid (t':=tk) A (nR1 _) (show fb X.prog X.w _ h' _ (.lst (kx i (j-i).toNat))from⟨?_,b.toList,m,a,by simpa using E⟩),O,q _ (I.hok.fresh (nR1 _))⟩;rw[jF];exact aC f (by decide)
noncomputable def m8(i j:Int):Bool:=decide (-(2^62)<=i)&&decide (i<2^62)&&decide (-(2^62)<=j)&&decide (j<2^62)&&decide ((j-i).toNat<=2^20)
def AS(m:FA):FE:=λr S=>(m r S).bind λp=>match p.1 with
 |[.int j]=>if m8 0 j=M then Z (.ref p.2.length,p.2++[.lst (gb 0 j.toNat)])else Y
 |_=>Y
theorem lQ{i j:Int}(h:m8 i j=M):(-(2^62)<=i/\i<2^62 /\ -(2^62)<=j/\j<2^62)/\(j-i).toNat<=2^20:=by
 unfold m8 at h;simp only[bA1,al]at h;obtain⟨⟨⟨⟨h1,h2⟩,c⟩,a⟩,b⟩:=h;exact⟨⟨h1,h2,c,a⟩,b⟩
theorem GX{K:Fg1}{mu:List dP}{H H1:Hp}{S1:d7}{i j:Int}{Q:VK}{mu1:List dP}(c:Ext mu mu1 H H1)(b:Sim K H1 mu1 S1)(hc:sN K mu H (.ref S1.length) (S1++[.lst (gb i (j-i).toNat)]) Q){p l:dP}(hp:H1 p=none)(a:upd H1 p (.rng i j) l=none):
  Q (.ref l) (upd (upd H1 p (.rng i j)) l (.lst (kx i (j-i).toNat))):=
 hc _ _ (mu1++[l]) ((c.trans (Ext.fresh hp)).trans (Ext.new_ a)) (.ref (gA b.len l)) ((b.fresh hp).newL (om _ _) a)
theorem yn {a:Expr}{m:FA}{f p2 b c:Pos}(hc:X.calm=true)(hg:Gl X "range")(hm:X.mg "range"=none)(hg2:Gl X "list")(hm2:X.mg "list"=none)(ha:MA X [a] m)(hs:autoParam (dV [a] X.env=[(false,eval a X.env)]) au0)
  (hs2:autoParam (dV [.Call (.Name "range" f) [a] [] b] X.env=[(J,eval (.Call (.Name "range" f) [a] [] b) X.env)]) au0):ME X (.Call (.Name "list" p2) [.Call (.Name "range" f) [a] [] b] [] c) (AS m):=
 ff (mL (Eg hc) hg2 hm2 (by decide+kernel) (lV (p7 hg hm ha hs) rG hs2) (by decide) (by decide) hs2) <| by
  rintro σ H Q ⟨r,mu,S,d,u,q,hs,hm,e⟩;obtain⟨⟨ds,w⟩,s,hm⟩:=PC hm;dsimp only at hm;split at hm
  ·rename_i j;split at hm
   ·rename_i g;cases hm;refine⟨r,mu,S,_,_,q,hs,s,λvs H1 mu1 i k h=>?_⟩;obtain⟨v,rfl,t⟩:=lT k;cases t;refine⟨j,O,λp o=>⟨p,0,j,O,eI,(lQ g).1,(lQ g).2,λl n=>GX i h (by rw[Int.sub_zero];exact e) o n⟩⟩
   ·cases hm
  ·cases hm
noncomputable def iF:G2:=λo v S=>match o with
 | .ref n=>match S[n]? with
  |some (.lst xs)=>if xs.length<dW then Z (.non,S.set n (.lst (xs++[v])))else Y
  |_=>Y
 |_=>Y
def vS:G2:=λo i S=>match o,i with
 | .ref n,.int k=>match S[n]? with
  |some (.lst xs)=>if-(2^63)<=k/\k<2^63 then(vM xs.length k).bind λj=>(xs[j]?).map λy=>(y,S.set n (.lst (xs.eraseIdx j)))else Y
  |_=>Y
 |_,_=>Y
noncomputable def nB (f:FN)(o:FE)(a:FA):FE:=λr S=>(o r S).bind λp=>match p.1 with
 | .ref n=>match p.2[n]? with
  |some (.lst _)=>(a r p.2).bind λq=>f (p.1::q.1) q.2
  |_=>none
 |_=>none
theorem HZ:HM X "list.append" (λx xs H Q=>rN X.K (b2 iF) (x::xs) H Q):=by
 intro ag s σ H x xs v j Q I i o h;obtain⟨r,y,mu,S,d,e,p,q,g,m,r2,f,a,hc⟩:=zR h;cases g;cases d with
 |ref n=>
  rw[iF]at a;split at a
  ·rename_i ys l;split at a
   ·rename_i k;cases a;cases m with
    |ref b=>
     obtain⟨vs,c,t⟩:=f.lst l b;refine p9 ag s σ H _ [y] v j Q I i o ⟨_,vs,y,O,O,c,by rw[<- t.length];exact k,?_⟩;exact hc _ _ mu (Ext.put c trivial (gM1 b)) .non (f.putL (t.append (.cons r2 .nil)) b c)
   ·cases a
  ·cases a
 |_=>cases a
theorem zv:HM X "list.pop" (λx xs H Q=>rN X.K (b2 vS) (x::xs) H Q):=by
 intro ag s σ H x xs v q Q I l C h;obtain⟨F,y,mu,S,d,e,D,E,m,A,r2,i,a,hc⟩:=zR h;cases m;unfold vS at a;split at a
 ·rename_i n k;split at a
  ·rename_i ys r;split at a
   ·rename_i g;obtain⟨j,p,a⟩:=PC a;obtain⟨z,B,a⟩:=PD a;cases a;cases A with
    |ref c=>
     cases r2;obtain⟨vs,f,t⟩:=i.lst r c;obtain⟨w,o,b⟩:=t.get B;refine AC ag s σ H _ [.int k] v q Q I l C ⟨_,vs,k,j,w,O,O,f,g.1,g.2,?_,o,?_⟩
     ·rw[<- t.length];exact(sf p).1
     ·have x:=Ext.put (u:=.lst (vs.eraseIdx j)) f trivial (gM1 c);exact hc _ _ mu x (b.ext x) (i.putL (t.eraseIdx j) c f)
   ·cases a
  ·cases a
 ·cases a
theorem AM {o e:Expr}{es:List Expr}{m:FE}{a:FA}{f:FN}{name:Str}{apos cpos:Pos}{id:String}(slot:Slot "list" name id)(hty:typeOf (.builtin id)=pure (.type "method_descriptor"))(hm:HM X id (fun x xs H Q=>rN X.K f (x::xs) H Q))(ho:ME X o m)(ha:MA X (e::es) a)
  (hbase:autoParam (NY o name X.env (eval o X.env)=eval o X.env) au0)
  (hfew:autoParam (((MR cpos (dV (e::es) X.env)).all (λx=> !x.1)&&(backToKw cpos (NZ [] X.env)).all (λx=>x.1.isSome)&&decide ((e::es).length+([]:List Ny).length+(if([]:List Ny).isEmpty then 0 else 1)<30))=M) au0)
  (hline:autoParam ((apos.endLine == cpos.line)=M) au0) (hs:autoParam (dV (e::es) X.env=(J,eval e X.env)::dV es X.env) au0) (hplain:autoParam ((MR cpos (dV es X.env)).any (·.1)=J) au0):
  ME X (.Call (.Attribute o name apos) (e::es) [] cpos) (nB f m a):=
 ff (ID PySem.F.plainAttrs_list slot hty hm ho ha hbase hfew hline hs hplain) <| by
  rintro σ H Q ⟨r,mu,S,d,C,h,hs,hm,hc⟩;obtain⟨⟨l,j⟩,A,hm⟩:=PC hm;refine⟨r,mu,S,l,j,h,hs,A,λv H1 mu1 g k p=>?_⟩;cases l with
  |ref n=>
   dsimp only at hm;split at hm
   ·rename_i xs E;obtain⟨⟨ds,i⟩,s,hm⟩:=PC hm;refine⟨?_,r,mu1,j,ds,i,h.ext g,p,s,λvs H2 c q r2 z=>?_⟩
    ·cases k with
     |ref D=>
      obtain⟨vs,w,t⟩:=p.lst E D;exact .inl ⟨O,vs,nG.of w⟩
    ·exact⟨c,i,.ref n::ds,d,C,.cons (k.ext q) r2,z,hm,λu y b B=>hc u y b ((g.trans q).trans B)⟩
   ·cases hm
  |_=>cases hm
theorem wE{X:Cx}(hc:X.calm=true){elt tg iter:Expr}{ifs:List Expr}{rest:List Comprehension}{scope:d4}{pos k au:Pos}{y:Str}{i:Nat}{T:List Str}{keep:List Nat}{n:List (Str×dP)}{wi:TI}{g:TG}{ti:TT}{tb:dP->TS}{emit:dM->Env->Sem Unit}(U:MZ (.ListComp elt (⟨tg,iter,ifs,0⟩::rest) scope pos) (some (.Name y au)) k.line X.env=pure true)(eq:∀it u j,Oe (.ListComp elt (⟨tg,iter,ifs,0⟩::rest) scope pos) 0 it u j=lp iter.pos tg ifs it j (emit u j) (.compLoop (.ListComp elt (⟨tg,iter,ifs,0⟩::rest) scope pos) 0 it u j))(C:HS X scope T keep)(F:jW X.env.cells scope.names []=some n)(hi:PI X tg iter wi)(hb:∀s H fp p,PG (cxC X scope n T keep s H fp) tg g/\pA (cxC X scope n T keep s H fp) ifs ti/\PU (cxC X scope n T keep s H fp) (emit (.ref p) (cxC X scope n T keep s H fp).env) (tb p))(hN:X.N.Nodup)(hy:X.N[i]?=some y)(hx:uX X.env.scope y)(hf:X.fn y=true\/X.env.scope.names.lookup y=some .local)(hs:autoParam (∀x,Nl iter X.env x=pure x) du0):
  PS X (.Assign [.Name y au] (.ListComp elt (⟨tg,iter,ifs,0⟩::rest) scope pos) k) (zB (zA T.length keep wi g ti tb) (xf i)):=by
 intro ag s σ H D I h;rw[exec_Assign_Name_used _ _ _ _ U];refine wB1 (M8 (wB1 ?_));show dX _ X.A (do let _<-comprehension (.ListComp elt (⟨tg,iter,ifs,0⟩::rest) scope pos) scope X.env _ (newList []) J (eval iter X.env) (Z (M0 (.Name y au) X.env))) _ _ s;refine wB1 (MU (wpAny_comprehension_free (use:=Z (M0 (.Name y au) X.env)) (Q:=λ_ s'=>SP X ag D .next s') O hs (BH F) C.kind C.names ?_) (λ_ s' hq=>wP1 (wP1 hq)) λ_ _ e=>e);refine fr (hi ag s σ H _ I h) λv s1 h1=>fr h1 λitv a h2=>?_;obtain⟨it,fp,tn,am,H2,rfl,I2,TT,L,f2,q2⟩:=h2;refine wO1 ?_;have w:Inv X ag σ (upd H2 a.heap.objs.size (.lst [])) {a with heap:=a.heap.push {cls:=.type "list",data:=.seq ([]:List dM).toArray}}:=I2.lnew (t':=a.toks) .nil (bj _);have old:∀b∈fp,∃o,a.heap.get? b=Z o:=λb hb=>by
  obtain⟨o,e,_⟩:=TT.obj 0 a.heap L b hb;exact⟨o,e⟩
 have S:∀b∈fp,b≠a.heap.objs.size:=λb hb z=>by
  obtain⟨o,e⟩:=old b hb;have:=hL1 e;rw[z]at this;exact az _ this
 have ao:∀b∈fp,kG X ag (upd H2 a.heap.objs.size (.lst [])) b:=λb hb=>⟨by rw[eD (S b hb)];exact(f2 b hb).1,(f2 b hb).2⟩;have o3:∀b∈fp,∃o,({a with heap:=a.heap.push {cls:=.type "list",data:=.seq ([]:List dM).toArray}}:dN).heap.get? b=Z o:=λb hb=>by
  obtain⟨o,e⟩:=old b hb;exact⟨o,hP1 _ e⟩
 have N:=ul w C F ao o3;obtain⟨hg,V,he⟩:=hb {a with heap:=a.heap.push {cls:=.type "list",data:=.seq ([]:List dM).toArray}} (upd H2 a.heap.objs.size (.lst [])) fp a.heap.objs.size;refine kN ?_;have f4:∀b∈fp,kG (cxC X scope n T keep {a with heap:=a.heap.push {cls:=.type "list",data:=.seq ([]:List dM).toArray}} (upd H2 a.heap.objs.size (.lst [])) fp) [] (upd H2 a.heap.objs.size (.lst [])) b:=λb hb=>
  ⟨(ao b hb).1,(N.ok.exf b hb).1,N.ok.exfs b hb,.inl hb,(N.ok.exf b hb).2,λp E=>absurd (show p∈([]:List (dP×Obj))from E) (by simp)⟩
 have K:tn 0 (pushCells ((a.heap.push {cls:=.type "list",data:=.seq ([]:List dM).toArray}).push {cls:=.type "dict",data:=.dict #[]}) scope.names):=
  TT.keep 0 a.heap _ L λb hb o e=>Od scope.names _ b o (hP1 _ (hP1 _ e))
 have l:=mZ (X:=cxC X scope n T keep {a with heap:=a.heap.push {cls:=.type "list",data:=.seq ([]:List dM).toArray}} (upd H2 a.heap.objs.size (.lst [])) fp) O hc (eq (.ref it) (.ref a.heap.objs.size) _) TT hg V he N K f4
  (q2 a.heap.objs.size (I2.hok.fresh (nR1 _)))
 refine Nx (codeAny_compStart_list l (TT.self X.A 0 _ _ _ K l)) λr s' hr=>?_;cases r with
 |error e=>exact hr.elim
 |ok f=>
  obtain⟨σ',H',A,q'⟩:=hr;have wq:Inv X ag σ H' s':=w.call' (s':=s') (ch:=fp) A.os A.base A.hok A.bare λb hb=>(ao b hb).2.2.2 |> λz=>⟨z.1,(ao b hb).2.1,z.2.1,z.2.2⟩
  -- the block's own dict is kept aside
  obtain⟨m,hn,_⟩:=id A.loc;obtain⟨P,es,ep,eC,dC,rC⟩:=id hn;have hCz:(a.heap.push {cls:=.type "list",data:=.seq ([]:List dM).toArray}).get? (a.heap.push {cls:=.type "list",data:=.seq ([]:List dM).toArray}).objs.size=Y:=Ms (nR1 _);have B:(a.heap.push {cls:=.type "list",data:=.seq ([]:List dM).toArray}).objs.size≠X.env.locals:=λz=>by
   have:=w.lt;rw[<- z]at this;exact az _ this
  have R:H' (a.heap.push {cls:=.type "list",data:=.seq ([]:List dM).toArray}).objs.size=Y:=A.free;have J2:Inv X (ag++[((a.heap.push {cls:=.type "list",data:=.seq ([]:List dM).toArray}).objs.size,P)]) σ H' s':=wq.pins_of λp E=>by
   rcases aG.mp E with z|z
   ·exact wq.pin p (mA1 _ z)
   ·have z':p=((a.heap.push {cls:=.type "list",data:=.seq ([]:List dM).toArray}).objs.size,P):=by simpa using z
    subst z';exact⟨eC,R,B,w.nofs (nR1 _),λv q=>by rw[dC]at q;cases q⟩
  refine fr (wG hN hy hx hf _ s' σ H' (.ref a.heap.objs.size) (.ref a.heap.objs.size) D.nx J2 O q') λ_ s5 ⟨G,H5,J5,q5⟩=>?_;obtain⟨e5,n5,_⟩:=J5.pin ((a.heap.push {cls:=.type "list",data:=.seq ([]:List dM).toArray}).objs.size,P) (mA1 _ (mA1 _ mS1));refine⟨m,⟨P,es,ep,e5,dC,rC⟩,λh' W=>?_⟩;have J6:Inv X ag G H5 s5:=J5.unpinned;refine⟨G,H5,J6.turned (t':=s5.toks) (λb o hb e=>(W.2 b hb).trans e) n5 B (.inr ?_) (λx c t z=>?_) (λp E z=>?_),q5⟩
  ·exact w.sz
  ·obtain⟨w',zc⟩:=w.cell x c t;have d:=zc.lt;rw[z]at d;exact az _ d
  ·obtain⟨aq,_⟩:=w.pin p E;have d:=hL1 aq;rw[z]at d;exact az _ d
theorem BU{K:Fg1}{te:TE}{m:FE}{i:Nat}(hm:∀ σ H Q,tM K m σ H Q->te σ H Q){E:jt}{σ:L2.St}{H:Hp}(h:wx K (eF m (gN i)) E σ H):zB te (xf i) E σ H:=by
 obtain⟨r,mu,S,d,f,h1,h2,n,b⟩:=rX h;refine hm _ _ _ ⟨r,mu,S,d,f,h1,h2,n,λv H' mu' j o e=>?_⟩;obtain⟨r2,a,q,s,t,u,c,l,p,k,g⟩:=b v H' mu' j o e;cases k;exact g _ H' a (.refl _ _) (c.set p) l
theorem mv (i:Nat){x:Str}{pos:Pos}(hN:autoParam (X.N[i]? = some x) au0)(hv:autoParam (Vis X.env.scope x) au0)(hd:autoParam ((x == ("__debug__":Str))=false) bu0)(hcd:autoParam ((x == ("__classdict__":Str))=false) bu0):
  ME X (.Name x pos) (mV i):=GI i hN hv hd hcd
def Own(P:dQ)(w:dS)(K:Fg1)(mg:Str->Option dM)(base:dZ)(k:Nat)(x:Str)(n:Nat)(m:FN):Prop:=
 ∃(f:dP) (fd:d2) (ps:List Str),m3 P w K mg base uY k f fd ps (spM K n m)/\kb K fd ps []/\wK1 K (.ref f)=M/\mg x=Z (.ref f)
theorem GK {X:Cx}{k k' n:Nat}{x:Str}{m:FN}{p pos:Pos}{e:Expr}{es:List Expr}{a:FA}(h:Own X.prog X.w X.K X.mg X.base k x n m)(hr:gl k' X.A)(hk:k<=k')(hg:Gl X x)(ha:MA X (e::es) a)(hdb:autoParam ((x == ("__debug__":Str))=false) bu0)
  (he:autoParam (dV (e::es) X.env=(J,eval e X.env)::dV es X.env) au0) (hpl:autoParam ((MR pos (dV es X.env)).any (·.1)=J) au0):ME X (.Call (.Name x p) (e::es) [] pos) (mN (ea n m) a):=by
 obtain⟨f,fd,ps,F,b,c,d⟩:=h;exact Du F (hr.mono hk) hg d c b ha hdb he hpl
theorem Gg{P:dQ}{w:dS}{K:Fg1}{mg:Str->Option dM}{base:dZ}{x a:Str}{st:d3}{f:dP}{fd:d2}{N ps:List Str}{k n:Nat}{b:FS}(F:xK K x a st f fd)(hb:kb K fd ps [])(hm:mg x=some (.ref f))(S:gR N ps (eB st))(hn:ps.length=n)(c:∀(e:dM) (A:dR) (d:List Env) (s:dN) (H:Hp) (E:XK),gl k (A.deeper (NA a (eB st) s.heap.objs.size f e)) ->
   yP (nE uY P w K mg base N a (eB st) f e A d s H E).nox (fK st) b):Own P w K mg base (k+1) x n (iC N.length b):=by
 subst hn;exact⟨f,fd,ps,Jt F S c,hb,F.kp,hm⟩
noncomputable def ge:List Bool->Ev->Ev
 |true::bs,o::r=>o::ge bs r
 |false::bs,_::r=>Y::ge bs r
 |[],_::r=>Y::ge [] r
 |_,[]=>[]
def lE:Ev->Bool
 |[]=>M
 |none::r=>lE r
 |some d::r=>d.und 0&&lE r
noncomputable def qa (ki ko:List Bool)(b:FS):FS:=fun r S=>if lE (ge ki r)=true then
  (b (ge ki r) []).bind λp=>match p.1 with
   | .rt d=>if d.und 0=true then some (.rt d,[],S)else none
   |f=>if lE (ge ko p.2.1)=true then some (f,ge ko p.2.1,S)else none
 else none
theorem kn:∀(bs:List Bool) (r:Ev),(ge bs r).length=r.length
 |true::bs,o::r=>congrArg (· + 1) (kn bs r)
 |false::bs,o::r=>congrArg (· + 1) (kn bs r)
 |[],o::r=>congrArg (· + 1) (kn [] r)
 |[],[]=>rfl
 |true::_,[]=>rfl
 |false::_,[]=>rfl
theorem kq:∀(bs:List Bool) (r:Ev) (i:Nat) (d:D),(ge bs r)[i]?=Z (Z d)->r[i]?=Z (Z d)
 |true::bs,o::r,0,d,h=>h
 |true::bs,o::r,i+1,d,h=>by
  rw[gC1];exact kq bs r i d (by rw[ge,gC1]at h;exact h)
 |false::bs,o::r,0,d,h=>by simp[ge]at h
 |false::bs,o::r,i+1,d,h=>by
  rw[gC1];exact kq bs r i d (by rw[ge,gC1]at h;exact h)
 |[],o::r,0,d,h=>by simp[ge]at h
 |[],o::r,i+1,d,h=>by
  rw[gC1];exact kq [] r i d (by rw[ge,gC1]at h;exact h)
 |[],[],i,d,h=>by simp[ge]at h
 |true::_,[],i,d,h=>by simp[ge]at h
 |false::_,[],i,d,h=>by simp[ge]at h
theorem mJ:∀(r:Ev) (i:Nat) (d:D),lE r=M->r[i]?=Z (Z d)->d.und 0=M
 |none::r,0,d,_,h=>by simp at h
 |none::r,i+1,d,hs,h=>mJ r i d hs (by simpa using h)
 |some e::r,0,d,hs,h=>by
  rw[lE,bA1]at hs;simp at h;subst h;exact hs.1
 |some e::r,i+1,d,hs,h=>by
  rw[lE,bA1]at hs;exact mJ r i d hs.2 (by simpa using h)
theorem fN.mask{K:Fg1}{H:Hp}{mu mu':List dP}{r:Ev}{σ:L2.St}{bs:List Bool}(h:fN K H mu r σ)(hs:lE (ge bs r)=M):fN K H mu' (ge bs r) σ:=
 ⟨by rw[kn];exact h.len,λi d e=>by
  obtain⟨v,b,a⟩:=h.val i d (kq bs r i d e);exact⟨v,b,a.cut (n:=0) (λk c=>absurd c (bA _)) (mJ _ i d hs e)⟩⟩
theorem AQ{K:Fg1}{m p:List Bool}{b:FS}{E:jt}{σ:L2.St}{H:Hp}(h:wx K (qa m p b) E σ H):wx K b E σ H:=by
 obtain⟨r,mu,S,f,B,C,y,j,c,hc⟩:=h;unfold qa at c;split at c
 ·rename_i q;obtain⟨⟨l,w,t⟩,A,c⟩:=PC c;refine⟨ge m r,[],[],l,w,t,y.mask q,.nil,A,?_⟩;have back:∀{H':Hp} {mu':List dP},Ext [] mu' H H'->Ext mu mu H H':=λ{H' mu'} x=>⟨bo,λa o e _=>x.old a o e (by simp),x.tup,x.frz,λ_ z=>.inl z⟩;have keep:∀{H':Hp} {mu':List dP},Ext [] mu' H H'->Sim K H' mu S:=λ{H' mu'} x=>⟨j.len,j.nd,λn o a h1 h2=>(j.ob n o a h1 h2).keep (back x) λo e=>x.old a o e (by simp)⟩;cases l with
  |rt d=>
   dsimp only at c;split at c
   ·rename_i i;cases c;exact λv H' mu' x r s=>hc v H' mu (back x) (r.cut (n:=0) (λk u=>absurd u (bA _)) i) (keep x)
   ·cases c
  |nx=>
   dsimp only at c;split at c
   ·rename_i i;cases c;exact λg H' mu' x r s=>hc g H' mu (back x) (r.mask i) (keep x)
   ·cases c
  |bk=>
   dsimp only at c;split at c
   ·rename_i i;cases c;exact λg H' mu' x r s=>hc g H' mu (back x) (r.mask i) (keep x)
   ·cases c
  |ct=>
   dsimp only at c;split at c
   ·rename_i i;cases c;exact λg H' mu' x r s=>hc g H' mu (back x) (r.mask i) (keep x)
   ·cases c
 ·cases c
theorem AE{X:Cx}{sts:List d3}{b:FS}(c a:List Bool)(h:yP X sts b):yP X sts (qa c a b):=rE h λ_ _ _=>AQ
section
variable{K:Fg1}
end
theorem kl{K:Fg1}{H:Hp}{mu:List dP}:∀ns:List Int,ej K H mu (ns.map D.int) (ns.map V.int)
 |[]=>.nil
 |n::ns=>.cons (.int n) (kl ns)
theorem GY{K:Fg1}{m:FN}(hm:∀ ns:List Int,ns.length<=63 -> ∃ S,m [.rol (ns.map D.int)] []=some (.bl true,S))(H:Hp)(a:dP)(ns:List Int)(f:ns.length<=63)(b:Eo H)(d:nG K H a (ns.map V.int)):
  spM K 1 m [.ref a] H (λv _=>v = .bl M) λ_ _ _=>False:=by
 refine⟨O,?_⟩;obtain⟨S,e⟩:=hm ns f;have c:RoL K H a (ns.map V.int):=by
  rcases d with h|h
  ·rcases h with h|h
   ·rcases b a with z|⟨o,xs,z⟩
    ·rw[h]at z;cases z
    ·rw[h]at z;cases z
   ·exact .inl h
  ·exact .inr h
 refine⟨[],[],[.rol (ns.map D.int)],.bl M,S,.cons (.rol c (kl ns)) .nil,.nil,e,λv H' mu' x r s=>?_⟩;cases r;rfl
theorem walk_m{l:PySem.W.OpenLaw}{q:dQ}{b:List Str}{XP:(Str->Option dM)->dZ->Prop}{g:dS->dZ->Prop}{d:DefRec}{K:Params->Fg1}{m:FN}{k:Nat}{x:Str}(hn:l.most=some 63)(c:d.params.defaults=[])(hr:gl k callerA)(o:∀(w:dS) (h:dZ),g w h->(K w.params).In h)(hm:∀ns:List Int,ns.length<=63 -> ∃S,m [.rol (ns.map D.int)] []=some (.bl true,S))(F:∀(w:dS) (mg:Str->Option dM) (e:dP) (h:dZ),(K w.params).In h->h.Ns dU mg->mg d.name=some (.ref e) ->
   ∃fd:d2,(∀(s:dN) (u:dM),BindsTo s fd ⟨[u],[]⟩ [(x,u)]) /\ ∀base:dZ,(K w.params).In base->base.Ns dU mg->m3 l.prog w (K w.params) mg base uY k e fd [x] (spM (K w.params) 1 m)):
  PySem.W.WalkO q b XP g l.row.toRowW d [] (λf vs=>PySem.call f vs):=
 L2.Cm (n:=63) (k:=k) (x:=x) (CX:=λ_=>uY) (sp:=λw=>spM (K w.params) 1 m) hn (by decide) c hr o F (λ_ H a ns j i p=>GY hm H a ns j i p) λ_ _ _ _ _ z=>z
structure XE (X:Cx)(e:Expr)(m:FE):Prop where
 h:ME X e m
structure XT (X:Cx)(e:Expr)(m:FT):Prop where
 h:MT X e m
structure XW (X:Cx)(e:Expr)(m:FT):Prop where
 h:MW X e m
structure XA (X:Cx)(e:List Expr)(m:FA):Prop where
 h:MA X e m
structure XS (X:Cx)(e:d3)(m:FS):Prop where
 h:MS X e m
structure v8 (X:Cx)(e:List d3)(m:FS):Prop where
 h:yP X e m
structure XI (X:Cx)(tg e:Expr)(m:FI):Prop where
 h:MI X tg e m
structure XG (X:Cx)(e:Expr)(m:FG):Prop where
 h:MG X e m
structure Ki (X:Cx)(e:List Expr)(m:B4):Prop where
 h:JR X e m
structure XO (X:Cx)(e:Option Expr)(m:FO):Prop where
 h:MO X e m
structure XF (X:Cx)(K:Fg1)(ifs:List Expr)(t:FT):Prop where
 h:pA X ifs (zy K t)
theorem eH{X:Cx}:XF X X.K [] fu:=⟨Dq⟩
theorem jv{X:Cx}{c:Expr}{t:FT}(h:XT X c t):XF X X.K [c] t:=⟨Dp h.h⟩
theorem xO{X:Cx}{sts:List d3}{b:FS}(c a:List Bool)(h:v8 X sts b):v8 X sts (qa c a b):=⟨AE c a h.h⟩
section
variable{pos:Pos}
theorem qK{i:Int}{j}:XE X (.Constant (.int i) j pos) (mC (.int i)):=⟨GP⟩
theorem jw{b:Bool}{j}:XE X (.Constant (.bool b) j pos) (mC (.bl b)):=⟨IY⟩
theorem nI{j}:XE X (.Constant .none j pos) (mC .non):=⟨GN⟩
end
section
variable{pos:Pos}{e:Expr}{es:List Expr}{m:FE}{n:FA}
theorem qN:XA X [] d6:=⟨GU⟩
theorem qA(h:XE X e m)(ht:XA X es n)(hs:autoParam (dV (e::es) X.env=(J,eval e X.env)::dV es X.env) au0):XA X (e::es) (d5 m n):=⟨Dv (h:=h.h) (ht:=ht.h) (hs:=hs)⟩
end
section
variable{K:Fg1}{f:FN}{a b:FE}{σ:L2.St}{H:Hp}{Q:VK}
theorem qI{op:M4}{x y:Expr}{pos:Pos}(ho:gJ X (Nm op) (r2 X.K f))(hx:XE X x a)(hy:XE X y b):XE X (.BinOp x op y pos) (m2 f a b):=⟨IV (ho:=ho) (hx:=hx.h) (hy:=hy.h)⟩
theorem za{op:UnaryOp}{x:Expr}{pos:Pos}(ho:HR X (unaryOp op) (λx H Q=>rN X.K f [x] H Q))(hx:XE X x a):XE X (.UnaryOp op x pos) (m1 f a):=⟨IU (ho:=ho) (hx:=hx.h)⟩
theorem Ci{op:No}{x y:Expr}{pos:Pos}(ho:gJ X (Nn op) (r2 X.K f))(hx:XE X x a)(hy:XE X y b)(hm:Np op y=J):XE X (.Compare x [op] [y] pos) (m2 f a b):=⟨GQ (ho:=ho) (hx:=hx.h) (hy:=hy.h) (hm:=hm)⟩
theorem qJ{x y:Expr}{pos:Pos}(ho:EU X (r2 X.K f))(hx:XE X x a)(hy:XE X y b)(hs:nW y):XE X (.Subscript x y pos) (m2 f a b):=⟨IW (ho:=ho) (hx:=hx.h) (hy:=hy.h) (hs:=hs)⟩
theorem qD {x:Str}{p pos:Pos}{e:Expr}{es:List Expr}{id:String}{a:FA}(hc:fi X (.builtin id) (rN X.K f))(hg:Gl X x)(hm:X.mg x=Y)(hv:L5 x=Z (.builtin id))(ha:XA X (e::es) a)(hn:autoParam (x≠"__name__") bu0)(hdb:autoParam ((x == ("__debug__":Str))=J) bu0)(he:autoParam (dV (e::es) X.env=(J,eval e X.env)::dV es X.env) au0)(hpl:autoParam ((MR pos (dV es X.env)).any (·.1)=J) au0):XE X (.Call (.Name x p) (e::es) [] pos) (mN f a):=⟨AO (hc:=hc) (hg:=hg) (hm:=hm) (hv:=hv) (ha:=ha.h) (hn:=hn) (hdb:=hdb) (he:=he) (hpl:=hpl)⟩
theorem qE {x:Str}{p pos:Pos}{e:Expr}{es:List Expr}{T:String}{a:FA}(hc:fi X (.type T) (rN X.K f))(hg:Gl X x)(hm:X.mg x=Y)(hv:L5 x=Z (.type T))(ha:XA X (e::es) a)(hn:autoParam (x≠"__name__") bu0)(hdb:autoParam ((x == ("__debug__":Str))=J) bu0)(he:autoParam (dV (e::es) X.env=(J,eval e X.env)::dV es X.env) au0)(hpl:autoParam ((MR pos (dV es X.env)).any (·.1)=J) au0):XE X (.Call (.Name x p) (e::es) [] pos) (mN f a):=⟨yp (hc:=hc) (hg:=hg) (hm:=hm) (hv:=hv) (ha:=ha.h) (hn:=hn) (hdb:=hdb) (he:=he) (hpl:=hpl)⟩
end
section
variable{x y c:Expr}{rest:List Expr}{pos:Pos}{a b:FT}{f g:FE}
theorem qX{op:No}{f:FN}{a b:FE}(ho:gJ X (Nn op) (r2 X.K f))(hx:XE X x a)(hy:XE X y b)(hm:Np op y=J):XT X (.Compare x [op] [y] pos) (mB (m2 f a b)):=⟨Gv (ho:=ho) (hx:=hx.h) (hy:=hy.h) (hm:=hm)⟩
theorem sQ(ha:XT X x a):XW X (.BoolOp .And [x] pos) a:=⟨Dh (ha:=ha.h)⟩
theorem qS(ha:XT X x a):XW X (.BoolOp .Or [x] pos) a:=⟨Gr (ha:=ha.h)⟩
theorem qT(ha:XT X x a)(hb:XW X (.BoolOp .And (y::rest) pos) b):XW X (.BoolOp .And (x::y::rest) pos) (rY a b):=⟨Gs (ha:=ha.h) (hb:=hb.h)⟩
theorem u9(ha:XT X x a)(hb:XW X (.BoolOp .Or (y::rest) pos) b):XW X (.BoolOp .Or (x::y::rest) pos) (mOr a b):=⟨IR (ha:=ha.h) (hb:=hb.h)⟩
theorem sR(h:XW X x a):XT X x a:=⟨KQ (h:=h.h)⟩
theorem nH(ha:XT X x a):XT X (.UnaryOp .Not x pos) (rW a):=⟨Gu (ha:=ha.h)⟩
theorem ke{op}(h:XE X x f):XE X (.BoolOp op [x] pos) f:=⟨GL (h:=h.h)⟩
theorem i6(ha:XE X x f)(hb:XE X (.BoolOp .And (y::rest) pos) g):XE X (.BoolOp .And (x::y::rest) pos) (kP f g):=⟨GS (ha:=ha.h) (hb:=hb.h)⟩
theorem wo(ha:XE X x f):XE X (.UnaryOp .Not x pos) (ua f):=⟨GM (ha:=ha.h)⟩
theorem zd(hc:XT X c a)(hx:XE X x f)(hy:XE X y g):XE X (.IfExp c x y pos) (I0 a f g):=⟨IX (hc:=hc.h) (hx:=hx.h) (hy:=hy.h)⟩
end
section
variable{x y z:Expr}{pos:Pos}{f g:FN}{a b c:FE}{op op':No}
theorem xQ(ho:gJ X (Nn op) (r2 X.K f))(ho':gJ X (Nn op') (r2 X.K g))(hx:XE X x a)(hy:XE X y b)(hz:XE X z c)(hm:autoParam (lastMarks [op,op'] [y,z]=J) An._auto_1):XE X (.Compare x [op,op'] [y,z] pos) (mCh f g a b c):=⟨AN (ho:=ho) (ho':=ho') (hx:=hx.h) (hy:=hy.h) (hz:=hz.h) (hm:=hm)⟩
theorem xN(ho:gJ X (Nn op) (r2 X.K f))(ho':gJ X (Nn op') (r2 X.K g))(hx:XE X x a)(hy:XE X y b)(hz:XE X z c)(hm:autoParam (lastMarks [op,op'] [y,z]=J) An._auto_1):XT X (.Compare x [op,op'] [y,z] pos) (mB (mCh f g a b c)):=⟨AD (ho:=ho) (ho':=ho') (hx:=hx.h) (hy:=hy.h) (hz:=hz.h) (hm:=hm)⟩
end
section
variable{pos:Pos}{e c:Expr}{st:d3}{rest as bs:List d3}{a b:FS}{m:FE}{t:FT}
theorem qQ:v8 X [] nA:=⟨Dj⟩
theorem qF(h1:XS X st a)(h2:v8 X rest b):v8 X (st::rest) (et a b):=⟨AF (h1:=h1.h) (h2:=h2.h)⟩
theorem qG(h1:XS X st a):v8 X [st] a:=⟨Di (h1:=h1.h)⟩
theorem yX(h:XE X e m)(hs:autoParam (MZ e Y pos.line X.env=pure J) au0):XS X (.Expr e pos) (fQ m):=⟨Dk (h:=h.h) (hs:=hs)⟩
theorem qU(h:XE X e m):XS X (.Return (Z e) pos) (eW m):=⟨Gx (h:=h.h)⟩
theorem qV(hc:XT X c t)(ha:v8 X as a)(hb:v8 X bs b):XS X (.If c as bs pos) (fV t a b):=⟨IS (hc:=hc.h) (ha:=ha.h) (hb:=hb.h)⟩
end
section
variable{pos:Pos}
theorem qO(i:Nat){x:Str}(hN:X.N.Nodup)(hi:X.N[i]?=Z x)(hx:uX X.env.scope x)(hf:autoParam (X.fn x=M\/X.env.scope.names.lookup x=Z .local) au0):XG X (.Name x pos) (gN i):=⟨Dt (i:=i) (hN:=hN) (hi:=hi) (hx:=hx) (hf:=hf)⟩
theorem yZ:Ki X [] jp:=⟨Ds⟩
theorem pR{e:Expr}{es:List Expr}{g:FG}{a:B4}(h1:XG X e g)(h2:Ki X es a)(hs:autoParam ((M3 (e::es) X.env).map (·.2)=M0 e X.env::(M3 es X.env).map (·.2)) au0):Ki X (e::es) (fO g a):=⟨AK (h1:=h1.h) (h2:=h2.h) (hs:=hs)⟩
theorem Cg{es:List Expr}{k:Nat}{a:B4}{n:Nat}(hc:X.calm=M)(h:Ki X es a)(hn:autoParam ((M3 es X.env).length=n) au0)(hst:autoParam ((M3 es X.env).findIdx? (·.1)=Y) au0):XG X (.Tuple es k pos) (gT n a):=⟨GF (hc:=hc) (h:=h.h) (hn:=hn) (hst:=hst)⟩
theorem iG{o i:Expr}{a b:FE}{f:FN}(ho:XE X o a)(hi:XE X i b)(hs:wf X (rU X.K f))(ha:autoParam (∀ v,M0 (.Subscript o i pos) X.env v=(do
   let ov<-M5 [v] (eval o X.env)
   let iv<-M5 [v,ov] (eval i X.env)
   M6 pos
   M5 [v,ov,iv] (setItem ov iv v)
   release [v,ov,iv] [])) du0):XG X (.Subscript o i pos) (gS f a b):=⟨GG (ho:=ho.h) (hi:=hi.h) (hs:=hs) (ha:=ha)⟩
theorem qR{tg e:Expr}{m:FE}{g:FG}(he:XE X e m)(hg:XG X tg g)(hs:autoParam (M9 [tg] e pos.line X.env=pure J) au0)(hw:autoParam (Na [tg] e X.env=pure Y) au0)(h1:autoParam ((M3 [tg] X.env).map (·.2)=[M0 tg X.env]) au0):XS X (.Assign [tg] e pos) (eF m g):=⟨GA (he:=he.h) (hg:=hg.h) (hs:=hs) (hw:=hw) (h1:=h1)⟩
theorem qY(i:Nat){x:Str}{e:Expr}{m:FE}{pos':Pos}(hN:X.N.Nodup)(hi:X.N[i]?=Z x)(hx:uX X.env.scope x)(he:XE X e m)(hs:autoParam (MZ e (Z (.Name x pos')) pos.line X.env=pure J) au0)(hf:autoParam (X.fn x=M\/X.env.scope.names.lookup x=Z .local) au0):XS X (.Assign [.Name x pos'] e pos) (eF m (gN i)):=⟨Gw (i:=i) (hN:=hN) (hi:=hi) (hx:=hx) (he:=he.h) (hs:=hs) (hf:=hf)⟩
theorem Ce(i:Nat){x:Str}{e:Expr}{m:FE}{op:M4}{f:FN}{pos':Pos}(hN:X.N.Nodup)(hi:X.N[i]?=Z x)(hx:uX X.env.scope x)(he:XE X e m)(ho:Kj X op (r2 X.K f))(hf:autoParam (X.fn x=M\/X.env.scope.names.lookup x=Z .local) au0):XS X (.AugAssign (.Name x pos') op e pos) (Dy i f m):=⟨Gz (i:=i) (hN:=hN) (hi:=hi) (hx:=hx) (he:=he.h) (ho:=ho) (hf:=hf)⟩
end
section
theorem kd{X:Cx}{pos:Pos}(n:Nat){c:Expr}{a:List d3}{t:FT}{b:FS}(hp:Nc (Mw X.prog X.w) X.A X.env X.xe)(hc:XT X c t)(hb:v8 X a b):XS X (.While c a [] pos) (sX t b n):=⟨AG (n:=n) (hp:=hp) (hc:=hc.h) (hb:=hb.h)⟩
theorem qW{X:Cx}{pos:Pos}{tg iter:Expr}{a:List d3}{m:FI}{g:FG}{b:FS}(hp:Nc (Mw X.prog X.w) X.A X.env X.xe)(hc:X.calm=M)(hi:XI X tg iter m)(hg:XG X tg g)(hb:v8 X a b)(hs:autoParam (∀x,Nl iter X.env x=pure x) du0):XS X (.For tg iter a [] pos) (fz m g b):=⟨Gy (hp:=hp) (hc:=hc) (hi:=hi.h) (hg:=hg.h) (hb:=hb.h) (hs:=hs)⟩
end
section
variable{es:List Expr}{pos:Pos}{a:FA}
theorem eJ{x1}(h:XA X es a):XE X (.Tuple es x1 pos) (fw a):=⟨GJ (h:=h.h)⟩
theorem fC(h:XA X es a):XE X (.List es pos) (ic a):=⟨GO (h:=h.h)⟩
end
section
variable{tg:Expr}
theorem qd{e:Expr}{m:FE}(h:XE X e m):XI X tg e (gZ m):=⟨GE (h:=h.h)⟩
theorem va {a:Expr}{m:FA}{p pos:Pos}(hg:Gl X "range")(hm:X.mg "range"=Y)(ha:XA X [a] m)(hs:autoParam (dV [a] X.env=[(J,eval a X.env)]) au0):XI X tg (.Call (.Name "range" p) [a] [] pos) (pN m):=⟨ym (hg:=hg) (hm:=hm) (ha:=ha.h) (hs:=hs)⟩
theorem kZ {a b:Expr}{m:FA}{p pos:Pos}(hg:Gl X "range")(hm:X.mg "range"=Y)(ha:XA X [a,b] m)(hs:autoParam (dV [a,b] X.env=[(J,eval a X.env),(J,eval b X.env)]) au0)(hs2:autoParam (dV [b] X.env=[(J,eval b X.env)]) au0):XI X tg (.Call (.Name "range" p) [a,b] [] pos) (Hf m):=⟨yk (hg:=hg) (hm:=hm) (ha:=ha.h) (hs:=hs) (hs2:=hs2)⟩
end
section
variable{tg:Expr}
variable{elts:List Expr}{k:Nat}{tpos:Pos}
theorem yY {a:Expr}{m:FA}{p pos:Pos}(hg:Gl X "enumerate")(hm:X.mg "enumerate"=Y)(ha:XA X [a] m)(hs:autoParam (dV [a] X.env=[(J,eval a X.env)]) au0):XI X (.Tuple elts k tpos) (.Call (.Name "enumerate" p) [a] [] pos) (oR m):=⟨Dr (hg:=hg) (hm:=hm) (ha:=ha.h) (hs:=hs)⟩
theorem Cf {a b:Expr}{m:FA}{p pos:Pos}(hg:Gl X "zip")(hm:X.mg "zip"=Y)(ha:XA X [a,b] m)(hs:autoParam (dV [a,b] X.env=[(J,eval a X.env),(J,eval b X.env)]) au0)(hs2:autoParam (dV [b] X.env=[(J,eval b X.env)]) au0):XI X (.Tuple elts k tpos) (.Call (.Name "zip" p) [a,b] [] pos) (Jg m):=⟨GD (hg:=hg) (hm:=hm) (ha:=ha.h) (hs:=hs) (hs2:=hs2)⟩
end
section
variable{ag:List (dP×Obj)}{σ:L2.St}{H:Hp}{s:dN}{mu:List dP}{S:d7}{K:Fg1}
theorem vd (T:Ty){e:Expr}{m:FE}{nm:Str}{p p2 pos:Pos}(hg:Gl X "isinstance")(hm:X.mg "isinstance"=Y)(hg2:Gl X nm)(hm2:X.mg nm=Y)(hv2:L5 nm=Z (.type T.nm))(h:XE X e m)(hn:autoParam (nm≠"__name__") bu0)(hd:autoParam ((nm == ("__debug__":Str))=J) bu0)(hs1:autoParam (dV [e,.Name nm p2] X.env=(J,eval e X.env)::dV [.Name nm p2] X.env) au0)(hs2:autoParam (dV [.Name nm p2] X.env=(J,eval (.Name nm p2) X.env)::dV [] X.env) au0)(hpl:autoParam ((MR pos (dV [.Name nm p2] X.env)).any (·.1)=J) au0):XE X (.Call (.Name "isinstance" p) [e,.Name nm p2] [] pos) (nC T m):=⟨yo (T:=T) (hg:=hg) (hm:=hm) (hg2:=hg2) (hm2:=hm2) (hv2:=hv2) (h:=h.h) (hn:=hn) (hd:=hd) (hs1:=hs1) (hs2:=hs2) (hpl:=hpl)⟩
end
theorem lm:XO X Y kM:=⟨Dm⟩
theorem ll{e:Expr}{m:FE}(h:XE X e m):XO X (Z e) (ni m):=⟨Dl (h:=h.h)⟩
theorem vc {a:Expr}{m:FA}{d p2 b c:Pos}(hc:X.calm=M)(hg:Gl X "range")(hm:X.mg "range"=Y)(hg2:Gl X "list")(hm2:X.mg "list"=Y)(ha:XA X [a] m)(hs:autoParam (dV [a] X.env=[(J,eval a X.env)]) au0)(hs2:autoParam (dV [.Call (.Name "range" d) [a] [] b] X.env=[(J,eval (.Call (.Name "range" d) [a] [] b) X.env)]) au0):XE X (.Call (.Name "list" p2) [.Call (.Name "range" d) [a] [] b] [] c) (AS m):=⟨yn (hc:=hc) (hg:=hg) (hm:=hm) (hg2:=hg2) (hm2:=hm2) (ha:=ha.h) (hs:=hs) (hs2:=hs2)⟩
theorem qe {o e:Expr}{es:List Expr}{m:FE}{a:FA}{f:FN}{name:Str}{apos cpos:Pos}{id:String}(slot:Slot "list" name id)(hty:typeOf (.builtin id)=pure (.type "method_descriptor"))(hm:HM X id (λx xs H Q=>rN X.K f (x::xs) H Q))(ho:XE X o m)(ha:XA X (e::es) a)(hbase:autoParam (NY o name X.env (eval o X.env)=eval o X.env) au0)(hfew:autoParam (((MR cpos (dV (e::es) X.env)).all (λx=> !x.1)&&(backToKw cpos (NZ [] X.env)).all (λx=>x.1.isSome)&&decide ((e::es).length+([]:List Ny).length+(if([]:List Ny).isEmpty then 0 else 1)<30))=M) au0)(hline:autoParam ((apos.endLine == cpos.line)=M) au0)(hs:autoParam (dV (e::es) X.env=(J,eval e X.env)::dV es X.env) au0)(hplain:autoParam ((MR cpos (dV es X.env)).any (·.1)=J) au0):XE X (.Call (.Attribute o name apos) (e::es) [] cpos) (nB f m a):=⟨AM (slot:=slot) (hty:=hty) (hm:=hm) (ho:=ho.h) (ha:=ha.h) (hbase:=hbase) (hfew:=hfew) (hline:=hline) (hs:=hs) (hplain:=hplain)⟩
theorem LR (i:Nat){x:Str}{pos:Pos}(hN:autoParam (X.N[i]?=Z x) au0)(hv:autoParam (Vis X.env.scope x) au0)(hd:autoParam ((x == ("__debug__":Str))=J) bu0)(hcd:autoParam ((x == ("__classdict__":Str))=J) bu0):XE X (.Name x pos) (mV i):=⟨mv (i:=i) (hN:=hN) (hv:=hv) (hd:=hd) (hcd:=hcd)⟩
section
theorem qH {X:Cx}{k k' n:Nat}{x:Str}{m:FN}{p pos:Pos}{e:Expr}{es:List Expr}{a:FA}(h:Own X.prog X.w X.K X.mg X.base k x n m)(hr:gl k' X.A)(hk:k<=k')(hg:Gl X x)(ha:XA X (e::es) a)(hdb:autoParam ((x == ("__debug__":Str))=J) bu0)(he:autoParam (dV (e::es) X.env=(J,eval e X.env)::dV es X.env) au0)(hpl:autoParam ((MR pos (dV es X.env)).any (·.1)=J) au0):XE X (.Call (.Name x p) (e::es) [] pos) (mN (ea n m) a):=⟨GK (h:=h) (hr:=hr) (hk:=hk) (hg:=hg) (ha:=ha.h) (hdb:=hdb) (he:=he) (hpl:=hpl)⟩
end
structure Lc (X:Cx)(K:Fg1)(tg:Expr)(ifs:List Expr)(elt:Expr)(g:FG)(t:FT)(e:FE):Prop where
 g:XG X tg g
 t:XF X K ifs t
 e:XE X elt e
structure My (X:Cx)(K:Fg1)(tg:Expr)(ifs:List Expr)(tg2 iter2:Expr)(ifs2:List Expr)(elt:Expr)(g:FG)(t:FT)(m2:FI)(g2:FG)(t2:FT)(e:FE):Prop where
 g:XG X tg g
 t:XF X K ifs t
 i2:XI X tg2 iter2 m2
 g2:XG X tg2 g2
 t2:XF X K ifs2 t2
 e:XE X elt e
theorem wl{P:dQ}{w:dS}{K:Fg1}{mg:Str->Option dM}{base:dZ}{x c:Str}{st:d3}{f:dP}{fd:d2}{N ps:List Str}{k n:Nat}{b:FS}(F:xK K x c st f fd)(hb:kb K fd ps [])(hm:mg x=some (.ref f))(S:gR N ps (eB st))(hn:ps.length=n)(e:∀(d:dM) (A:dR) (a:List Env) (s:dN) (H:Hp) (E:XK),gl k (A.deeper (NA c (eB st) s.heap.objs.size f d)) ->
   v8 (nE uY P w K mg base N c (eB st) f d A a s H E).nox (fK st) b):Own P w K mg base (k+1) x n (iC N.length b):=
 Gg F hb hm S hn λd A a s H E g=>(e d A a s H E g).h
theorem EV{P:dQ}{w:dS}{K:Fg1}{mg:Str->Option dM}{base:dZ}{x c:Str}{st:d3}{f:dP}{fd:d2}{N ps:List Str}{k n:Nat}{b:FS}(F:xK K x c st f fd)(S:gR N ps (eB st))(hn:ps.length=n)(e:∀(d:dM) (A:dR) (a:List Env) (s:dN) (H:Hp) (E:XK),gl k (A.deeper (NA c (eB st) s.heap.objs.size f d)) ->
   v8 (nE uY P w K mg base N c (eB st) f d A a s H E).nox (fK st) b):m3 P w K mg base uY (k+1) f fd ps (spM K n (iC N.length b)):=by
 subst hn;exact Jt F S λd A a s H E g=>(e d A a s H E g).h
abbrev FV:=Ev->d7->Option (List D×Ev×d7)
noncomputable def fM (c:List (Nat×List D))(g:FG)(t:FT)(b:FV):List D->FV
 |[]=>λr S=>if pC S c=true then some ([],r,S)else none
 |d::ds=>λr S=>if pC S c=true then(g d r S).bind λp=>(t p.1 p.2).bind λk=>if k.1=true then(b p.1 k.2).bind λq=>(fM c g t b ds q.2.1 q.2.2).map λz=>(q.1++z.1,z.2)else fM c g t b ds p.1 k.2 else none
noncomputable def eR (m:FE):FV:=λr S=>(m r S).map λq=>([q.1],r,q.2)
def uA(m:FI)(g:FG)(t:FT)(b:FV):FV:=λr S=>(m r S).bind λp=>fM p.1.chk g t b p.1.items r p.2
noncomputable def eZ (k:Nat)(keep:List Nat)(m:FI)(g:FG)(t:FT)(b:FV):FE:=λr S=>(m r S).bind λp=>
 (fM p.1.chk g t b p.1.items (vP k keep r) p.2).bind λq=>if q.1.length<=dW then some (.ref q.2.2.length,q.2.2++[.lst q.1])else none
section
variable{K:Fg1}{H H' H1:Hp}{mu mu' mu1:List dP}{S:d7}{a:dP}
theorem Ext.aside(x:Ext mu mu' H H'):Ext (a::mu) (a::mu') H H' where
 pre:=bY.mpr ⟨O,x.pre⟩
 old:=λb o h n=>x.old b o h λz=>n (mC1 _ z)
 tup:=x.tup
 frz:=x.frz
 new:=λb h=>by
  rcases aF.mp h with h|h
  ·exact .inl (by rw[h];exact mS1)
  ·rcases x.new b h with q|q
   ·exact .inl (mC1 _ q)
   ·exact .inr q
theorem Ext.inner(x:Ext (a::mu) (a::mu') H H'):sP mu mu' H H':=⟨(bY.mp x.pre).2,x.tup,x.frz⟩
theorem Ext.held{o:HO}(x:Ext mu mu' H H')(ha:H a=Z o)(hn:a∉mu):H' a=Z o/\a∉mu':=by
 refine⟨x.old a o ha hn,λz=>?_⟩;rcases x.new a z with q|q
 ·exact hn q
 ·rw[ha]at q;cases q
theorem fN.exw{r:Ev}{σ:L2.St}(e:sP mu mu' H H')(h:fN K H mu r σ):fN K H' mu' r σ:=⟨h.len,λi d q=>by
 obtain⟨v,b,a⟩:=h.val i d q;exact⟨v,b,a.exw e⟩⟩
theorem nw.exw{b:dP}(e:sP mu mu' H H')(h:∀o,H b=Z o->H' b=Z o):∀{o:Ob},nw K H mu b o->nw K H' mu' b o
 | .lst _,⟨vs,q,r⟩=>⟨vs,h _ q,r.exw e⟩
 | .dct _,⟨ws,q,r⟩=>⟨ws,h _ q,Paired.mapP r λ_ _ z=>⟨z.1,z.2.exw e⟩⟩
 | .dcT _,⟨ws,q,r,l⟩=>⟨ws,h _ q,Paired.mapP r λ_ _ ⟨z,d,k,v,a,r⟩=>⟨z,d,k.exw e,v,a,r.exw e⟩,l⟩
 | .iset _,q=>⟨h _ q.1,q.2⟩
 | .dcF _,⟨ws,⟨o,u,f,c⟩,r,l⟩=>⟨ws,⟨o,u,h _ f,c⟩,Paired.mapP r λ_ _ ⟨z,d,k,v,a,r⟩=>⟨z,d,k.exw e,v,a,r.exw e⟩,l⟩
 | .tst _,⟨ws,q,r⟩=>⟨ws,h _ q,Paired.mapP r λ_ _ ⟨z,d,k,v,a,r⟩=>⟨z,d,k.exw e,v,a,r.exw e⟩⟩
theorem Sim.aside{u:HO}(s:Sim K H mu S)(e:sP mu mu H (upd H a u))(hn:a∉mu):Sim K (upd H a u) mu S:=
 ⟨s.len,s.nd,λk o b h1 h2=>(s.ob k o b h1 h2).exw e λo' q=>by rw[eD (λz=>hn (by rw[<- z];exact gM1 h2))];exact q⟩
end
inductive HP (K:Fg1)(a:dP)(m:FV)(E:jt)(σ:L2.St)(H:Hp):Prop
 |mk (r:Ev) (mu:List dP) (S:d7) (acc:List D) (vs:List V) (xs:List D) (r':Ev) (S':d7):H a=some (.lst vs)->a∉mu->ej K H mu acc vs->fN K H mu r σ->Sim K H mu S->m r S=some (xs,r',S')->vs.length+xs.length<=dW ->
 (∀ σ' H' mu' vs',Ext (a::mu) (a::mu') H H'->H' a=some (.lst vs')->a∉mu'->ej K H' mu' (acc++xs) vs'->fN K H' mu' r' σ'->Sim K H' mu' S'->E.nx σ' H')->HP K a m E σ H
theorem oY{K:Fg1}{a:dP}{m:FE}{E:jt}{σ:L2.St}{H:Hp}(h:HP K a (eR m) E σ H):s7 a (tM K m) E σ H:=by
 obtain⟨r,mu,S,l,vs,xs,u,w,k,f,j,i,p,g,q,hc⟩:=h;obtain⟨⟨d,o⟩,t,g⟩:=PD g;cases g;refine⟨r,mu,S,d,o,i,p,t,λv H1 mu1 e s n=>?_⟩;obtain⟨b,c⟩:=e.held k f;have put:Ext (a::mu1) (a::mu1) H1 (upd H1 a (.lst (vs++[v]))):=Ext.put b trivial mS1;refine⟨vs,b,q,?_⟩;exact hc σ _ mu1 (vs++[v]) (e.aside.trans put) eI c (((j.ext e).append (.cons s .nil)).exw put.inner) ((i.ext e).exw put.inner) (n.aside put.inner c)
inductive Lj (K:Fg1)(a:dP)(mu2:List dP)(H:Hp)(c:List (Nat×List D))(g:FG)(t:FT)(b:FV)(r':Ev)(S':d7)(tot:List D)(L:List D)(σ':L2.St)(H':Hp):Prop
 |mk (r3:Ev) (mu3:List dP) (S3:d7) (acc3:List D) (vs3:List V) (xs3:List D):Ext (a::mu2) (a::mu3) H H'->H' a=some (.lst vs3)->a∉mu3->ej K H' mu3 acc3 vs3->fN K H' mu3 r3 σ'->Sim K H' mu3 S3->fM c g t b L r3 S3=some (xs3,r',S')->acc3++xs3=tot->vs3.length+xs3.length<=dW->Lj K a mu2 H c g t b r' S' tot L σ' H'
theorem ub{K:Fg1}{a:dP}{j:It}{am:yQ}{g:FG}{t:FT}{b:FV}{tb:TS}{D:jt}(hb:∀ E σ H,HP K a b E σ H->tb E σ H){mu1 e:List dP}{H1 H:Hp}{r L:Ev}{S ao:d7}{σ:L2.St}{acc xs:List Mi.D}{vs:List V}(hJ:Lk K j am mu1 H1)(x:sP mu1 e H1 H)(ha:H a=Z (.lst vs))(hna:a∉e)(hr:ej K H e acc vs)(he:fN K H e r σ)(hs:Sim K H e S)(hm:fM am.chk g t b am.items r S=Z (xs,L,ao))(hl:vs.length+xs.length<=dW)(hc:∀l H' mu' B,Ext (a::e) (a::mu') H H'->H' a=Z (.lst B)->a∉mu'->ej K H' mu' (acc++xs) B->fN K H' mu' L l->Sim K H' mu' ao->D.nx l H'):zz j (Fd K g) (zy K t) tb D σ H:=by
 refine⟨λi k l H'=>k=(am.items.drop i).length/\Lj K a e H am.chk g t b L ao (acc++xs) (am.items.drop i) l H',
  ⟨_,O,r,e,S,acc,vs,xs,.refl _ _,ha,hna,hr,he,hs,hm,O,hl⟩,?_⟩
 rintro i k σ3 U ⟨rfl,r3,m,S3,f,vs3,xs3,I,u,w,F,s,W,c,o,h⟩;cases hd0:am.items.drop i with
 |nil=>
  left;rw[hd0,fM]at c;dsimp only at c;split at c
  ·rename_i ok;cases c;refine⟨(hJ i U m _ (x.trans I.inner) W ok).2 (List.drop_eq_nil_iff.mp hd0),hc σ3 U m vs3 I u w ?_ s W⟩;rw[<- o,aP];exact F
  ·cases c
 |cons d ds=>
  right;rw[hd0]at c;obtain⟨hi,hd⟩:=nl hd0;rw[fM]at c;dsimp only at c;split at c
  ·rename_i ok;obtain⟨⟨N,S4⟩,e4,c⟩:=PC c;obtain⟨⟨k5,Q⟩,e5,c⟩:=PC c;obtain⟨go,yl⟩:=(hJ i U m _ (x.trans I.inner) W ok).1 d hi;refine⟨go,Lj K a e H am.chk g t b L ao (acc++xs) ds,?_,λy H4 yy=>?_⟩
   ·intro l H' h6;exact⟨ds.length,bE _,(congrArg List.length hd).symm,hd.symm ▸ h6⟩
   ·obtain⟨G,s4,q4⟩:=yl y H4 yy;obtain⟨ha4,hn4⟩:=G.held u w;refine⟨r3,m,S3,d,N,S4,s.ext G,s4,q4,e4,fun σ5 H5 aq T n s5=>?_⟩;obtain⟨wq,hn5⟩:=T.held ha4 hn4;refine⟨N,aq,S4,k5,Q,n,s5,e5,λH6 q A s6=>?_⟩;obtain⟨C,z⟩:=A.held wq hn5;have xx:=((I.trans G.aside).trans T.aside).trans A.aside;have p:ej K H6 q f vs3:=((F.ext G).ext T).ext A;cases k5 with
    |true=>
     obtain⟨⟨q1,r7,S7⟩,e7,c⟩:=PC c;obtain⟨⟨z1,r8,S8⟩,e8,c⟩:=PD c;cases c;refine hb _ _ _ ⟨N,q,Q,f,vs3,q1,r7,S7,C,z,p,n.ext A,s6,e7,?_,fun σ8 H8 P au x8 R hn8 v X s8=>⟨r7,P,S7,f++q1,au,z1,xx.trans x8,R,hn8,v,X,s8,e8,?_,?_⟩⟩
     ·rw[lA1]at h;dsimp only at h;lia
     ·rw[<- o,bJ]
     ·have:=v.length;have h3:=p.length;rw[lA1]at this h;dsimp only at h;lia
    |false=>exact⟨N,q,Q,f,vs3,xs3,xx,C,z,p,n.ext A,s6,c,o,h⟩
  ·cases c
theorem AA{K:Fg1}{a:dP}{m:FI}{g:FG}{t:FT}{b:FV}{tb:TS}(hb:∀E σ H,HP K a b E σ H->tb E σ H){E:jt}{σ:L2.St}{H:Hp}(h:HP K a (uA m g t b) E σ H):zx (Ie K m) (Fd K g) (zy K t) tb E σ H:=by
 obtain⟨r,mu,S,q,vs,xs,A,B,u,f,p,n,v,e,y,hc⟩:=h;obtain⟨⟨am,s⟩,w,e⟩:=PC e;refine⟨r,mu,S,am,s,n,v,w,λj H1 mu1 c o x=>?_⟩;obtain⟨d,l⟩:=c.held u f;exact ub hb o (Ext.refl _ _).w d l (p.ext c) (n.ext c) x e y λk H' mu' i z=>hc k H' mu' i (c.aside.trans z)
theorem pf{K:Fg1}{k:Nat}{keep:List Nat}{m:FI}{g:FG}{t:FT}{b:FV}{tb:dP->TS}(hb:∀ a E σ H,HP K a b E σ H->tb a E σ H){σ:L2.St}{H:Hp}{Q:VK}(h:tM K (eZ k keep m g t b) σ H Q):
  zA k keep (Ie K m) (Fd K g) (zy K t) tb σ H Q:=by
 obtain⟨r,mu,S,d,aq,I,U,f,hc⟩:=h;obtain⟨⟨am,T⟩,V,f⟩:=PC f;obtain⟨⟨xs,r2,L⟩,P,f⟩:=PC f;dsimp only at f;split at f
 ·rename_i X;cases f;refine ⟨r,mu,S,am,T,I,U,V,fun j H1 mu1 F au N p i=>?_⟩;have w:Ext mu1 mu1 H1 (upd H1 p (.lst [])):=Ext.fresh i;refine ub (hb p) au w.w eI (N.notin i) .nil ((Jf k keep (I.ext F)).ext w) (N.fresh i) P (by simpa using X) fun W H' mu' s v D A x R s'=>?_;have y:Ext mu1 (mu'++[p]) H1 H':=by
   refine⟨((bY.mp v.pre).2).trans (bw _ _),λb o e n=>?_,λb ys e=>v.tup b ys (w.tup b ys e),λb o u e=>v.frz b o u (w.frz b o u e),λb C=>?_⟩
   ·have ao:b≠p:=eN e i;exact v.old b o (by rw [eD ao];exact e) fun z=>by
     rcases aF.mp z with z|z
     ·exact ao z
     ·exact n z
   ·rcases aG.mp C with z|z
    ·rcases v.new b (mC1 _ z)with q|q
     ·rcases aF.mp q with q|q
      ·exact .inr (by rw[q];exact i)
      ·exact .inl q
     ·by_cases l:b=p
      ·exact .inr (by rw[l];exact i)
      ·rw[eD l]at q;exact .inr q
    ·have:b=p:=by simpa using z
     exact .inr (by rw[this];exact i)
  refine hc _ H' (mu'++[p]) (F.trans y) (.ref (gA s'.len p)) ⟨by rw[lA1,lA1,s'.len];rfl,?_,λn o b h1 h2=>?_⟩
  ·rw[bB];refine⟨s'.nd,by simp,λb hb c hc e=>?_⟩;have:c=p:=by simpa using hc
   subst this;subst e;exact A hb
  ·by_cases G:n<L.length
   ·rw[gL1 G]at h1;rw[gL1 (by rw[s'.len];exact G)]at h2;exact(s'.ob n o b h1 h2).mor [p]
   ·have B:n=L.length:=by
     have:=(PB h1).1;rw[lA1]at this;simp at this;lia
    subst B;rw[gR1 (nR1 _)]at h1;rw[<- s'.len,gR1 (nR1 _)]at h2;simp at h1 h2;subst h1;subst h2;exact⟨s,D,(by simpa using x:ej K H' mu' xs s).mor [p]⟩
 ·cases f
theorem qZ{elt tg iter:Expr}{ifs:List Expr}{scope:d4}{pos:Pos}{T:List Str}{keep:List Nat}{f:List (Str×dP)}{m:FI}{g:FG}{t:FT}{e:FE}(hc:X.calm=M)(C:HS X scope T keep)(c:jW X.env.cells scope.names []=Z f)(hi:XI X tg iter m)(hb:∀s H fp,Lc (cxC X scope f T keep s H fp) X.K tg ifs elt g t e)(hs:autoParam (∀x,Nl iter X.env x=pure x) du0):XE X (.ListComp elt [⟨tg,iter,ifs,0⟩] scope pos) (eZ T.length keep m g t (eR e)):=
 ⟨ff (C4 (emit:=oZ elt) (tb:=λp=>s7 p (tM X.K e)) hc (λit d b=>zp elt tg iter ifs scope pos it d b) C c hi.h (λs H fp p=>⟨(hb s H fp).g.h,(hb s H fp).t.h,rA (hb s H fp).e.h p⟩) hs)
  fun σ H Q h=>pf (λa E σ H q=>oY q) h⟩
theorem kf{elt tg iter:Expr}{ifs:List Expr}{scope:d4}{pos b l:Pos}{y:Str}(i:Nat){T:List Str}{keep:List Nat}{k:List (Str×dP)}{m:FI}{g:FG}{t:FT}{e:FE}(hc:X.calm=M)(C:HS X scope T keep)(j:jW X.env.cells scope.names []=Z k)(hi:XI X tg iter m)(hb:∀s H fp,Lc (cxC X scope k T keep s H fp) X.K tg ifs elt g t e)(hN:X.N.Nodup)(hy:X.N[i]?=Z y)(hx:uX X.env.scope y)(d:autoParam (MZ (.ListComp elt [⟨tg,iter,ifs,0⟩] scope pos) (Z (.Name y l)) b.line X.env=pure M) au0)(hf:autoParam (X.fn y=M\/X.env.scope.names.lookup y=Z .local) au0)(hs:autoParam (∀x,Nl iter X.env x=pure x) du0):XS X (.Assign [.Name y l] (.ListComp elt [⟨tg,iter,ifs,0⟩] scope pos) b) (eF (eZ T.length keep m g t (eR e)) (gN i)):=
 ⟨im (wE (emit:=oZ elt) (tb:=λp=>s7 p (tM X.K e)) hc d (λit c f=>zp elt tg iter ifs scope pos it c f) C j hi.h (λs H fp p=>⟨(hb s H fp).g.h,(hb s H fp).t.h,rA (hb s H fp).e.h p⟩) hN hy hx hf hs)
  λE σ H h=>BU (fun σ H Q q=>pf (λa E σ H q=>oY q) q) h⟩
theorem xR{elt tg iter tg2 iter2:Expr}{ifs ifs2:List Expr}{scope:d4}{pos b o:Pos}{y:Str}(i:Nat){T:List Str}{keep:List Nat}{d:List (Str×dP)}{m m2:FI}{g k:FG}{t l:FT}{e:FE}(hc:X.calm=true)(C:HS X scope T keep)(n:jW X.env.cells scope.names []=some d)(hi:XI X tg iter m)(hb:∀s H fp,My (cxC X scope d T keep s H fp) X.K tg ifs tg2 iter2 ifs2 elt g t m2 k l e)(hN:X.N.Nodup)(hy:X.N[i]?=some y)(hx:uX X.env.scope y)(j:autoParam (MZ (.ListComp elt [⟨tg,iter,ifs,0⟩,⟨tg2,iter2,ifs2,0⟩] scope pos) (some (.Name y o)) b.line X.env=pure true) au0)(hf:autoParam (X.fn y=true\/X.env.scope.names.lookup y=some .local) au0)(hs:autoParam (∀x,Nl iter X.env x=pure x) du0)(hs2:∀c x,Nl iter2 c x=pure x:=by intro _ _;rfl):
  XS X (.Assign [.Name y o] (.ListComp elt [⟨tg,iter,ifs,0⟩,⟨tg2,iter2,ifs2,0⟩] scope pos) b) (eF (eZ T.length keep m g t (uA m2 k l (eR e))) (gN i)):=
 ⟨im (wE (emit:=qr (.ListComp elt [⟨tg,iter,ifs,0⟩,⟨tg2,iter2,ifs2,0⟩] scope pos) iter2) (tb:=fun p=>zx (Ie X.K m2) (Fd X.K k) (zy X.K l) (s7 p (tM X.K e))) hc j (fun it f c=>E4 elt tg iter tg2 iter2 ifs ifs2 scope pos it f c) C n hi.h
   (λs H fp p=>⟨(hb s H fp).g.h,(hb s H fp).t.h,CM (X:=cxC X scope d T keep s H fp) O hc (hb s H fp).i2.h (hb s H fp).g2.h (hb s H fp).t2.h (rA (hb s H fp).e.h p) (hs2 _)⟩) hN hy hx hf hs)
  λE σ H h=>BU (fun σ H Q q=>pf (λa E σ H q=>AA (λ_ _ _ z=>oY z) q) q) h⟩
noncomputable def kB:D->Option Key
 | .int i=>Z (.inl i)
 | .str x=>Z (.inr x)
 |_=>Y
noncomputable def ef{κ:Type}[DecidableEq κ](kvs:List (κ×D))(k:κ):Option D:=(kvs.find? λp=>decide (p.1=k)).map (·.2)
noncomputable def fT{κ:Type}[DecidableEq κ](kvs:List (κ×D))(k:κ)(d:D):List (κ×D):=
 if(kvs.any λp=>decide (p.1=k))=M then kvs.map (λp=>if p.1=k then(p.1,d)else p)else kvs++[(k,d)]
section
variable{K:Fg1}{H:Hp}{mu:List dP}
theorem kr{d:D}{v:V}{k:Key}(r:fc K H mu d v)(h:kB d=Z k):v=kV k:=by
 cases r with
 |int i=>cases h;rfl
 |str x=>cases h;rfl
 |_=>cases h
end
section
variable{κ:Type} [DecidableEq κ] {K:Fg1}{H:Hp}{mu:List dP}
theorem KR.length:∀{ks:List (κ×D)} {ws:List (κ×V)},KR K H mu ks ws->ks.length=ws.length:=λh=>Paired.length h
theorem KR.look{k:κ}:∀ {ks:List (κ×D)} {ws:List (κ×V)},KR K H mu ks ws ->
  (∀d,ef ks k=Z d -> ∃v,hA ws k=Z v/\fc K H mu d v)/\(ef ks k=Y->hA ws k=Y):=by
 intro ks ws h
 induction h with
 |nil=>exact⟨λd h=>by simp[ef]at h,λ_=>rfl⟩
 | @cons p q ks ws r t ih=>
  obtain⟨b,f⟩:=p;obtain⟨j,c⟩:=q;obtain⟨e,r⟩:=r;dsimp only at e r;subst e;obtain⟨h1,h2⟩:=ih;by_cases a:b=k
  ·subst a;refine⟨λd h=>?_,λh=>?_⟩
   ·have:f=d:=by simpa[ef]using h
    subst this;exact⟨c,by simp[hA],r⟩
   ·simp[ef]at h
  ·have i:ef ((b,f)::ks) k=ef ks k:=by simp[ef,bd,a]
   have g:hA ((b,c)::ws) k=hA ws k:=by simp[hA,bd,a]
   rw[i,g];exact⟨h1,h2⟩
theorem KR.any{k:κ}:∀{ks:List (κ×D)} {ws:List (κ×V)},KR K H mu ks ws->(ks.any λp=>decide (p.1=k))=ws.any λp=>decide (p.1=k):=by
 intro ks ws h
 induction h with
 |nil=>rfl
 |cons r t ih=>rw[bf,bf,ih,r.1]
theorem KR.repl{k:κ}{d:D}{v:V}(q:fc K H mu d v):∀ {ks:List (κ×D)} {ws:List (κ×V)},KR K H mu ks ws ->
  KR K H mu (ks.map λp=>if p.1=k then(p.1,d)else p) (ws.map λp=>if p.1=k then(p.1,v)else p):=by
 intro ks ws h
 induction h with
 |nil=>exact .nil
 | @cons a b ks ws r t ih=>
  refine .cons ?_ ih;obtain⟨e,r⟩:=r;dsimp only;by_cases h:a.1=k
  ·rw[ak h,ak (e ▸ h)];exact⟨e,q⟩
  ·rw[aj h,aj (e ▸ h)];exact⟨e,r⟩
theorem KR.snoc{k:κ}{d:D}{v:V}(q:fc K H mu d v):∀{ks:List (κ×D)} {ws:List (κ×V)},KR K H mu ks ws->KR K H mu (ks++[(k,d)]) (ws++[(k,v)]):=by
 intro ks ws h
 induction h with
 |nil=>exact .cons ⟨O,q⟩ .nil
 |cons r t ih=>exact .cons r ih
theorem KR.put{k:κ}{d:D}{v:V}(q:fc K H mu d v){ks:List (κ×D)}{ws:List (κ×V)}(h:KR K H mu ks ws):KR K H mu (fT ks k d) (hO ws k v):=by
 unfold fT hO;rw[h.any];split
 ·exact h.repl q
 ·exact h.snoc q
end
def Jq:G2:=λd e S=>match e with
 | .ref n=>match S[n]? with
  |some (.dct kvs)=>(kB d).map λk=>(.bl (ef kvs k).isSome,S)
  |_=>Lz d e S
 |_=>Lz d e S
def iJ:G2:=λd e S=>match e with
 | .ref n=>match S[n]? with
  |some (.dct kvs)=>(kB d).map λk=>(.bl (!(ef kvs k).isSome),S)
  |_=>mU d e S
 |_=>mU d e S
def mh:G2:=λd e S=>match d with
 | .ref n=>match S[n]? with
  |some (.dct kvs)=>(kB e).bind λk=>(ef kvs k).map λx=>(x,S)
  |_=>xi d e S
 |_=>xi d e S
def jo:G3:=λo i v S=>match o with
 | .ref n=>match S[n]? with
  |some (.dct kvs)=>(kB i).bind λk=>if kvs.length<dW then Z (.non,S.set n (.dct (fT kvs k v)))else Y
  |_=>k8 o i v S
 |_=>k8 o i v S
theorem oI{K:Fg1}{H:Hp}{mu:List dP}{S:d7}(hs:Sim K H mu S){n:Nat}{a:dP}{kvs:List (Key×D)}{k:Key}{y:V}(hn:mu[n]? = some a)(he:S[n]? = some (.dct kvs))(hy:y=kV k):
  ∃o:Option V,pB H a y o/\(∀d,ef kvs k=Z d -> ∃v,o=Z v/\fc K H mu d v)/\(ef kvs k=Y->o=Y)/\o.isSome=(ef kvs k).isSome:=by
 obtain⟨ws,f,c⟩:=hs.dct he hn;subst hy;obtain⟨h1,h2⟩:=c.look (k:=k);refine⟨hA ws k,pB.k f,h1,h2,?_⟩;cases e:ef kvs k with
 |none=>rw[h2 e];rfl
 |some d=>obtain⟨v,b,_⟩:=h1 d e;rw[b];rfl
theorem Aw(t:X.A.units+64<Nv):gJ X (Nn .NotIn) (r2 X.K (b2 iJ)):=by
 intro ag s σ H x y u w Q I i f h;obtain⟨mu,S,d,e,r,j,l,b,c,a,hc⟩:=u4 h;have back:mU d e S=Z (r,j)->dX (Mw X.prog X.w) X.A (Nn .NotIn u w) (EP X ag σ Q) X.xe s:=λa=>Dc t ag s σ H x y u w Q I i f ⟨mu,S,[d,e],r,j,.cons l (.cons b .nil),c,a,hc⟩;unfold iJ at a;split at a
 ·rename_i n;split at a
  ·rename_i kvs m;obtain⟨k,v,a⟩:=PD a;cases a;cases b with
   |ref q=>
    cases f;obtain⟨o,g,_,_,hi⟩:=oI c q m (kr l v);exact Ec (by lia) I g i λs' p=>⟨.bl (!o.isSome),H,p,O,by rw[hi];exact hc.now (.bl _) c⟩
  ·exact back a
 ·exact back a
theorem HU(P:X.A.units+64<Nv):EU X (r2 X.K (b2 mh)):=by
 intro value b ag s σ H x y v u Q I t B h l;obtain⟨mu,S,d,e,r,C,A,j,p,c,hc⟩:=u4 h;have back:xi d e S=Z (r,C)->dX (Mw X.prog X.w) X.A (NU value b v u) (EP X ag σ Q) X.xe s:=λc=>Kn value b ag s σ H x y v u Q I t B ⟨mu,S,[d,e],r,C,.cons A (.cons j .nil),p,c,hc⟩ l;unfold mh at c;split at c
 ·rename_i n;split at c
  ·rename_i kvs au;obtain⟨k,ao,c⟩:=PC c;obtain⟨z,N,c⟩:=PD c;cases c;cases A with
   | @ref _ a G=>
    cases t;obtain⟨o,g,h1,_,_⟩:=oI p G au (kr j ao);obtain⟨D,E,L⟩:=h1 _ N;subst E;have w:=uG I g;unfold NU;refine wB1 ?_;rw[getitemInPython_of_ne w.not_modules];refine wB1 (OJ w PySem.F.slot_dict_getitem.lookup ?_);have i:dX (Mw X.prog X.w) X.A (subscripted b J (.ref a) u) (λr f=>dX (Mw X.prog X.w) X.A (letTemporaryGo value (.ref a) r >>= λ_=>pure r) (EP X ag σ Q) X.xe f) X.xe s:=by
     rw[l];exact wpAny_operating (MU (yG (by lia) I g B λF am K q=>(⟨D,H,K,q,hc.now L p⟩:EP X ag σ Q F am)) (λr f m=>wB1 (wpAny_letTemporaryGo (wP1 m))) λ_ _ x=>x)
    first
     |exact wP1 (wB1 i)
     |exact wB1 i
     |exact i
  ·exact back c
 ·exact back c
theorem Fw(L:X.A.units+64<Nv):wf X (rU X.K (b3 jo)):=by
 intro ag s σ H o i v p j u Q I l y t h;obtain⟨mu,S,ds,d,x,C,c,a,hc⟩:=id h;cases C with
 |cons w F=>cases F with
  |cons z A=>cases A with
   |cons q D=>
    cases D;rename_i r g f;dsimp only[b3]at a;have back:k8 r g f S=Z (d,x)->dX (Mw X.prog X.w) X.A (setItem p j u) (λ_ s'=>∃H',Inv X ag σ H' s'/\Q H') X.xe s:=λa=>Im ag s σ H o i v p j u Q I l y t ⟨mu,S,[r,g,f],d,x,.cons w (.cons z (.cons q .nil)),c,a,hc⟩;unfold jo at a;split at a
    ·rename_i n;split at a
     ·rename_i kvs K;obtain⟨k,am,a⟩:=PC a;split at a
      ·rename_i G;cases a;cases w with
       |ref b=>
        cases l;obtain⟨ws,e,m⟩:=c.dct K b;have B:=kr z am;subst B;refine yF (by lia) I (yR.k e (by rw[<- m.length];exact G)) y t λs' E=>⟨_,E,?_⟩;have put:Ext mu mu H (upd H _ (.dK (hO ws k v))):=Ext.put e trivial (gM1 b);exact hc _ mu put (c.put b e trivial ⟨_,eI,(m.put q).ext put⟩)
      ·cases a
     ·exact back a
    ·exact back a
def Hl:G2:=λd e S=>match e with
 | .non=>Z (.bl (w5 d),S)
 | .bl b=>match d with
  | .bl c=>Z (.bl (c == b),S)
  |_=>Y
 |_=>Y
theorem IL:gJ X (Nn .Is) (r2 X.K (b2 Hl)):=by
 intro ag s σ H x y u w Q I i g h;obtain⟨mu,S,d,e,r,l,k,a,j,f,hc⟩:=u4 h;cases e with
 |non=>exact IM ag s σ H x y u w Q I i g ⟨mu,S,[d,.non],r,l,.cons k (.cons a .nil),j,f,hc⟩
 |bl b=>
  cases d with
  |bl c=>
   cases f;cases k;cases a;cases i;cases g;exact is_bool ⟨.bl (c == b),H,I,O,hc.now (.bl _) j⟩
  |_=>cases f
 |_=>cases f
noncomputable def l8:FE:=λ_ S=>Z (.ref S.length,S++[.dct []])
theorem ln{pos:Pos}:XE X (.Dict [] [] pos) l8:=⟨ff Al <| by
 rintro σ H Q ⟨r,mu,S,d,e,f,a,c,hc⟩ p b;cases c;exact hc _ _ (mu++[p]) (Ext.new_ b) (.ref (gA a.len p)) (a.new b ⟨[],eI,.nil⟩)⟩
noncomputable def GV:List (FE×FE)->Ev->d7->Option (List (D×D)×d7)
 |[],_,S=>Z ([],S)
 |(a,b)::l,r,S=>(a r S).bind λp=>(b r p.2).bind λq=>(GV l r q.2).map λt=>((p.1,q.1)::t.1,t.2)
def Bb:List (D×D)->Option (List (Key×D))
 |[]=>Z []
 |(k,d)::l=>(kB k).bind λk=>(Bb l).map λt=>(k,d)::t
def wR(l:List (FE×FE)):FE:=λr S=>(GV l r S).bind λp=>(Bb p.1).bind λkvs=>if kvs.length<=15 then Z (.ref p.2.length,p.2++[.dct (kvs.foldl (λacc kv=>fT acc kv.1 kv.2) [])])else Y
structure XP (X:Cx)(pos:Pos)(ks:List (Option Expr))(vs:List Expr)(l:List (FE×FE)):Prop where
 h:JP X pos ks vs (l.map λp=>(tM X.K p.1,tM X.K p.2))
theorem wm{pos:Pos}:XP X pos [] [] []:=⟨CT⟩
theorem sS{pos:Pos}{k v:Expr}{ks:List (Option Expr)}{vs:List Expr}{a b:FE}{l:List (FE×FE)}(hk:XE X k a)(hv:XE X v b)(t:XP X pos ks vs l):XP X pos (Z k::ks) (v::vs) ((a,b)::l):=⟨z0 hk.h hv.h t.h⟩
theorem zZ{K:Fg1}{σ:L2.St}:∀ {l:List (FE×FE)} {r:Ev} {mu:List dP} {H:Hp} {S e:d7} {ps:List (D×D)} {Q:List (V×V)->Hp->Prop},fN K H mu r σ->Sim K H mu S->GV l r S=some (ps,e) ->
  (∀vs H' mu',Ext mu mu' H H'->Paired (λ(p:D×D) (q:V×V)=>fc K H' mu' p.1 q.1/\fc K H' mu' p.2 q.2) ps vs->Sim K H' mu' e->Q vs H')->rg (l.map λp=>(tM K p.1,tM K p.2)) σ H Q
 |[],r,mu,H,S,e,ps,Q,he,hs,c,hc=>by cases c;exact hc [] H mu (.refl _ _) .nil hs
 |(a,b)::l,r,mu,H,S,e,ps,Q,he,hs,c,hc=>by
  obtain⟨⟨d,j⟩,A,c⟩:=PC c;obtain⟨⟨k,o⟩,n,c⟩:=PC c;obtain⟨⟨t,C⟩,m,c⟩:=PD c;cases c;refine⟨r,mu,S,d,j,he,hs,A,λv H1 mu1 f u B=>⟨r,mu1,j,k,o,he.ext f,B,n,λE H2 z i r2 x=>?_⟩⟩;refine zZ ((he.ext f).ext i) x m λvs s g h w y=>hc _ s g ((f.trans i).trans h) (.cons ⟨(u.ext i).ext h,r2.ext h⟩ w) y
theorem Ba{K:Fg1}{H:Hp}{mu:List dP}:∀ {ps:List (D×D)} {vs:List (V×V)} {kvs:List (Key×D)},Paired (fun (p:D×D) (q:V×V)=>fc K H mu p.1 q.1/\fc K H mu p.2 q.2) ps vs->Bb ps=some kvs ->
  ∃ws:List (Key×V),vs=ws.map (λc=>(kV c.1,c.2))/\KR K H mu kvs ws:=by
 intro ps vs kvs j h
 induction j generalizing kvs with
 |nil=>cases h;exact⟨[],O,.nil⟩
 | @cons a b ps vs q t ih=>
  obtain⟨k,d⟩:=a;obtain⟨m,f⟩:=b;obtain⟨g,l,h⟩:=PC h;obtain⟨rest,i,h⟩:=PD h;cases h;obtain⟨ws,e,r⟩:=ih i;have:=kr q.1 l;dsimp only at this;subst this;exact⟨(g,f)::ws,by rw[mP1,<- e],.cons ⟨O,q.2⟩ r⟩
theorem AL{K:Fg1}{H:Hp}{mu:List dP}:∀{kvs:List (Key×D)} {ws:List (Key×V)} {acc:List (Key×D)} {acw:List (Key×V)},KR K H mu kvs ws->KR K H mu acc acw->KR K H mu (kvs.foldl (λacc c=>fT acc c.1 c.2) acc) (je acw ws):=by
 intro kvs ws acc acw f h
 induction f generalizing acc acw with
 |nil=>exact h
 | @cons a b kvs ws r t ih=>
  obtain⟨k,d⟩:=a;obtain⟨g,v⟩:=b;obtain⟨e,r⟩:=r;dsimp only at e r;subst e;show KR K H mu (kvs.foldl _ (fT acc k d)) (je (hO acw k v) ws);exact ih (h.put r)
theorem sT{pos:Pos}{ks:List (Option Expr)}{vs:List Expr}{l:List (FE×FE)}(h:XP X pos ks vs l)(t:autoParam (ks.all (·.isSome)=M) au0)(R:autoParam (ks.length=vs.length) au0)(am:ks≠[]:=by nofun)(x:autoParam (ks.length<=15) bu0):XE X (.Dict ks vs pos) (wR l):=
 ⟨ff (C3 h.h t R am x) <| by
  rintro σ H Q ⟨r,mu,S,d,T,L,G,f,hc⟩ p i;obtain⟨⟨ps,E⟩,N,f⟩:=PC f;obtain⟨kvs,K,f⟩:=PC f;dsimp only at f;split at f
  ·rename_i m;cases f;have A:Ext mu mu H (upd H p (.dK [])):=Ext.fresh i;refine zZ (L.ext A) (G.fresh i) N fun vs H1 mu1 g au j=>?_;obtain ⟨k,v⟩:=g.held (a:=p) (o:=.dK []) eI (G.notin i);obtain ⟨ws,P,rk⟩:=Ba au K;refine ⟨k,ws,P,by rw [<- rk.length];exact m,?_⟩;have put:Ext (p::mu1) (p::mu1) H1 (upd H1 p (.dK (je [] ws))):=Ext.put k trivial mS1;have ao:=j.aside put.inner v;have y:Ext mu (mu1++[p]) H (upd H1 p (.dK (je [] ws))):=by
    refine⟨g.pre.trans (bw _ _),λb o e n=>?_,λb ys e=>put.tup b ys (g.tup b ys (A.tup b ys e)),λb o u e=>put.frz b o u (g.frz b o u (A.frz b o u e)),λb C=>?_⟩
    ·have F:b≠p:=eN e i;rw[eD F];exact g.old b o (by rw[eD F];exact e) n
    ·rcases aG.mp C with z|z
     ·rcases g.new b z with q|q
      ·exact .inl q
      ·by_cases s:b=p
       ·exact .inr (by rw[s];exact i)
       ·rw[eD s]at q;exact .inr q
     ·have:b=p:=by simpa using z
      exact .inr (by rw[this];exact i)
   have w:=AL rk (acc:=[]) (acw:=[]) .nil;refine hc _ _ (mu1++[p]) y (.ref (gA j.len p)) ⟨by rw[lA1,lA1,j.len];rfl,?_,λn o b h1 h2=>?_⟩
   ·rw[bB];refine⟨j.nd,by simp,λb I c hc e=>?_⟩;have:c=p:=by simpa using hc
    subst this;subst e;exact v I
   ·by_cases D:n<E.length
    ·rw[gL1 D]at h1;rw[gL1 (by rw[j.len];exact D)]at h2;exact(ao.ob n o b h1 h2).mor [p]
    ·have B:n=E.length:=by
      have:=(PB h1).1;rw[lA1]at this;simp at this;lia
     subst B;rw[gR1 (nR1 _)]at h1;rw[<- j.len,gR1 (nR1 _)]at h2;simp at h1 h2;subst h1;subst h2;exact⟨_,eI,KR.mor [p] (Paired.mapP w λ_ _ z=>⟨z.1,z.2.exw put.inner⟩)⟩
  ·cases f⟩
def AT(m a:FE):FE:=λr S=>(m r S).bind λp=>match p.1 with
 | .ref n=>match p.2[n]? with
  |some (.dct _)=>(a r p.2).bind λq=>match q.2[n]? with
   |some (.dct kvs)=>(kB q.1).map λk=>((ef kvs k).getD .non,q.2)
   |_=>Y
  |_=>Y
 |_=>Y
theorem Bg{K:Fg1}{H:Hp}{mu:List dP}{S:d7}(hs:Sim K H mu S){n:Nat}{a:dP}{kvs:List (Key×D)}(hn:mu[n]?=Z a)(he:S[n]?=Z (.dct kvs)):Kl H a:=by
 obtain⟨ws,b,_⟩:=hs.dct he hn;exact .inl ⟨ws,.inl b⟩
theorem xP {o e:Expr}{apos cpos:Pos}{m a:FE}(G:X.A.units+64<Nv)(ho:XE X o m)(he:XE X e a)(hm:M1 X o "get" apos e cpos:=by exact⟨O,O,O,O⟩):XE X (.Call (.Attribute o "get" apos) [e] [] cpos) (AT m a):=
 ⟨ff (Am (by lia) ho.h he.h hm) <| by
  rintro σ H Q ⟨r,mu,S,d,K,he,A,hm,hc⟩;obtain⟨⟨B,j⟩,C,hm⟩:=PC hm;refine⟨r,mu,S,B,j,he,A,C,λam H1 mu1 f x p=>?_⟩;dsimp only at hm;split at hm
  ·rename_i n;split at hm
   ·rename_i w c;cases x with
    |ref l=>
     refine⟨_,O,Bg p l c,?_⟩;obtain⟨⟨q,t⟩,s,hm⟩:=PC hm;refine⟨r,mu1,j,q,t,he.ext f,p,s,λI H2 b i r2 h=>?_⟩;dsimp only at hm;split at hm
     ·rename_i kvs F;obtain⟨k,E,hm⟩:=PD hm;cases hm;obtain⟨y,g,h1,h2,_⟩:=oI h (i.at l) F (kr r2 E);refine⟨y,g,?_⟩;cases e:ef kvs k with
      |none=>rw[h2 e];rw[e]at hc;exact hc _ H2 b (f.trans i) .non h
      |some z=>obtain⟨v,u,D⟩:=h1 z e;subst u;rw[e]at hc;exact hc _ H2 b (f.trans i) D h
     ·cases hm
   ·cases hm
  ·cases hm⟩
section
variable{K:Fg1}{H H':Hp}{mu mu':List dP}{S:d7}
end
theorem Ap{P:dQ}{w:dS}{K:Fg1}{mg:Str->Option dM}{base:dZ}{x a:Str}{st:d3}{f:dP}{fd:d2}{ps:List Str}{k n:Nat}(F:xK K x a st f fd)(hb:kb K fd ps [])(hm:mg x=Z (.ref f)):Own P w K mg base k x n (λ_ _=>Y):=by
 have g:∀vs H Q E,¬ spM K n (λ_ _=>Y) vs H Q E:=λvs H Q E h=>by
  obtain⟨_,mu,S,ds,d,i,_,_,e,_⟩:=h;cases e
 exact⟨f,fd,ps,⟨λvs H Q E h=>absurd h (g vs H Q E),λA b s H c j vs Q E _ _ _ _ h=>absurd h (g vs H Q E)⟩,hb,F.kp,hm⟩
theorem lk{X:Cx}(i j:Nat){x y:Str}{a b:Expr}{m:FA}{l n pt pos:Pos}{kt k2 pt2}(hc:X.calm=true)(hN:X.N.Nodup)(hi:X.N[i]? = some x)(s:X.N[j]? = some y)(k:i≠j)(hx:X.env.scope.names.lookup x=some .local)(hy:X.env.scope.names.lookup y=some .local)(ha:XA X [a,b] m)(hw:autoParam (Na [.Tuple [.Name x l,.Name y n] kt pt] (.Tuple [a,b] k2 pt2) X.env=pure (some [x,y])) au0)(hs:autoParam (M9 [.Tuple [.Name x l,.Name y n] kt pt] (.Tuple [a,b] k2 pt2) pos.line X.env=pure false) au0):
  XS X (.Assign [.Tuple [.Name x l,.Name y n] kt pt] (.Tuple [a,b] k2 pt2) pos) (eF (fw m) (gT 2 (fO (gN i) (fO (gN j) jp)))):=
 ⟨im (FR hc hN hi s k hx hy ha.h hw hs) <| by
  rintro E σ H ⟨r,mu,S,f,B,C,p,hs,h,hc⟩;obtain⟨⟨d,A⟩,e,h⟩:=PC h;obtain⟨⟨r2,z⟩,c,h⟩:=PC h;cases h;obtain⟨⟨ds,w⟩,q,e⟩:=PC e;dsimp only at e;split at e
  ·cases e;refine⟨r,mu,S,ds,_,p,hs,q,λvs H1 mu1 o g t=>?_⟩;dsimp only at c;rw[gT]at c;split at c
   ·cases g with
    |nil=>cases c
    |cons u g=>cases g with
     |nil=>cases c
     |cons v g=>cases g with
      |nil=>
       cases c;exact⟨_,_,O,hc _ H1 mu1 o (((p.ext o).set u).set v) t⟩
      |cons _ _=>cases c
   ·cases c
  ·cases e⟩
noncomputable def Bv:G2:=λd e S=>match d,e with
 | .int i,.int j=>Z (.int (i+j),S)
 |_,_=>Y
theorem DX{X:Cx}:Kj X .Add (r2 X.K (b2 Bv)):=by
 intro ag s σ H x y v u Q I f c h;obtain⟨mu,S,d,e,r,l,k,b,g,a,hc⟩:=u4 h;unfold Bv at a;split at a
 ·rename_i i j;cases a;cases k;cases b;exact DY ag s σ H _ _ v u Q I f c ⟨i,j,O,O,hc.now (.int _) g⟩
 ·cases a
end Mi
namespace HT
open PySem PySem.Spec PyProof.Rows
variable{prog:dQ}{w:dS}{A:dR}{E:dM->dN->Prop}{s:dN}
theorem kC{t b:dP}{items:Array dM}{f g:dM}{lo hi:Option Int}{Q:dM->dN->Prop}(ht:L3 s.heap t items)(hs:s.heap.IsSliceOf b f g .none)(pl:NM f lo)(j:NM g hi)(hw:sIx items.size 0 lo=0/\sIx items.size items.size hi=items.size)(h:Q (.ref t) s):dX (Mw prog w) A (getItem (.ref t) (.ref b)) Q E s:=by
 obtain⟨i,c,d,k⟩:=id hs;have e:s.TypeIs (.ref b) "slice":=⟨i,c,d⟩;unfold getItem
 try with_reducible refine M7 ?_
 first|refine wB1 (wP1 ?_)|skip
 refine wB1 (wpAny_sequenceKey ht.typeIs (by decide) ?_);refine wB1 (NO (name:=NP "__getitem__") ht.typeIs NQ
  (wE1 NQ ht.typeIs entry_tuple_getitem ?_ (args_tuple_getitem _ _)))
 show dX _ _ (NR (.ref t) >>= _) _ _ s;refine wB1 (tupleItemsOf_ ht ?_);refine wB1 (NS e ?_);rw[ak (by decide)];refine wB1 (iR hs pl j ?_);have a:((((sIx items.size 0 lo:Nat):Int) == 0&&(1:Int) == 1&&(sIx items.size items.size hi-sIx items.size 0 lo) == items.size)=M):=by
  rw[hw.1,hw.2];simp
 show dX _ _ (if(((sIx items.size 0 lo:Nat):Int) == 0&&(1:Int) == 1&&(sIx items.size items.size hi-sIx items.size 0 lo) == items.size)=M then _ else _) _ _ s;rw[ak a];refine wB1 ?_;unfold Builtin.Tuple.tupleIsExact;refine wB1 (NS ht.typeIs (wP1 ?_));rw[ak (by decide)]
 first
  |exact wB1 (Nb (wP1 ⟨_,rfl,wP1 h⟩))
  |exact wB1 (Nb (wB1 (wP1 ⟨_,rfl,wP1 h⟩)))
end HT
namespace Mi
open PySem PySem.Spec PyProof.Rows L2
def KH(K:Fg1):V->Option Int->Option Int->Hp->VK->Prop:=λx lo hi H Q=>∃a xs,x = .ref a/\kF K H a xs/\(HT.sIx xs.length 0 lo=0/\HT.sIx xs.length xs.length hi=xs.length)/\Q (.ref a) H
variable{X:Cx}
theorem CA:B9 X (KH X.K):=by
 intro ag s σ H x v k n lo hi l Q I e f pl i h;obtain⟨a,xs,rfl,g,j,q⟩:=h;cases e;obtain⟨c,r,d,m⟩:=I.tuple g;have b:c.toArray.size=xs.length:=by rw[sT1];exact r.length.symm
 refine⟨"tuple",_,PyProof.Rows.slot_tuple_getitem.lookup,d.typeIs,?_⟩;exact HT.kC d f pl i (by rw[b];exact j) ⟨.ref a,H,I,O,q⟩
def vo(S:d7)(d:D)(lo hi:Option Int):Option (D×d7):=(eg S d).map λp=>if p.1=M then(.ref S.length,S++[.lst (Mi.pO p.2 lo hi)])else(.tup (Mi.pO p.2 lo hi),S)
def oF(m:FE)(lo hi:FO):FE:=λr S=>(m r S).bind λp=>(lo r p.2).bind λa=>(hi r a.2).bind λb=>vo b.2 p.1 a.1 b.1
theorem yH{xs:List D}{lo hi:Option Int}(h:HT.sIx xs.length 0 lo=0/\HT.sIx xs.length xs.length hi=xs.length):Mi.pO xs lo hi=xs:=by
 unfold Mi.pO;rw[h.1,h.2,bZ,Nat.sub_zero,b4]
theorem i5{e:Expr}{lo hi:Option Expr}{m:FE}{a b:FO}{pos p2:Pos}(h:XE X e m)(au:XO X lo a)(ao:XO X hi b):XE X (.Subscript e (.Slice lo hi Y p2) pos) (oF m a b):=
 ⟨ff (Aj (B9.or CA (B9.or Fo CB)) h.h au.h ao.h) <| by
  rintro σ H Q ⟨r,mu,S,d,R,s,I,f,hc⟩;obtain⟨⟨am,A⟩,K,f⟩:=PC f;obtain⟨⟨l,z⟩,E,f⟩:=PC f;obtain⟨⟨n,D⟩,C,f⟩:=PC f;refine⟨r,mu,S,am,A,s,I,K,λv H1 mu1 o F L=>?_⟩;refine⟨r,mu1,A,l,z,s.ext o,L,E,λH2 u y G=>?_⟩;refine⟨r,u,z,n,D,(s.ext o).ext y,G,C,λP g B j=>?_⟩;obtain⟨⟨k,xs⟩,N,f⟩:=PD f;have x:=(o.trans y).trans B;obtain⟨c,vs,rfl,q,t⟩:=er ((F.ext y).ext B) j N;cases k with
  |true=>
   cases f;right;right;exact⟨c,vs,O,q,λp i=>hc _ _ (g++[p]) (x.trans (Ext.new_ i)) (.ref (gA j.len p)) (j.newL (xu t l n) i)⟩
  |false=>
   simp only[bF1,NJ]at f;cases f;by_cases w:HT.sIx xs.length 0 l=0/\HT.sIx xs.length xs.length n=xs.length
   ·left;rw[yH w]at hc;exact⟨c,vs,O,q,by rw[<- t.length];exact w,hc _ _ g x (.tup q t) j⟩
   ·right;left;exact⟨c,vs,O,q,by rw[<- t.length];exact w,λp i=>hc _ _ g (x.trans (Ext.fresh i)) (.tup (kF.of eI) ((xu t l n).ext (Ext.fresh i))) (j.fresh i)⟩⟩
mutual
inductive iE (h:dZ):TK->dM->Prop
 |non:iE h .non .none
 |int (i t):iE h (.int i) (.int i t)
 |tup {a o items n xs}:h.get? a=some o->o.cls = .type "tuple"->o.data = .seq items n->gK h xs items.toList->iE h (.tup xs) (.ref a)
inductive gK (h:dZ):List TK->List dM->Prop
 |nil:gK h [] []
 |cons {k v ks vs}:iE h k v->gK h ks vs->gK h (k::ks) (v::vs)
end
section
variable{prog:dQ}{w:dS}{A:dR}{E:dM->dN->Prop}{s:dN}
theorem tI{Q:Int->dN->Prop}(h:Q 0xFCA86420 {s with toks:=s.toks+1}):dX (Mw prog w) A (pyHash .none) Q E s:=by
 have a:s.TypeIs .none "NoneType":=rfl;unfold pyHash
 first|unfold pyHashByItsType|skip
 have b:[ab].any Value.onHeap=J:=rfl;refine wB1 ?_;rw[cRoomFor,aj (by rw[b];exact aL)];refine wP1 ?_;refine wB1 (OJ a F.slot_NoneType_hash.lookup ?_);show dX _ _ (if(Z (Value.builtin "NoneType.__hash__") == Z ab)=M then _ else _) Q E s;rw[aj (by rw[beq_builtin_none];exact aL)];refine wB1 (OJ a F.slot_NoneType_hash.lookup ?_);show dX _ _ (callSpecialIfBoundUnlessNone? .none "__hash__" _ >>= _) Q E s;refine wB1 (OK a F.slot_NoneType_hash (wE1 F.slot_NoneType_hash a F.entry_NoneType_hash (show dX _ _ (retInt 0xFCA86420) _ _ s from wpAny_ret_mkInt ?_) (F.args_NoneType_hash_1 _)));exact wP1 h
def sM(prog:dQ)(w:dS)(k:TK):Prop:=∀{A:dR} {E:dM->dN->Prop} {s:dN} {v:dM} {Q:Int->dN->Prop},A.units+k.dep<Nv->iE s.heap k v->Q k.hash {s with toks:=s.toks+k.draws}->dX (Mw prog w) A (pyHash v) Q E s
theorem gK.split{h:dZ}:∀{ks:List TK} {vs:List dM},gK h ks vs->ks.length=vs.length:=λa=>a.rec (motive_1:=λ_ _ _=>True) (motive_2:=λks vs _=>ks.length=vs.length) trivial (λ_ _=>trivial) (λ_ _ _ _ _=>trivial) O (λ_ _ _ ih=>congrArg (· + 1) ih)
theorem Bp{xs:List TK}(all:∀k∈xs,sM prog w k):sM prog w (.tup xs):=by
 intro A E s v Q t u h;cases u with
 | @tup a o l n _ p hc r hi=>
  have g:s.TypeIs (.ref a) "tuple":=⟨o,p,hc⟩;rw[TK.dep]at t;unfold pyHash
  first|unfold pyHashByItsType|skip
  first|refine wB1 (wpAny_cRoomFor_or (.inr (by lia)) ?_)|skip
  refine wB1 (OJ g F.slot_tuple_hash.lookup ?_);show dX _ _ (if(Z (Value.builtin "tuple.__hash__") == Z ab)=M then _ else _) Q E s;rw[aj (by rw[beq_builtin_none];exact aL)];refine wB1 (OJ g F.slot_tuple_hash.lookup ?_);show dX _ _ (callSpecialIfBoundUnlessNone? (.ref a) "__hash__" _ >>= _) Q E s;refine wB1 (OK g F.slot_tuple_hash (wE1 F.slot_tuple_hash g F.entry_tuple_hash ?_ (F.args_tuple_hash_1 _)));show dX _ _ (NR (.ref a) >>= _) _ _ s;refine wB1 (wpAny_tupleItemsOf p r ?_);refine wB1 ?_;rw[<- Array.forIn_toList];refine OE _
   (λrest (b:Array Int) s'=>∃done c,xs=done++c/\gK s.heap c rest/\b.toList=TK.hashes done/\s'={s with toks:=s.toks+TK.drawsAll done})
   _ ?_ ?_ _ _ ⟨[],xs,O,hi,O,O⟩
  ·rintro x rest b s' ⟨done,c,e,m,j,rfl⟩;cases m with
   | @cons k _ d _ h1 f=>
    have q:k∈xs:=by rw[e];simp
    refine wB1 (all k q (show A.in1.units+k.dep<Nv by have:=TK.dep_mem q;rw[show A.in1.units=A.units+1 from rfl];lia) h1 ?_)
    first
     |exact wP1 ⟨done++[k],d,by simp[e],f,by rw[TK.hashes_app];simp[j,TK.hashes],by rw[TK.draws_app];simp[TK.drawsAll,bn]⟩
     |exact wB1 (wP1 (wP1 ⟨done++[k],d,by simp[e],f,by rw[TK.hashes_app];simp[j,TK.hashes],by rw[TK.draws_app];simp[TK.drawsAll,bn]⟩))
  ·rintro b s' ⟨done,c,e,m,j,rfl⟩;cases m;rw[aP]at e;subst e;show dX _ _ (retInt (N8 b.toList)) _ _ _;rw[j];refine wpAny_ret_mkInt ?_;show dX _ _ (if(decide (-(2:Int)^63<=N8 (TK.hashes xs))&&decide (N8 (TK.hashes xs)<2^63))=M then _ else _) Q E _;rw[TK.hash,TK.draws]at h;unfold reduceHash at h;by_cases i:(decide (-(2:Int)^63<=N8 (TK.hashes xs))&&decide (N8 (TK.hashes xs)<2^63))=M
   ·rw[ak i];rw[ak i]at h;exact wP1 (by simpa[bn]using h)
   ·rw[aj i];rw[aj i]at h;exact wB1 (Nb (wP1 (by simpa[bn]using h)))
mutual
theorem xa:∀k:TK,sM prog w k
 | .non=>λb a h=>by cases a;exact tI h
 | .int i=>λb a h=>by cases a;exact wpAny_pyHash_int h
 | .tup xs=>Bp (ut xs)
theorem ut:∀ks:List TK,∀k∈ks,sM prog w k
 |[],k,h=>by simp at h
 |x::xs,k,h=>by
  by_cases e:k=x
  ·rw[e];exact xa x
  ·exact ut xs k ((aF.mp h).resolve_left e)
end
end
theorem iE.inj{h:dZ}:∀ {k k':TK} {v:dM},iE h k v->iE h k' v->k=k':=fun e=>e.rec (motive_1:=fun k v _=>∀ k',iE h k' v->k=k') (motive_2:=fun k v _=>∀ k',gK h k' v->k=k')
  (λk' g=>by cases g;rfl) (λ_ _ k' g=>by cases g;rfl)
  (λj m i l ih k' g=>by
   cases g with
   |tup d n c f=>
    rw[j]at d;cases d;rw[i]at c;cases c;rw[ih _ f])
  (λk' g=>by cases g;rfl) (λ_ _ a b k' g=>by cases g with|cons r' t'=>rw[a _ r',b _ t']) _
theorem gK.inj{h:dZ}:∀ {k k':List TK} {v:List dM},gK h k v->gK h k' v->k=k':=fun c=>c.rec (motive_1:=fun _ _ _=>True) (motive_2:=fun k v _=>∀ k',gK h k' v->k=k') trivial (fun _ _=>trivial) (fun _ _ _ _ _=>trivial)
  (λk' g=>by cases g;rfl) (λa _ _ b k' g=>by cases g with|cons r' t'=>rw[iE.inj a r',b _ t']) _
theorem iE.keeps{h h':dZ}{d:dP}{o:Obj}{es ep}(ho:h.get? d=some o)(hd:o.data = .dict es ep)(hs:Mv d h h'):∀ {k:TK} {v:dM},iE h k v->iE h' k v:=fun f=>f.rec (motive_1:=fun k v _=>iE h' k v) (motive_2:=fun k v _=>gK h' k v) .non .int
  (λ{a} _ _ _ _ e g c _ ih=>.tup ((hs.2 a (λz=>by subst z;rw[e]at ho;cases ho;rw[c]at hd;cases hd)).trans e) g c ih) .nil (λ_ _ a b=>.cons a b)
theorem gK.at{h:dZ}:∀{ks:List TK} {vs:List dM} (j:Nat) (h1:j<ks.length) (h2:j<vs.length),gK h ks vs->iE h ks[j] vs[j]
 |_::_,_::_,0,_,_,.cons r _=>r
 |_::ks,_::vs,j+1,h1,h2,.cons _ t=>gK.at j (by simpa using h1) (by simpa using h2) t
theorem BW{xs ys:List TK}(b:xs.length=ys.length):((af (min xs.length ys.length)).all λj=>decide (xs[j]?=ys[j]?))=decide (xs=ys):=by
 by_cases h:xs=ys
 ·subst h;simp
 ·rw[ai h,List.all_eq_false];have:∃j,xs[j]? ≠ ys[j]?:=OL λz=>h (b5 λj=>OL λq=>z ⟨j,q⟩);obtain⟨j,a⟩:=this;refine⟨j,?_,by simpa using a⟩;rw[aB,b,Nat.min_self];apply OL;intro c;exact a (by rw[b6 (by lia),b6 (by lia)])
theorem Jv:∀(n:Nat) {k k':TK} {A:dR} {s:dN} {u v:dM},k.dep<=n->A.units+n<Nv->iE s.heap k u->iE s.heap k' v->NX A s u v (decide (k=k')):=by
 intro n
 induction n with
 |zero=>
  intro k k' A s u v H R r g;cases r with
  |tup _ _ _ _=>simp[TK.dep]at H
  |non=>
   cases g with
   |non=>simpa using SeqAt.EqAt.same (A:=A) (s:=s) ab
   |int i t=>simpa[u5]using lc (A:=A) (s:=s) (y:=.non) (x:=.int i) O ⟨t,O⟩ O O
   |tup e c d t=>simpa using(fG (A:=A) (s:=s) (b:=J) (v:=.non) (u:=.none) ⟨_,e,c,_,d⟩ O O (by lia)).2.1
  |int i t=>
   cases g with
   |non=>simpa[u5]using lc (A:=A) (s:=s) (y:=.int i) (x:=.non) ⟨t,O⟩ O O O
   |int j I=>
    have:=lc (A:=A) (s:=s) (y:=.int i) (x:=.int j) ⟨t,O⟩ ⟨I,O⟩ O O;have e:u5 (.int i) (.int j)=decide (TK.int i=TK.int j):=by
     by_cases h:i=j
     ·subst h;simp[u5]
     ·rw[ai (λz=>h (by injection z))];simp[u5,h]
    rw[e]at this;exact this
   |tup e c d q=>simpa using(fG (A:=A) (s:=s) (b:=J) (v:=.int i) (u:=.int i t) ⟨_,e,c,_,d⟩ ⟨t,O⟩ O (by lia)).2.1
 |succ n ih=>
  intro k k' A s u v H R r g;cases r with
  |non=>
   cases g with
   |non=>simpa using SeqAt.EqAt.same (A:=A) (s:=s) ab
   |int i t=>simpa[u5]using lc (A:=A) (s:=s) (y:=.non) (x:=.int i) O ⟨t,O⟩ O O
   |tup e c d t=>simpa using(fG (A:=A) (s:=s) (b:=J) (v:=.non) (u:=.none) ⟨_,e,c,_,d⟩ O O (by lia)).2.1
  |int i t=>
   cases g with
   |non=>simpa[u5]using lc (A:=A) (s:=s) (y:=.int i) (x:=.non) ⟨t,O⟩ O O O
   |int j I=>
    have:=lc (A:=A) (s:=s) (y:=.int i) (x:=.int j) ⟨t,O⟩ ⟨I,O⟩ O O;have e:u5 (.int i) (.int j)=decide (TK.int i=TK.int j):=by
     by_cases h:i=j
     ·subst h;simp[u5]
     ·rw[ai (λz=>h (by injection z))];simp[u5,h]
    rw[e]at this;exact this
   |tup e c d q=>simpa using(fG (A:=A) (s:=s) (b:=J) (v:=.int i) (u:=.int i t) ⟨_,e,c,_,d⟩ ⟨t,O⟩ O (by lia)).2.1
  | @tup a o f m xs w l p G=>
   cases g with
   |non=>simpa using(fG (A:=A) (s:=s) (b:=J) (v:=.non) (u:=.none) ⟨_,w,l,_,p⟩ O O (by lia)).1
   |int i t=>simpa using(fG (A:=A) (s:=s) (b:=J) (v:=.int i) (u:=.int i t) ⟨_,w,l,_,p⟩ ⟨t,O⟩ O (by lia)).1
   | @tup a2 S items2 m2 ys L P am D=>
    by_cases N:a=a2
    ·subst N;have:TK.tup xs=TK.tup ys:=iE.inj (.tup w l p G) (.tup L P am D);rw[ah this];exact .same _
    ·refine .of_refs N ?_;have au:=G.split;have ao:=D.split;have C:=SeqAt.RcAt.tuples (A:=A) (s:=s) (e:=fun j=>decide (xs[j]? = ys[j]?)) ⟨o,w,l,m,p⟩ ⟨S,L,P,m2,am⟩ (by lia) (fun j h1 h2=>by
      have F:j<xs.length:=by rw[au];simpa using h1
      have K:j<ys.length:=by rw[ao];simpa using h2
      rw[TK.dep]at H;have V:=TK.dep_mem (bV F);have q:=ih (k:=xs[j]) (k':=ys[j]) (A:=A.in1) (s:=s) (by lia) (by show A.units+1+n<Nv;lia) (G.at j F (by simpa using h1)) (D.at j K (by simpa using h2));have e:decide (xs[j]?=ys[j]?)=decide (xs[j]=ys[j]):=by
       rw[gG1 F,gG1 K];simp
      rw[e];simpa using q)
     have T:f.size=xs.length:=by rw[au];simp
     have U:items2.size=ys.length:=by rw[ao];simp
     rw[T,U]at C;have E:((af (min xs.length ys.length)).all (λj=>decide (xs[j]?=ys[j]?))&&xs.length == ys.length)=decide (TK.tup xs=TK.tup ys):=by
      by_cases B:xs.length=ys.length
      ·rw[BW B,B,OB,bP];by_cases h:xs=ys
       ·subst h;simp
       ·rw[ai h,ai (λz=>h (by injection z))]
      ·have Q:(xs.length == ys.length)=J:=by simpa using B
       rw[Q,Bool.and_false,ai (λz=>B (by injection z with z;rw[z]))]
     rw[E]at C;exact C
theorem zT{prog:dQ}{w:dS}:∀(n:Nat) {k:TK} {A:dR} {E:dM->dN->Prop} {s:dN} {v:dM} {Q:Bool->dN->Prop},k.dep<=n->iE s.heap k v->Q M s->dX (Mw prog w) A (eqIsQuiet n v) Q E s:=by
 intro n
 induction n with
 |zero=>
  intro k A E s v Q d r h;cases r with
  |non=>rw[OM 0 O];exact wP1 h
  |int i t=>rw[OM 0 O];exact wP1 h
  |tup _ _ _ _=>simp[TK.dep]at d
 |succ n ih=>
  intro k A E s v Q d r h;cases r with
  |non=>rw[OM _ O];exact wP1 h
  |int i t=>rw[OM _ O];exact wP1 h
  | @tup a o b m xs g y z p=>
   have f:s.TypeIs (.ref a) "tuple":=⟨o,g,y⟩;rw[TK.dep]at d;unfold eqIsQuiet;refine wB1 (OJ f F.slot_tuple_eq.lookup ?_);show dX _ _ (isInstance (.ref a) (.type "tuple") >>= _) _ _ s;refine wB1 (Ou f isSubtype_tuple_tuple ?_);simp only[b7,bF1,NJ];refine wB1 (Oj g z ?_);refine wB1 ?_;show dX _ _ (forIn b _ _) _ _ s;rw[<- Array.forIn_toList];refine OE _ (λrest r s'=>r.1=Y/\s'=s /\ ∃ks,gK s.heap ks rest/\TK.depAll ks<=n) _ ?_ ?_ _ _ ⟨O,O,xs,p,by lia⟩
   ·rintro v rest r s' ⟨c,rfl,ks,u,q⟩;cases u with
    | @cons l _ e _ j x=>
     rw[TK.depAll]at q;refine wB1 (ih (k:=l) (by lia) j ?_);simp only[b7,bF1,NJ];exact wP1 ⟨O,O,e,x,by lia⟩
   ·rintro⟨B,r2⟩ s' ⟨c,rfl,_⟩;simp only at c;subst c;exact wP1 h
noncomputable def jx(prog:dQ)(w:dS):HeapKind prog w TK where
 is:=λh k a=>iE h k (.ref a)/\k.dep<=8
 hash:=TK.hash
 draws:=TK.draws
 room:=λA=>A.units+8<Nv
 inj:=λhx hy=>hx.1.inj hy.1
 keeps:=λx ho hd hs=>⟨x.1.keeps ho hd hs,x.2⟩
 pyHash:=λhu hk h=>xa _ (by have:=hk.2;omega) hk.1 h
 eqBool:=λhu hx hy h=>Jv 8 hx.2 hu hx.1 hy.1 _ _ _ _ h
 quiet:=λhk h=>zT 8 hk.2 hk.1 h
noncomputable def Mr:G2:=λo v S=>match o,v with
 | .ref n,.ref b=>match S[n]?,S[b]? with
  |some (.lst xs),Z (.lst ys)=>if xs.length+ys.length<=dW then Z (.non,S.set n (.lst (xs++ys)))else Y
  |_,_=>Y
 |_,_=>Y
noncomputable def Jd(n:Nat)(k:Int):Nat:=if k<0 then(k+(n:Int)).toNat else min k.toNat n
def Mo:G3:=λo i v S=>match o,i with
 | .ref n,.int k=>match S[n]? with
  |some (.lst xs)=>if-(2^63)<=k/\k<2^63/\xs.length<dW then Z (.non,S.set n (.lst (xs.take (Jd xs.length k)++v::xs.drop (Jd xs.length k))))else Y
  |_=>Y
 |_,_=>Y
noncomputable def yC(f:D->D->Option Bool)(x:D):List D->Option (List Bool)
 |[]=>Z []
 |y::ys=>(f y x).bind λb=>(yC f x ys).map (b :: ·)
def Bu:G2:=λo x S=>match o with
 | .ref n=>match S[n]? with
  |some (.lst ys)=>(yC (hL S eK) x ys).bind λbs=>if bs.length<2^62 then(bs.findIdx? id).map λj=>(.int (j:Nat),S)else Y
  |_=>Y
 |_=>Y
theorem xn(f:D->D->Option Bool)(x:D):∀{ys:List D} {bs:List Bool},yC f x ys=Z bs->bs.length=ys.length /\ ∀(j:Nat) (y:D) (k:Bool),ys[j]?=Z y->bs[j]?=Z k->f y x=Z k
 |[],bs,h=>by cases h;exact⟨O,λj y k h=>by simp at h⟩
 |y::ys,bs,h=>by
  rw[yC]at h;obtain⟨b,e,h⟩:=PC h;obtain⟨bt,c,h⟩:=PD h;obtain⟨d,a1⟩:=xn f x c;subst h;refine⟨by simp[d],λj=>?_⟩;cases j with
  |zero=>intro a k h1 h2;simp at h1 h2;subst h1;subst h2;exact e
  |succ j=>intro a k h1 h2;exact a1 j a k (by simpa using h1) (by simpa using h2)
section
open PySem.MeetsSeq PySem.MeetsSeq2 PySem.MeetsSeq3 PySem.SeqRoads2
theorem ur{l:dP}{its:Array dM}{n:Nat}{x:dM}{e:Nat->Bool}{top:Int}{j:Nat}(f:j<its.size)(ht:(j:Int)<top)(c:e j=true):∀ (k i:Nat),i+k=j->(∀ m,i<=m->m<j->e m=false) ->
  Meets (Builtin.«list.index.loop» ⟨[.ref l,x,Ni i,Ni top],[]⟩)
   (λA R s=>s.heap.get? l=Z {cls:=.type "list",data:=.seq its n}/\(∀m (h:m<its.size),NX A.in1 s its[m] x (e m))/\R (.ok (.ret (.int j s.toks))) {s with toks:=s.toks+1})
 |0,i,hk,hno,prog,w,A,R,⟨hp,g,d,tk,os⟩,⟨hl,he,h⟩=>by
  have o:i=j:=by lia
  subst o
  wp_walk using ON hl
  rw[show(if(i:Int)<top then its[((i:Nat):Int).toNat]? else Y)=Z its[i] by simp[ht,f]];refine wB1 (he i f prog w _ _ ?_);rw[c]
  wp_walk
  exact h
 |k+1,i,hk,hno,prog,w,A,R,⟨hp,g,d,tk,os⟩,⟨hl,he,h⟩=>by
  have h1:i<its.size:=by lia
  have h2:(i:Int)<top:=by lia
  wp_walk using ON hl
  rw[show(if(i:Int)<top then its[((i:Nat):Int).toNat]? else Y)=Z its[i] by simp[h1,h2]];refine wB1 (he i h1 prog w _ _ ?_);rw[hno i (nR1 i) (by lia)]
  wp_walk
  rw[show((i:Int)+1)=((i+1:Nat):Int) by push_cast;rfl];have z:=ur (l:=l) (n:=n) (x:=x) f ht c k (i+1) (by lia) (λm a b=>hno m (by lia) b) prog w A R _ ⟨hl,he,h⟩;exact⟨OF OO _,wD1 entry_index_loop (by rw[OG OO _];exact z)⟩
theorem Bn{l:dP}{its:Array dM}{n:Nat}{x:dM}{e:Nat->Bool}{j:Nat}(k:j<its.size)(ht:(j:Int)<2^63-1)(c:e j=true)(a:∀ m,m<j->e m=false):
  Meets (Builtin.«list.index» ⟨[.ref l,x],[]⟩)
   (λA R s=>s.heap.get? l=Z {cls:=.type "list",data:=.seq its n}/\(∀m (h:m<its.size),NX A.in1 s its[m] x (e m))/\R (.ok (.ret (.int j s.toks))) {s with toks:=s.toks+1}):=by
 intro prog w A R ⟨p,g,d,tk,q⟩ ⟨f,o,h⟩
 wp_walk using ON f
 rw[show((λi:Int=>if i<0 then max 0 (i+(its.size:Int))else i) ((Y:Option Int).getD 0))=((0:Nat):Int) by simp,show((λi:Int=>if i<0 then max 0 (i+(its.size:Int))else i) ((Y:Option Int).getD (2^63-1)))=2^63-1 by simp];have z:=ur (l:=l) (n:=n) (x:=x) k ht c j 0 (by lia) (λm _ b=>a m b) prog w A R _ ⟨f,o,h⟩;exact⟨OF OO _,wD1 entry_index_loop (by rw[OG OO _];exact z)⟩
end
theorem HY(aq:X.A.units+64<Nv):HM X "list.index" (λx xs H Q=>rN X.K (b2 Bu) (x::xs) H Q):=by
 intro ag s σ H x xs v wq Q I w ao h;obtain⟨V,y,mu,S,d,e,r',S',L,K,r2,o,a,hc⟩:=zR h;cases L;unfold Bu at a;split at a
 ·rename_i n;split at a
  ·rename_i ys D;obtain⟨bs,U,a⟩:=PC a;split at a
   ·rename_i q;obtain⟨j,p,a⟩:=PD a;cases a;cases K with
    |ref au=>
     obtain⟨vs,am,t⟩:=o.lst D au;cases w;obtain⟨u,rfl,T⟩:=ao.one;obtain⟨z,b,E,c,hl,e⟩:=I.lstM am;obtain⟨l1,k⟩:=xn _ _ U;have W:=t.length;have l3:=c.length;rw[b8]at p;obtain⟨R,g,f⟩:=p;have l:∀m (a:m<b.toArray.size),NX X.A.in1 s b.toArray[m] u (bs[m]?.getD J):=λm a=>by
      have m1:m<b.length:=by simpa using a
      obtain⟨G,C,N⟩:=t.getV (i:=m) (v:=vs[m]'(by lia)) (gG1 (by lia));obtain⟨w',r,P⟩:=c.get (i:=m) (x:=vs[m]'(by lia)) (gG1 (by lia));have m2:m<bs.length:=by lia
      have B:b.toArray[m]=w':=by
       have:=gG1 m1;rw[this]at r;simpa using r
      rw[B,gG1 m2];exact(k9 I o eK (A:=X.A.in1) (by show X.A.units+1+60<Nv;lia) N r2 P T (k m G bs[m] C (gG1 m2))).1
     refine call_meets F.slot_list_index ⟨_,e,O⟩ F.entry_list_index (F.args_list_index_2 _ _)
      (Bn (n:=E) (e:=λm=>bs[m]?.getD J) (j:=j) (by simp;lia) (by lia) ?_ ?_) ⟨e,l,?_⟩
     ·simp only[gG1 R,b9];simpa using g
     ·intro m a;have m2:m<bs.length:=by lia
      have:=f m a;simp only[gG1 m2,b9];simpa using this
     ·exact⟨.int j,H,I.tok _,⟨_,O⟩,hc.now (.int _) o⟩
   ·cases a
  ·cases a
 ·cases a
mutual
noncomputable def kD:D->Option TK
 | .non=>Z .non
 | .int i=>Z (.int i)
 | .tup xs=>(Hc xs).map .tup
 |_=>Y
noncomputable def Hc:List D->Option (List TK)
 |[]=>Z []
 |x::xs=>(kD x).bind λk=>(Hc xs).map (k :: ·)
end
def kA:D->Option TK
 | .tup xs=>(Hc xs).bind λks=>if(TK.tup ks).dep<=8 then Z (.tup ks)else Y
 |_=>Y
mutual
theorem Jb:∀{d:D} {k:TK},kD d=Z k->lA k=d
 | .non,k,h=>by cases h;rfl
 | .int i,k,h=>by cases h;rfl
 | .tup xs,k,h=>by
  rw[kD]at h;obtain⟨ks,e,h⟩:=PD h;subst h;rw[lA,vL e]
 | .bl _,k,h=>by simp[kD]at h
 | .str _,k,h=>by simp[kD]at h
 | .rol _,k,h=>by simp[kD]at h
 | .fn _,k,h=>by simp[kD]at h
 | .ref _,k,h=>by simp[kD]at h
theorem vL:∀{ds:List D} {ks:List TK},Hc ds=Z ks->lz ks=ds
 |[],ks,h=>by cases h;rfl
 |x::xs,ks,h=>by
  rw[Hc]at h;obtain⟨k,a,h⟩:=PC h;obtain⟨t,b,h⟩:=PD h;subst h;rw[lz,Jb a,vL b]
end
theorem w4{d:D}{k:TK}(h:kA d=Z k):lA k=d/\k.dep<=8 /\ ∃xs,k = .tup xs:=by
 cases d with
 |tup xs=>
  rw[kA]at h;obtain⟨ks,e,h⟩:=PC h;split at h
  ·rename_i a;cases h;exact⟨by rw[lA,vL e],a,ks,O⟩
  ·cases h
 |_=>cases h
section
variable{ag:List (dP×Obj)}{σ:L2.St}{H:Hp}{s:dN}{mu:List dP}
mutual
theorem wv(I:Inv X ag σ H s):∀(k:TK) {v:V} {u:dM},fc X.K H mu (lA k) v->eu v u->iE s.heap k u
 | .non,v,u,r,q=>by
  rw[lA]at r;cases r;cases q;exact .non
 | .int i,v,u,r,q=>by
  rw[lA]at r;cases r;obtain⟨t,rfl⟩:=q;exact .int i t
 | .tup xs,v,u,r,q=>by
  rw[lA]at r;cases r with
  |tup h t=>
   cases q;obtain⟨a,e,⟨o,d,c,n,b⟩,_⟩:=I.tuple h;exact .tup d c b (by simpa using zr I xs t e)
theorem zr(I:Inv X ag σ H s):∀(ks:List TK) {vs:List V} {a:List dM},ej X.K H mu (lz ks) vs->eG vs a->gK s.heap ks a
 |[],vs,a,r,q=>by rw[lz]at r;cases r;cases q;exact .nil
 |k::ks,vs,a,r,q=>by
  rw[lz]at r;cases r with
  |cons r t=>cases q with
   |cons q p=>exact .cons (wv I k r q) (zr I ks t p)
end
theorem vw{α β γ δ:Type}{F:α->β->Prop}{G:γ->δ->Prop}{f:α->γ}{g:β->δ}:∀{d:List α} {c:List β},Paired F d c->(∀a b,F a b->G (f a) (g b))->Paired G (d.map f) (c.map g):=by
 intro a b h g
 induction h with
 |nil=>exact .nil
 |cons r t ih=>exact .cons (g _ _ r) ih
theorem vx{α β:Type}{F:α->β->Prop}:∀{j i:List α} {f e:List β},Paired F j f->Paired F i e->Paired F (j++i) (f++e):=by
 intro a b c d h g
 induction h with
 |nil=>exact g
 |cons r t ih=>exact .cons r ih
theorem KT.length{K:Fg1}:∀{ks:List (TK×D)} {ws:List (TK×dP×dM)},KT K H mu ks ws->ks.length=ws.length:=λh=>Paired.length h
theorem KT.mem{K:Fg1}:∀{ks:List (TK×D)} {ws:List (TK×dP×dM)},KT K H mu ks ws -> ∀x∈ws,x.1.dep<=8/\fc K H mu (lA x.1) (.ref x.2.1):=by
 intro ks ws a x h
 induction a with
 |nil=>cases h
 |cons r t ih=>
  rcases aF.mp h with e|e
  ·subst e;rw[<- r.1];exact⟨r.2.1,r.2.2.1⟩
  ·exact ih e
theorem KT.look{K:Fg1}{k:TK}:∀ {ks:List (TK×D)} {ws:List (TK×dP×dM)},KT K H mu ks ws ->
  (∀d,ef ks k=Z d -> ∃p v,N5 ws k=Z p/\eu v p.2/\fc K H mu d v)/\(N5 ws k).isSome=(ef ks k).isSome:=by
 intro ks ws h
 induction h with
 |nil=>exact⟨λd h=>by simp[ef]at h,O⟩
 | @cons p g ks ws r t ih=>
  obtain⟨b,e⟩:=p;obtain⟨l,a2,c⟩:=g;obtain⟨z,d,q,v,f,r⟩:=r;dsimp only at z q f r;subst z;obtain⟨h1,h2⟩:=ih;by_cases a:b=k
  ·subst a;refine⟨λd h=>?_,by simp[N5,ef]⟩;have:e=d:=by simpa[ef]using h
   subst this;exact⟨(a2,c),v,by simp[N5],f,r⟩
  ·have j:ef ((b,e)::ks) k=ef ks k:=by simp[ef,bd,a]
   have i:N5 ((b,a2,c)::ws) k=N5 ws k:=by simp[N5,bd,a]
   rw[j,i];exact⟨h1,h2⟩
theorem KT.put{K:Fg1}{k:TK}{d:D}{v:V}{a:dP}{u:dM}(hk:k.dep<=8)(l:fc K H mu (lA k) (.ref a))(i:eu v u)(q:fc K H mu d v){ks:List (TK×D)}{ws:List (TK×dP×dM)}(h:KT K H mu ks ws):KT K H mu (fT ks k d) (storedH ws k a u):=by
 unfold fT storedH;have e:(ks.any λp=>decide (p.1=k))=(N5 ws k).isSome:=by
  rw[h.look.2];unfold ef;rw[bh,bT,List.find?_isSome,bU]
 rw[e];split
 ·clear e;refine vw h λp w ⟨z,g,f,m,c,j⟩=>?_;unfold putAt;by_cases b:p.1=k
  ·rw[ak b,ak (by rw[<- z];exact b)];exact⟨z,g,f,v,i,q⟩
  ·rw[aj b,aj (by rw[<- z];exact b)];exact⟨z,g,f,m,c,j⟩
 ·exact vx h (.cons ⟨O,hk,l,v,i,q⟩ .nil)
theorem BE(I:Inv X ag σ H s){a:dP}{xs:List (TK×dP×dM)}{kvs:List (TK×D)}(e:H a=Z (.ext (iN a xs)))(h:KT X.K H mu kvs xs):(a == L4)=J/\s.heap.DictOfH (jx X.prog X.w) a xs:=by
 obtain⟨⟨h1,h2,o,es,ep,g,c,f,d⟩,_⟩:=(show fb X.prog X.w H s.heap a (.ext (iN a xs))from I.hok a _ e);exact⟨h1,o,es,ep,g,c,f,d,λx b=>⟨wv I _ (h.mem x b).2 O,(h.mem x b).1⟩,h2⟩
theorem xk{h:dZ}{a:dP}{xs:List (TK×dP×dM)}(hd:(a == L4)=J)(hm:h.DictOfH (jx X.prog X.w) a xs):fb X.prog X.w H h a (.ext (iN a xs)):=by
 obtain⟨o,es,ep,d,e,j,g,m,l⟩:=hm;refine⟨⟨hd,l,o,es,ep,d,e,j,g⟩,⟨o,d⟩,λp n ⟨a1,a2,o',c,b,b3,k,f,i⟩ st=>⟨a1,a2,o',c,b,st _ b3,k,f,i⟩⟩
end
def Mq:G2:=λd e S=>match e with
 | .ref n=>match S[n]? with
  |some (.dcT kvs)=>(kA d).map λk=>(.bl (ef kvs k).isSome,S)
  |_=>Jq d e S
 |_=>Jq d e S
def fX:G2:=λd e S=>match e with
 | .ref n=>match S[n]? with
  |some (.dcT kvs)=>(kA d).map λk=>(.bl (!(ef kvs k).isSome),S)
  |_=>iJ d e S
 |_=>iJ d e S
def ez:G2:=λd e S=>match d with
 | .ref n=>match S[n]? with
  |some (.dcT kvs)=>(kA e).bind λk=>(ef kvs k).map λx=>(x,S)
  |some (.dcF kvs)=>(kA e).bind λk=>(ef kvs k).map λx=>(x,S)
  |_=>mh d e S
 |_=>mh d e S
def f0:G3:=λo i v S=>match o with
 | .ref n=>match S[n]? with
  |some (.dcT kvs)=>(kA i).bind λk=>if kvs.length<dW then Z (.non,S.set n (.dcT (fT kvs k v)))else Y
  |some (.dct [])=>match kA i with
   |some k=>Z (.non,S.set n (.dcT [(k,v)]))
   |none=>jo o i v S
  |_=>jo o i v S
 |_=>jo o i v S
theorem ud{κ:Type}[DecidableEq κ](kvs:List (κ×D))(k:κ)(d:D):(fT kvs k d).length<=kvs.length+1:=by
 unfold fT;split
 ·rw[lM1];lia
 ·simp
theorem uE{h:dZ}{a:dP}(d:h.DictOf (fe X.prog X.w) a []):h.DictOfH (jx X.prog X.w) a []:=by
 obtain⟨o,es,ep,h1,h2,f,_,b,_⟩:=d;have e:es.toList=[]:=by
  generalize es.toList=l at b;cases b;rfl
 exact⟨o,es,ep,h1,h2,f,e,(λx c=>by simp at c),bp⟩
theorem nM{A:dR}(a:A.units+64<Nv):(jx X.prog X.w).room A.in1:=by
 show A.units+1+8<Nv;lia
theorem se{ag:List (dP×Obj)}{σ:L2.St}{H:Hp}{s:dN}{mu:List dP}(I:Inv X ag σ H s){d:D}{v:V}{u:dM}{k:TK}(r:fc X.K H mu d v)(q:eu v u)(h:kA d=some k):
  ∃a,u = .ref a/\v = .ref a/\fc X.K H mu (lA k) (.ref a)/\k.dep<=8/\(jx X.prog X.w).is s.heap k a:=by
 obtain⟨e,b,xs,ex⟩:=w4 h;subst e;have is:=wv I k r q;subst ex;cases id is with
 | @tup a _ _ _ _ _ _ _ _=>
  rw[lA]at r;cases r with
  |tup h1 h2=>
   cases q;exact⟨a,O,O,by rw[lA];exact .tup h1 h2,b,is,b⟩
theorem lY(l:X.A.units+64<Nv):gJ X (Nn .NotIn) (r2 X.K (b2 fX)):=by
 intro ag s σ H x y u w Q I i g h;obtain⟨mu,S,d,e,r,j,o,c,f,b,hc⟩:=u4 h;have back:iJ d e S=Z (r,j)->dX (Mw X.prog X.w) X.A (Nn .NotIn u w) (EP X ag σ Q) X.xe s:=λb=>Aw l ag s σ H x y u w Q I i g ⟨mu,S,[d,e],r,j,.cons o (.cons c .nil),f,b,hc⟩;unfold fX at b;split at b
 ·rename_i n;split at b
  ·rename_i kvs p;obtain⟨k,t,b⟩:=PD b;cases b;cases c with
   |ref A=>
    cases g;obtain⟨xs,v,m,_⟩:=f.dcT p A;obtain⟨z,q⟩:=BE I v m;obtain⟨a,rfl,rfl,_,_,hi⟩:=se I o i t;refine wpAny_notIn_heap (nM l) hi z q ?_;exact⟨.bl (!(N5 xs k).isSome),H,I.tok _,O,by rw[m.look.2];exact hc.now (.bl _) f⟩
  ·exact back b
 ·exact back b
theorem Ho{ag:List (dP×Obj)}{σ:L2.St}{H:Hp}{s:dN}{mu:List dP}(I:Inv X ag σ H s){a:dP}{xs:List (TK×dP×dM)}{kvs:List (TK×D)}(e:∃o u,H a=Z (.frz o u)/\B6 a xs o)(h:KT X.K H mu kvs xs):(a == L4)=J/\s.heap.DictOfH (jx X.prog X.w) a xs:=by
 obtain⟨o,u,e,h1,h2,c,es,ep,f,d⟩:=e;obtain⟨g,_⟩:=(show fb X.prog X.w H s.heap a (.frz o u)from I.hok a _ e);exact⟨h1,o,es,ep,g,c,f,d,λx b=>⟨wv I _ (h.mem x b).2 O,(h.mem x b).1⟩,h2⟩
theorem qP(am:X.A.units+64<Nv):EU X (r2 X.K (b2 ez)):=by
 intro value c ag s σ H x y v u Q I w K h o;obtain⟨mu,S,d,e,r,C,B,m,t,f,hc⟩:=u4 h;have back:mh d e S=Z (r,C)->dX (Mw X.prog X.w) X.A (NU value c v u) (EP X ag σ Q) X.xe s:=λf=>HU am value c ag s σ H x y v u Q I w K ⟨mu,S,[d,e],r,C,.cons B (.cons m .nil),t,f,hc⟩ o;have g:∀kvs a xs,v = .ref a->KT X.K H mu kvs xs->s.heap.DictOfH (jx X.prog X.w) a xs->((kA e).bind λk=>(ef kvs k).map λx=>(x,S))=Z (r,C)->dX (Mw X.prog X.w) X.A (NU value c v u) (EP X ag σ Q) X.xe s:=λkvs a xs N j F f=>by
  obtain⟨k,P,f⟩:=PC f;obtain⟨z,R,f⟩:=PD f;cases f;subst N;obtain⟨b,rfl,rfl,_,_,hi⟩:=se I m K P;obtain⟨p,L,ep,au,ao⟩:=j.look.1 _ R;have G:=F.typeIs;unfold NU;refine wB1 ?_;rw[getitemInPython_of_ne G.not_modules];refine wB1 (OJ G PySem.F.slot_dict_getitem.lookup ?_);have l:dX (Mw X.prog X.w) X.A (subscripted c J (.ref a) (.ref b)) (λr i=>dX (Mw X.prog X.w) X.A (letTemporaryGo value (.ref a) r >>= λ_=>pure r) (EP X ag σ Q) X.xe i) X.xe s:=by
   rw[o];exact wpAny_operating (MU (wpAny_getItem_heap (nM am) hi F ep (show EP X ag σ Q p.2 _ from⟨L,H,I.tok _,au,hc.now ao t⟩)) (λr i q=>wB1 (wpAny_letTemporaryGo (wP1 q))) λ_ _ x=>x)
  first
   |exact wP1 (wB1 l)
   |exact wB1 l
   |exact l
 unfold ez at f;split at f
 ·rename_i n;split at f
  ·rename_i kvs E;cases B with
   | @ref _ a A=>
    cases w;obtain⟨xs,D,j,_⟩:=t.dcT E A;exact g kvs a xs O j (BE I D j).2 f
  ·rename_i kvs E;cases B with
   | @ref _ a A=>
    cases w;obtain⟨xs,D,j,_⟩:=(show nw X.K H mu a (.dcF kvs)from t.ob n _ a E A);exact g kvs a xs O j (Ho I D j).2 f
  ·exact back f
 ·exact back f
theorem jD(D:X.A.units+64<Nv):wf X (rU X.K (b3 f0)):=by
 intro ag s σ H o i v P au u Q I B G t h;obtain⟨mu,S,ds,d,T,V,l,a,hc⟩:=id h;cases V with
 |cons F aq=>cases aq with
  |cons K U=>cases U with
   |cons r W=>
    cases W;rename_i R N y;dsimp only[b3]at a;have back:jo R N y S=Z (d,T)->dX (Mw X.prog X.w) X.A (setItem P au u) (λ_ s'=>∃H',Inv X ag σ H' s'/\Q H') X.xe s:=λa=>Fw D ag s σ H o i v P au u Q I B G t ⟨mu,S,[R,N,y],d,T,.cons F (.cons K (.cons r .nil)),l,a,hc⟩;unfold f0 at a;split at a
    ·rename_i n;split at a
     ·rename_i kvs ao;obtain⟨k,L,a⟩:=PC a;split at a
      ·rename_i hl;cases a;cases F with
       | @ref _ m g=>
        cases B;obtain⟨xs,x,j,wq⟩:=l.dcT ao g;obtain⟨am,A⟩:=BE I x j;obtain⟨b,rfl,rfl,rk,p,hi⟩:=se I K G L;refine wpAny_setItem_heap (hsz:=wq) (nM D) hi A λh' e c=>?_;have f:∃q,h'.get? _=Z q:=let ⟨q,_,_,f,_⟩:=e;⟨q,f⟩
        have put:Ext mu mu H (upd H m (.ext (iN m (storedH xs k b u)))):=Ext.put x trivial (gM1 g);refine⟨_,ku I (by rw[x];exact Nu) c f (xk am e),hc _ mu put (l.put g x trivial ⟨_,eI,((j.put p rk t r).ext put),?_⟩)⟩;rw[<- (j.put p rk t r).length];have:=ud kvs k y;lia
      ·cases a
     ·rename_i ao;split at a
      ·rename_i k L;cases a;cases F with
       | @ref _ m g=>
        cases B;obtain⟨ws,w,j⟩:=l.dct ao g;cases j;obtain⟨z,am,vs,C,A⟩:=xt I.hok w;cases C;obtain⟨b,rfl,rfl,rk,p,hi⟩:=se I K G L;have E:s.heap.DictOfH (jx X.prog X.w) _ []:=uE A;refine wpAny_setItem_heap (hsz:=bj _) (nM D) hi E λh' e c=>?_;have f:∃q,h'.get? _=Z q:=let ⟨q,_,_,f,_⟩:=e;⟨q,f⟩
        have put:Ext mu mu H (upd H m (.ext (iN m (storedH [] k b u)))):=Ext.put w trivial (gM1 g);exact⟨_,ku I (by rw[w];exact Nu) c f (xk am e),hc _ mu put (l.put g w trivial ⟨_,eI,KT.ext put (.cons ⟨O,p,rk,v,t,r⟩ .nil),(show 1<=dW by decide)⟩)⟩
      ·exact back a
     ·exact back a
    ·exact back a
def mH(S:d7)(d:D):Option Bool:=match d with
 | .non=>Z J
 | .bl b=>Z b
 | .int i=>Z (i != 0)
 | .str y=>if y.length<=dW then Z ((y.length:Int) != 0)else Y
 | .ref n=>match S[n]? with
  |some (.dct kvs)=>Z (!kvs.isEmpty)
  |_=>(eg S d).map λp=> !p.2.isEmpty
 |_=>(eg S d).map λp=> !p.2.isEmpty
noncomputable def mTr (m:FE):FT:=λr S=>(m r S).bind λp=>(mH p.2 p.1).map λb=>(b,p.2)
section
variable{K:Fg1}{H:Hp}{mu:List dP}{S:d7}
theorem ro{d:D}{v:V}{b:Bool}(r:fc K H mu d v)(s:Sim K H mu S)(h:((eg S d).map λp=> !p.2.isEmpty)=Z b):Em K v H b:=by
 obtain⟨⟨k,xs⟩,e,h⟩:=PD h;obtain⟨a,vs,rfl,q,t⟩:=er r s e;have z:(!xs.isEmpty) = !vs.isEmpty:=by cases t<;>rfl
 dsimp only at h;rw[z]at h;cases k
 ·exact .inr (.inl ⟨vs,q,h.symm⟩)
 ·exact .inl ⟨vs,q,h.symm⟩
theorem E9{d:D}{v:V}{b:Bool}(r:fc K H mu d v)(s:Sim K H mu S)(h:mH S d=Z b):Em K v H b:=by
 cases d with
 |non=>cases r;cases h;rfl
 |bl k=>cases r;cases h;rfl
 |int i=>cases r;cases h;rfl
 |str y=>
  rw[mH]at h;split at h
  ·rename_i f;cases r;cases h;exact⟨f,O⟩
  ·cases h
 |tup xs=>exact ro r s h
 |rol xs=>exact ro r s h
 |fn x=>cases h
 |ref n=>
  rw[mH]at h;split at h
  ·rename_i kvs g;cases h;cases r with
   |ref c=>
    obtain⟨ws,a,e⟩:=s.dct g c;refine .inr (.inr ⟨ws,a,?_⟩);cases e<;>rfl
  ·exact ro r s h
end
theorem hM{X:Cx}{x:Expr}{f:FE}(h:XE X x f)(he:autoParam (∀a,isTrue x X.env a=(do let v<-a;M6 x.pos;M5 [v] (truthy v))) du0):XT X x (mTr f):=
 ⟨rB (zV h.h he) <| by
  rintro σ H Q ⟨r,mu,S,b,l,he,g,c,hc⟩;obtain⟨⟨n,m⟩,k,c⟩:=PC c;obtain⟨b1,i,c⟩:=PD c;cases c;exact⟨r,mu,S,_,_,he,g,k,λv H1 mu1 e j d=>⟨_,E9 j d i,hc H1 mu1 e d⟩⟩⟩
section
variable{ag:List (dP×Obj)}{σ:L2.St}{H:Hp}{s:dN}{mu:List dP}
end
noncomputable def mS:List D->Option (List Int)
 |[]=>Z []
 | .int i::ds=>(mS ds).map λis=>i::is
 |_=>Y
noncomputable def ddI(ns:List Int):List Int:=ns.foldl OP []
theorem pd:∀(ns acc:List Int),acc.Nodup->(ns.foldl OP acc).Nodup
 |[],acc,h=>h
 |n::ns,acc,h=>by
  rw[ca];refine pd ns _ ?_;unfold OP;split
  ·exact h
  ·rename_i f;rw[bB];refine⟨h,by simp,λa d b c e=>?_⟩;simp at c;apply f;rw[bU];exact⟨a,d,by simp[e,c]⟩
theorem uH(ns:List Int):firstMet (λi=>ns.getD i 0) ns.length=ddI ns:=by
 unfold firstMet ddI
 congr 1
 apply List.ext_getElem
 ·simp
 ·intro i h1 h2;simp at h1 ⊢;rw[gG1 (by omega)];rfl
theorem ql{K:Fg1}{H:Hp}{mu:List dP}:∀{ds:List D} {vs:List V} {b:List dM} {ns:List Int},ej K H mu ds vs->eG vs b->mS ds=Z ns->N2 b ns/\ns.length=ds.length:=by
 intro ds vs b ns f a h
 induction f using ej.ind generalizing b ns with
 |hn=>cases h;cases a;exact⟨.nil,O⟩
 | @hc d v ds vs r t ih=>
  cases d with
  |int i=>
   obtain⟨c,e,h⟩:=PD h;cases h;cases r;cases a with
   |cons r a=>
    obtain⟨j,g⟩:=ih a e;obtain⟨tk,rfl⟩:=r;exact⟨.cons _ _ j,by rw[lC1,lC1,g]⟩
  |_=>cases h
theorem mF(l:List Int):(λk'=>l.any (· == k'))=λk'=>l.contains k':=by
 funext k
 induction l with
 |nil=>rfl
 |cons x xs ih=>rw[bf,List.contains_cons,ih,show(x == k)=(k == x)from Bool.beq_comm]
def sn:G1:=λd S=>match eg S d with
 |some (M,xs)=>(mS xs).bind λns=>if ns.length+1<OQ then Z (.ref S.length,S++[.iset (ddI ns)])else Y
 |_=>Y
theorem Jz{k:Nat}(hr:gl k X.A):fi X (.type "set") (rN X.K (b1 sn)):=by
 intro ag s σ H xs G Q I r h;obtain⟨x,mu,S,d,am,K,rfl,v,i,c,hc⟩:=xZ h;unfold sn at c;split at c
 ·rename_i ys w;obtain⟨ns,e,c⟩:=PC c;split at c
  ·rename_i F;cases c;obtain⟨a,vs,rfl,q,t⟩:=er v i w;cases r with
   |cons y rt=>
    cases rt;cases y;obtain⟨f,A,⟨o,n,B,l,C,D⟩,_⟩:=I.list q;obtain⟨hi,m⟩:=ql t A e;have g:f.toArray.size=ns.length:=by rw[sT1,hi.length]
    refine PySem.call_set_list (items:=f.toArray) (ns:=ns) hr.hd ⟨o,B,l,⟨n,D⟩⟩ (by simpa using hi) (by rw[g];exact F) λh' tk j p=>?_;rw[g,uH]at j;have nd:(ddI ns).Nodup:=pd ns [] bp;have E:=mF (ddI ns);rw[E]at j;refine⟨.ref s.heap.objs.size,upd H s.heap.objs.size (.set (λk=>(ddI ns).contains k) (ddI ns).length),I.laid (λb u z=>p b u (hL1 z) z) (nR1 _) j,O,?_⟩;exact hc _ _ (mu++[s.heap.objs.size]) (Ext.new_ I.fresh) (.ref (gA i.len _)) (i.new I.fresh ⟨eI,nd⟩)
  ·cases c
 ·cases c
def oS:G1:=λd S=>match d with
 | .ref n=>match S[n]? with
  |some (.iset xs)=>Z (.int xs.length,S)
  |_=>eQ d S
 |_=>eQ d S
theorem BN:fi X (.builtin "len") (rN X.K (b1 oS)):=by
 intro ag s σ H xs m Q I r h;obtain⟨x,mu,S,d,k,l,g,j,b,a,hc⟩:=xZ h;have p:=a;unfold oS at a;split at a
 ·rename_i n;split at a
  ·rename_i ys e;cases a;subst g;cases j with
   |ref i=>
    obtain⟨q,nd⟩:=b.iset e i;cases r with
    |cons z rt=>
     cases rt;cases z;have v:=I.hok _ _ q;obtain⟨o,es,ep,t,u,f,w,_,_,c,y,i⟩:=v;refine PySem.call_len_set u f w y (by unfold OQ at c;lia) ?_;refine⟨.int es.size,H,I.tok _,⟨_,O⟩,?_⟩;rw[i];exact hc.now (.int _) b
  ·exact eT ag s σ H xs m Q I r (by subst g;exact⟨mu,S,[_],k,l,.cons j .nil,b,(show b1 eQ [_] S=_ from a),hc⟩)
 ·exact eT ag s σ H xs m Q I r (by subst g;exact⟨mu,S,[_],k,l,.cons j .nil,b,(show b1 eQ [_] S=_ from a),hc⟩)
@[elab_as_elim] theorem Mm {P:List dM->Prop}{us:List dM}(l:us.length=0)(f:P []):P us:=by
 cases us with
 |nil=>exact f
 |cons _ _=>cases l
@[elab_as_elim] theorem Ly {P:List dM->Prop}{us:List dM}(l:us.length=1)(f:∀a,P [a]):P us:=by
 cases us with
 |nil=>cases l
 |cons a us=>exact Mm (P:=λus=>P (a::us)) (Nat.succ.inj l) (f a)
@[elab_as_elim] theorem KU {P:List dM->Prop}{us:List dM}(l:us.length=2)(f:∀a b,P [a,b]):P us:=by
 cases us with
 |nil=>cases l
 |cons a us=>exact Ly (P:=λus=>P (a::us)) (Nat.succ.inj l) (f a)
@[elab_as_elim] theorem Lx {P:List dM->Prop}{us:List dM}(l:us.length=3)(f:∀a b c,P [a,b,c]):P us:=by
 cases us with
 |nil=>cases l
 |cons a us=>exact KU (P:=λus=>P (a::us)) (Nat.succ.inj l) (f a)
@[elab_as_elim] theorem Ml {P:List dM->Prop}{us:List dM}(l:us.length=4)(f:∀a b c d,P [a,b,c,d]):P us:=by
 cases us with
 |nil=>cases l
 |cons a us=>exact Lx (P:=λus=>P (a::us)) (Nat.succ.inj l) (f a)
@[elab_as_elim] theorem zl9{n:Nat}{P:List dM->Prop}{us:List dM}(l:us.length=n)(f:∀g:Nat->dM,P ((OR n).map g)):P us:=by
 subst l;have e:(OR us.length).map (λi=>us.getD i .none)=us:=by
  refine List.ext_getElem (by simp) λi h1 h2=>?_
  simp [h2]
 exact e ▸ f _
end Mi
namespace HT
open PySem PySem.Spec PyProof.Rows
variable{prog:dQ}{w:dS}{A:dR}{E:dM->dN->Prop}{s:dN}
end HT
namespace Mi
open PySem PySem.Spec PyProof.Rows L2
section
variable{X:Cx}
end
end Mi
namespace HT
open PySem PySem.Spec PyProof.Rows
section
variable{prog:dQ}{w:dS}{A:dR}{R:Result->dN->Prop}{I ax L:dP}{xs:Array dM}
abbrev Kp(I L:dP)(h h':dZ):Prop:=∀p u,p≠I->p≠L->h.get? p=Z u->h'.get? p=Z u
end
section
variable{prog:dQ}{w:dS}{A:dR}{E:dM->dN->Prop}{s:dN}
end
end HT
namespace Mi
open PySem PySem.Spec PyProof.Rows L2
variable{X:Cx}
section
variable{elt tg iter tg2 iter2 tg3 iter3:Expr}{ifs ifs2 ifs3:List Expr}{scope:d4}{pos:Pos}
end
noncomputable def yx(a:Int):List Int->List Int
 |[]=>[a]
 |b::l=>if a<=b then a::b::l else b::yx a l
def jB:List Int->List Int
 |[]=>[]
 |a::l=>yx a (jB l)
theorem mT(a:Int):∀l:List Int,(yx a l).Perm (a::l)
 |[]=>.refl _
 |b::l=>by
  rw[yx];split
  ·exact .refl _
  ·exact((mT a l).cons b).trans (.swap _ _ _)
theorem fI:∀l:List Int,(jB l).Perm l
 |[]=>.refl _
 |a::l=>(mT a _).trans ((fI l).cons a)
theorem w8{a:Int}:∀{l:List Int},l.Pairwise (· <= ·)->(yx a l).Pairwise (· <= ·)
 |[],_=>cb _ _
 |b::l,h=>by
  rw[cc]at h;rw[yx];split
  ·rename_i c;rw [cc,cc];exact ⟨fun x d=>by
    rcases aF.mp d with z|z
    ·lia
    ·have:=h.1 x z;lia,h.1,h.2⟩
  ·rename_i c;rw[cc];refine⟨λx d=>?_,w8 h.2⟩;rcases aF.mp ((mT a l).mem_iff.mp d)with z|z
   ·lia
   ·exact h.1 x z
theorem iQ:∀l:List Int,(jB l).Pairwise (· <= ·)
 |[]=>.nil
 |a::l=>w8 (iQ l)
theorem nN:∀{a b:List Int},a.Perm b->a.Pairwise (· <= ·)->b.Pairwise (· <= ·)->a=b
 |[],b,p,_,_=>(List.nil_perm.mp p).symm
 |x::a,[],p,_,_=>absurd p.length_eq (by simp)
 |x::a,y::b,p,h1,h2=>by
  rw[cc]at h1 h2;have e:x=y:=by
   have d:=p.mem_iff.mp (mS1 (a:=x) (l:=a));have f:=p.mem_iff.mpr (mS1 (a:=y) (l:=b));rcases aF.mp d with z|z
   ·exact z
   ·rcases aF.mp f with c|c
    ·exact c.symm
    ·have:=h2.1 x z;have:=h1.1 y c;lia
  subst e;rw[nN (List.perm_cons x |>.mp p) h1.2 h2.2]
noncomputable def nk:List D->Option (List Int)
 |[]=>Z []
 | .int i::l=>(nk l).map λt=>i::t
 |_=>Y
theorem qj{K:Fg1}{H:Hp}{mu:List dP}:∀{ds:List D} {vs:List V} {a:List dM} {ns:List Int},ej K H mu ds vs->eG vs a->nk ds=Z ns->N2 a ns:=by
 intro ds
 induction ds with
 |nil=>intro vs a ns r v h;cases r;cases v;cases h;exact .nil
 |cons d ds ih=>
  intro vs a ns r v h;cases r with
  |cons c t=>
   cases v with
   |cons f b=>
    cases c
    case int i=>
     obtain⟨m,e,h⟩:=PD h;subst h;obtain⟨tk,rfl⟩:=f;exact .cons i tk (ih t b e)
    all_goals cases h
theorem qk:∀{us:List dM} {ns:List Int},N2 us ns->eG (ns.map V.int) us:=by
 intro us ns h
 induction h with
 |nil=>exact .nil
 |cons i t _ ih=>exact .cons ⟨t,O⟩ ih
theorem qm:∀{ds:List D} {ns:List Int},nk ds=Z ns->ns.length=ds.length:=by
 intro ds
 induction ds with
 |nil=>intro ns h;cases h;rfl
 |cons d ds ih=>
  intro ns h;cases d with
  |int i=>
   obtain⟨m,e,h⟩:=PD h;subst h;rw[lC1,lC1,ih e]
  |_=>cases h
theorem mG(n:Nat):∀ns:List Int,D.unds n (ns.map D.int)=M
 |[]=>rfl
 |_::ns=>by rw[mP1,D.unds,mG n ns];rfl
theorem D3{n:Nat}{d:D}{S:d7}(h:S.length=n):gc n (d,S)=(d,S):=by
 unfold gc;split
 ·rw[show(d,S).2=S from rfl,<- h,b4]
 ·rfl
theorem qu{n:Nat}{f:FN}{ds:List D}{S S1:d7}{d:D}(h:f ds []=Z (d,S1))(hn:ds.length=n)(a:D.unds 0 ds=M)(hd:d.und 0=M):ea n f ds S=Z (d,S):=by
 unfold ea qx;rw[ak hn,ak a,h,oP1,ak hd]
theorem uN{n:Nat}{f:FN}{ds:List D}{S S1:d7}{d:D}(h:f ds []=Z (d,S1))(hn:ds.length=n)(a:D.unds 0 ds=M)(hd:d.und 0=J):ea n f ds S=Z (d.sh S.length,S++S1.map (Ob.sh S.length)):=by
 unfold ea qx;rw[ak hn,ak a,h,oP1,aj (by dsimp only;rw[hd];decide)]
theorem qv{n:Nat}{f:FN}{ds:List D}{S S1:d7}{d:D}(h:f ds S=Z (d,S1))(hn:ds.length=n)(a:D.unds 0 ds=J):ea n f ds S=Z (gc S.length (d,S1)):=by
 unfold ea qx;rw[ak hn,aj (by rw[a];decide),h,oP1]
theorem yM{n:Nat}{f:FN}{ds:List D}{S S1:d7}{d:D}(h:f ds S=Z (d,S1))(hn:ds.length=n)(a:D.unds 0 ds=J)(b:S1.length=S.length):ea n f ds S=Z (d,S1):=by
 rw[qv h hn a,D3 b]
theorem t5{i j:Int}(h1: -(2^64)<i)(h2:i<2^64):fq i j=M:=by
 unfold fq;simp only[bR,bA1,al];exact .inl (.inl ⟨h1,h2⟩)
theorem wP{i j:Int}(h1: -(2^64)<j)(h2:j<2^64):fq i j=M:=by
 unfold fq;simp only[bR,bA1,al];exact .inl (.inr ⟨h1,h2⟩)
theorem fm{S:d7}{n:Nat}{xs:List D}(h:S[n]?=Z (.lst xs)):pC S [(n,xs)]=M:=by
 rw[pC,h];simp[D.sames_refl,pC]
noncomputable def ky(n:Nat):Nat->List D
 |0=>[]
 |k+1=>.ref n::ky (n+1) k
theorem t8:∀{n:Nat} {lo:Int} {d:D},d∈gb lo n -> ∃k:Int,d = .int k/\lo<=k/\k<lo+n
 |0,lo,d,h=>by simp[gb]at h
 |n+1,lo,d,h=>by
  rw[gb]at h;rcases aF.mp h with h|h
  ·exact⟨lo,h,Int.le_refl _,by lia⟩
  ·obtain⟨k,e,h1,h2⟩:=t8 h;exact⟨k,e,by lia,by lia⟩
theorem gU{n:Nat}:∀{xs:List D} {x:D},D.unds n xs=M->x∈xs->x.und n=M
 |y::ys,x,h,hx=>by
  rw[D.unds,bA1]at h;rcases aF.mp hx with e|e
  ·rw[e];exact h.1
  ·exact gU h.2 e
theorem kh{S:d7}{d:D}(h:d.und 0=M):eg S d=eg [] d:=by
 cases d with
 |ref n=>simp[D.und]at h
 |_=>rfl
theorem i8{S:d7}{d:D}(h:d.und 0=M){p:Bool×List D}(e:eg S d=Z p):D.unds 0 p.2=M:=by
 cases d with
 |ref n=>simp[D.und]at h
 |tup xs=>cases e;simpa[D.und]using h
 |rol xs=>cases e;simpa[D.und]using h
 |_=>cases e
theorem qp{f f':D->D->Option Bool}:∀{xs ys:List D},(∀x∈xs,∀y∈ys,f x y=f' x y)->xr f xs ys=xr f' xs ys
 |[],[],_=>rfl
 |[],_::_,_=>rfl
 |_::_,[],_=>rfl
 |x::xs,y::ys,h=>by
  rw[xr,xr,h x mS1 y mS1,qp λa c b d=>h a (mC1 _ c) b (mC1 _ d)]
theorem xp{S:d7}:∀{n:Nat} {d e:D},d.und 0=M->e.und 0=M->hL S n d e=hL [] n d e
 |0,_,_,_,_=>rfl
 |n+1,d,e,hd,he=>by
  rw[hL,hL,kh hd,kh he];cases h1:eg [] d with
  |none=>cases eg [] e<;>rfl
  |some p=>
   cases h2:eg [] e with
   |none=>rfl
   |some q=>
    dsimp only;have a:=i8 hd h1;have g:=i8 he h2;rw[qp (f:=hL S n) (f':=hL [] n) λx b y c=>xp (gU a b) (gU g c)]
theorem qc{f f' g g':D->D->Option Bool}:∀{xs ys:List D},(∀x∈xs,∀y∈ys,f x y=f' x y)->(∀x∈xs,∀y∈ys,g x y=g' x y)->vJ f g xs ys=vJ f' g' xs ys
 |[],[],_,_=>rfl
 |[],_::_,_,_=>rfl
 |_::_,[],_,_=>rfl
 |x::xs,y::ys,h,k=>by
  rw[vJ,vJ,h x mS1 y mS1,k x mS1 y mS1,qc (λa c b d=>h a (mC1 _ c) b (mC1 _ d)) λa c b d=>k a (mC1 _ c) b (mC1 _ d)]
theorem wU{S:d7}:∀{n:Nat} {d e:D},d.und 0=M->e.und 0=M->k7 S n d e=k7 [] n d e
 |0,_,_,_,_=>rfl
 |n + 1,d,e,h,k=>by
  rw[k7,k7,kh h,kh k];cases J8 d e with
  |some b=>rfl
  |none=>
   cases h1:eg [] d with
   |none=>rfl
   |some p=>
    cases h2:eg [] e with
    |none=>rfl
    |some q=>
     dsimp only;have j:=i8 h h1;have i:=i8 k h2;rw[qc (f:=hL S n) (f':=hL [] n) (g:=k7 S n) (g':=k7 [] n) (λx c y a=>xp (gU j c) (gU i a)) λx c y a=>wU (gU j c) (gU i a)]
open Classical in
noncomputable def rkV(ws:List dM)(x:dM):Nat:=ws.findIdx λy=>decide (y=x)
theorem zS{ws:List dM}{x:dM}(h:x∈ws):ws[rkV ws x]?=Z x:=by
 have a:rkV ws x<ws.length:=List.findIdx_lt_length_of_exists ⟨x,h,by simp⟩;rw[gG1 a];have:=List.findIdx_getElem (w:=a);have e:ws[rkV ws x]=x:=N9 this;rw[e]
def kR(ws:List dM)(xs:Array OS)(i:Nat):Nat:=(xs[i]?.map λp=>rkV ws p.1).getD 0
theorem gX{ws:List dM}{xs ys:Array OS}{i j:Nat}(h:xs[i]?=ys[j]?):kR ws xs i=kR ws ys j:=by unfold kR;rw[h]
def Up(ws:List dM)(xs:Array OS)(k:Nat):Prop:=∀i j,i<j->j<k->kR ws xs i<kR ws xs j
def Dn(ws:List dM)(xs:Array OS)(k:Nat):Prop:=∀i j,i<j->j<k->kR ws xs j<kR ws xs i
structure SoB (κ:OT)(a₀:Array OS)(st:OU):Prop where
 perm:(OV st).Perm a₀
 kind:kindOf st=κ
 failed:OW st=none
 pend:OX st = #[]
theorem SoB.arr{κ:OT}{a₀:Array OS}{st:OU}(b:SoB κ a₀ st){xs:Array OS}(p:xs.Perm (OV st)):SoB κ a₀ (setArr st xs):=⟨p.trans b.perm,b.kind,b.failed,b.pend⟩
structure ju (prog:dQ)(w:dS)(A:dR)(s:dN)(κ:OT)(ws:List dM)(a₀:Array OS):Prop where
 nd:ws.Nodup
 keys:(a₀.toList.map (·.1)).Perm ws
 lt:∀(x y:dM) (i j:Nat),ws[i]?=some x->ws[j]?=some y->i≠j -> ∀(E:dM->dN->Prop) (Q:Bool->dN->Prop),Q (decide (i<j)) s->dX (Mw prog w) A (keyLt' κ x y) Q E s
variable{prog:dQ}{w:dS}{A:dR}{E:dM->dN->Prop}{s:dN}
section
variable{κ:OT}{ws:List dM}{a₀:Array OS}
theorem ju.at_(C:ju prog w A s κ ws a₀){xs:Array OS}(p:xs.Perm a₀){i:Nat}(hi:i<a₀.size):∃x q,xs[i]?=Z (x,q)/\ws[kR ws xs i]?=Z x:=by
 have a:i<xs.size:=by rw[p.size_eq];exact hi
 refine⟨xs[i].1,xs[i].2,aG1 a,?_⟩;have b:xs[i]∈a₀.toList:=(cf.mp p).mem_iff.mp (by simp);have:=zS (C.keys.mem_iff.mp (cg.mpr ⟨_,b,O⟩));unfold kR;rw[aG1 a];exact this
theorem ju.inj(C:ju prog w A s κ ws a₀){xs:Array OS}(p:xs.Perm a₀){i j:Nat}(hi:i<a₀.size)(f:j<a₀.size)(h:kR ws xs i=kR ws xs j):i=j:=by
 obtain⟨x,q,g,a⟩:=C.at_ p hi;obtain⟨y,r,e,d⟩:=C.at_ p f;rw[h,d]at a;cases a;have nd:(xs.toList.map (·.1)).Nodup:=(((cf.mp p).map (·.1)).trans C.keys).nodup_iff.mpr C.nd;have b:(xs.toList.map (·.1))[i]?=Z x:=by rw[gP1,aT1,g];rfl
 have c:(xs.toList.map (·.1))[j]?=Z x:=by rw[gP1,aT1,e];rfl
 exact(List.getElem?_inj (PB b).1 nd).mp (b.trans c.symm)
theorem ju.cmp(C:ju prog w A s κ ws a₀){st:OU}{i j:Nat}{Q:Option Bool->OU->Prop}(b:SoB κ a₀ st)(hi:i<a₀.size)(d:j<a₀.size)(a:i≠j)(h:Q (Z (decide (kR ws (OV st) i<kR ws (OV st) j))) st):wpS (Mw prog w) A E s (ltAt' i j) Q st:=by
 obtain⟨x,q,k,e⟩:=C.at_ b.perm hi;obtain⟨y,r,g,f⟩:=C.at_ b.perm d;have c:kR ws (OV st) i≠kR ws (OV st) j:=λz=>a (C.inj b.perm hi d z);rw[ltAt'_eq];refine OY (OZ ?_);show wpS _ _ _ _ (do let x<-elem' (OV st) i;let y<-elem' (OV st) j;lt' x y) Q st;rw[elem'_eq,elem'_eq,k,g];refine OY (O0 (OY (O0 ?_)));rw[lt'_eq];refine OY (OZ ?_);rw[b.kind];exact OY (O1 (On (C.lt x y _ _ e f c _ _ ⟨O,O0 h⟩)))
theorem Up.one{xs:Array OS}:Up ws xs 1:=λi j h1 h2=>by lia
theorem Up.snoc{xs:Array OS}{n:Nat}(u:Up ws xs n)(h:n=0\/kR ws xs (n-1)<kR ws xs n):Up ws xs (n+1):=λi j h1 h2=>by
 by_cases z:j<n
 ·exact u i j h1 z
 ·have b:j=n:=by lia
  subst b;rcases h with h|h
  ·lia
  ·by_cases a:i=j-1
   ·rw[a];exact h
   ·exact bi (u i (j-1) (by lia) (by lia)) h
theorem Dn.snoc{xs:Array OS}{n:Nat}(u:Dn ws xs n)(h:kR ws xs n<kR ws xs (n-1)):Dn ws xs (n+1):=λi j h1 h2=>by
 by_cases z:j<n
 ·exact u i j h1 z
 ·have b:j=n:=by lia
  subst b;by_cases a:i=j-1
  ·rw[a];exact h
  ·exact bi h (u i (j-1) (by lia) (by lia))
theorem zJ(C:ju prog w A s κ ws a₀){st:OU}{a d:Nat}{Q:AscSt->OU->Prop}(hn:d<=a₀.size)(ha:1<=a)(g:a<=d)(b:SoB κ a₀ st)(u:Up ws (OV st) a)(h:∀n,a<=n->n<=d->Up ws (OV st) n->(n=d\/kR ws (OV st) n<kR ws (OV st) (n-1))->Q (Y,n) st):wpS (Mw prog w) A E s (ascLoop a d) Q st:=by
 unfold ascLoop;refine O2 (λx c st'=>st'=st/\c=(Y,x)/\Up ws (OV st) x) ?_ ?_ ⟨O,O,u⟩
 ·rintro x c st' h1 h2 ⟨rfl,rfl,f⟩;refine OY (C.cmp b (by lia) (by lia) (by lia) ?_);by_cases z:kR ws (OV st') x<kR ws (OV st') (x-1)
  ·simp only[z,O3,NL];exact O0 (h x h1 (by lia) f (.inr z))
  ·simp only[z,O4,bF1,NJ];have:kR ws (OV st') x≠kR ws (OV st') (x-1):=λe=>by have:=C.inj b.perm (by lia) (by lia) e;lia
   exact O0 ⟨O,O,f.snoc (.inr (by lia))⟩
 ·rintro c st' ⟨rfl,rfl,f⟩;rw[ci g]at f ⊢;exact h d g (nR1 _) f (.inl O)
theorem Cw(C:ju prog w A s κ ws a₀){st:OU}{n a:Nat}{Q:Option Nat->OU->Prop}(hn:a<=a₀.size)(h1:1<=n)(f:n<=a)(b:SoB κ a₀ st)(d:Dn ws (OV st) n)(h:∀m st',SoB κ a₀ st'->m<=a->Up ws (OV st') m->Q (Z m) st'):wpS (Mw prog w) A E s (tail3 n a) Q st:=by
 unfold tail3;have e:n<=(OV st).size:=by rw[b.perm.size_eq];lia
 have l:SoB κ a₀ (setArr st (mirror (OV st) 0 n ((n-0)/2))):=b.arr (mirror_perm _ _ _ _);refine OY (wpS_reverse (OY (zJ C hn h1 f l (λi j o c=>?_) λm o c u _=>O0 (h m _ l c u))));have g:∀k,k<n->kR ws (mirror (OV st) 0 n ((n-0)/2)) k=kR ws (OV st) (n-1-k):=λk p=>gX (by
  rw[getElem?_mirror_all e,ak (by lia)]
  congr 1;lia)
 show kR ws (mirror (OV st) 0 n ((n-0)/2)) i<kR ws (mirror (OV st) 0 n ((n-0)/2)) j;rw[g i (by lia),g j c];exact d _ _ (by lia) (by lia)
theorem Cz(C:ju prog w A s κ ws a₀){st:OU}{n a:Nat}{Q:DescSt->OU->Prop}(hn:a<=a₀.size)(h1:1<=n)(g:n<=a)(b:SoB κ a₀ st)(d:Dn ws (OV st) n)(h:∀m,n<=m->m<=a->Dn ws (OV st) m->Q (Y,m,0) st):wpS (Mw prog w) A E s (descLoop n a) Q st:=by
 unfold descLoop;refine O2 (λx c st'=>st'=st/\c=(Y,x,0)/\Dn ws (OV st) x) ?_ ?_ ⟨O,O,d⟩
 ·rintro x c st' h2 j ⟨rfl,rfl,f⟩;dsimp only;refine OY (C.cmp b (by lia) (by lia) (by lia) ?_);by_cases z:kR ws (OV st') x<kR ws (OV st') (x-1)
  ·simp only[z,O3,NL];exact O0 ⟨O,O,f.snoc z⟩
  ·simp only [z,O4,bF1,NJ];have i:kR ws (OV st') (x-1)<kR ws (OV st') x:=by
    have:kR ws (OV st') x≠kR ws (OV st') (x-1):=λe=>by have:=C.inj b.perm (by lia) (by lia) e;lia
    lia
   refine OY (C.cmp b (by lia) (by lia) (by lia) ?_);simp only[i,O3,NL];exact O0 (h x h2 (by lia) f)
 ·rintro c st' ⟨rfl,rfl,f⟩;rw[ci g]at f ⊢;exact h a g (nR1 _) f
theorem Fk(C:ju prog w A s κ ws a₀){st:OU}{a:Nat}{Q:Option Nat->OU->Prop}(hn:a<=a₀.size)(h1:1<=a)(b:SoB κ a₀ st)(h:∀m st',SoB κ a₀ st'->m<=a->Up ws (OV st') m->Q (Z m) st'):wpS (Mw prog w) A E s (countRun' 0 a) Q st:=by
 rw[countRun0_eq];refine OY (zJ C hn (nR1 1) h1 b .one λn h2 g u or=>?_);dsimp only;by_cases z:n=a
 ·rw[ak (by simpa using z)];exact O0 (h n st b g u)
 ·rw[aj (by simpa using z)];have o:=or.resolve_left z;by_cases f:n>1
  ·rw[ak f];have:=u 0 (n-1) (by lia) (by lia);refine OY (C.cmp b (by lia) (by lia) (by lia) ?_);simp only[this,O3,NL];exact O0 (h n st b g u)
  ·rw[aj f];have e:n=1:=by lia
   subst e;unfold descPart;refine OY (O1 (Nb ⟨O,?_⟩));refine OY (Cz C hn (by lia) (by lia) b (λi j k c=>?_) λm k c d=>?_)
   ·have p:i=0:=by lia
    have l:j=1:=by lia
    subst p;subst l;exact o
   ·dsimp only;rw[aj (by lia)];exact Cw C hn (by lia) c b d h
theorem Fm(C:ju prog w A s κ ws a₀){st:OU}{n ok:Nat}{Q:Bool->OU->Prop}(hn:n<=a₀.size)(H:ok<=n)(b:SoB κ a₀ st)(u:Up ws (OV st) ok)(h:∀st',SoB κ a₀ st'->Up ws (OV st') n->Q M st'):wpS (Mw prog w) A E s (binarySort' 0 n ok) Q st:=by
 rw[binarySort'_eq];simp only[bQ];refine OY (O5 (O2 (λk c st'=>c=(Y,())/\SoB κ a₀ st'/\Up ws (OV st') (min k n)) (Q:=λc st'=>c=(Y,())/\SoB κ a₀ st'/\Up ws (OV st') n) ?_ ?_ ⟨O,b,λi j h1 h2=>?_⟩) ?_)
 ·rintro k c st' I D ⟨rfl,f,d⟩;rw[bC (by lia)]at d;have q:k<(OV st').size:=by rw[f.perm.size_eq];lia
  refine OY (O5 (O2 (λx c a=>a=st' /\ ∃l r,c=(Y,l,r)/\l<=r/\r<=k/\r-l<=k-x/\(∀i,i<l->kR ws (OV st') i<kR ws (OV st') k) /\ ∀i,r<=i->i<k->kR ws (OV st') k<kR ws (OV st') i)
   (Q:=λc a=>a=st' /\ ∃l r,c=(Y,l,r)/\l<=k/\(∀i,i<l->kR ws (OV st') i<kR ws (OV st') k) /\ ∀i,l<=i->i<k->kR ws (OV st') k<kR ws (OV st') i) ?_ ?_ ⟨O,0,k,O,by lia,by lia,by lia,λi h1=>by lia,λi h1 h2=>by lia⟩) ?_)
  ·rintro x c a _ am ⟨rfl,l,r,rfl,h1,h2,v,o,p⟩;dsimp only;by_cases z:l>=r
   ·rw[ak z];have e:l=r:=by lia
    subst e;exact O0 ⟨O,l,l,O,h2,o,p⟩
   ·rw[aj z];refine OY (C.cmp f (by lia) (by lia) (by lia) ?_);by_cases m:kR ws (OV a) k<kR ws (OV a) ((l+r)/2)
    ·simp only[m,O3,NL];refine O0 ⟨O,l,(l+r)/2,O,by lia,by lia,by lia,o,λi G F=>?_⟩;by_cases t:(l+r)/2=i
     ·rw[<- t];exact m
     ·exact bi m (d _ i (by lia) F)
    ·simp only [m,O4,bF1,NJ];refine O0 ⟨rfl,(l+r)/2+1,r,rfl,by lia,by lia,by lia,fun i G=>?_,p⟩;have B:kR ws (OV a) ((l+r)/2)<kR ws (OV a) k:=by
      have:kR ws (OV a) k≠kR ws (OV a) ((l+r)/2):=λe=>by have:=C.inj f.perm (by lia) (by lia) e;lia
      lia
     by_cases t:i=(l+r)/2
     ·rw[t];exact B
     ·exact bi (d i _ (by lia) (by lia)) B
  ·rintro c a ⟨rfl,l,r,rfl,h1,h2,v,o,p⟩;have e:l=r:=by lia
   subst e;exact⟨O,l,l,O,h2,o,p⟩
  ·rintro c a ⟨rfl,l,r,rfl,h1,h2,v⟩;show wpS _ _ _ _ (do moveDown' k l;pure (Of (none,()))) _ _;rw [moveDown'_eq];refine OY (O6 (O0 ⟨rfl,f.arr (bubble_perm _ _ _),?_⟩));rw [bC (by lia)];have g:∀ i,kR ws (bubble (OV a) k (k-l)) i=if i=l then kR ws (OV a) k else if l<i/\i<=k then kR ws (OV a) (i-1) else kR ws (OV a) i:=fun i=>by
    have e:=getElem?_bubble q (k-l) (by lia) i;rw[show k-(k-l)=l by lia]at e;by_cases y:i=l
    ·rw[ak y]at e ⊢;exact gX e
    ·rw[aj y]at e ⊢;by_cases m:l<i/\i<=k
     ·rw[ak m]at e ⊢;exact gX e
     ·rw[aj m]at e ⊢;exact gX e
   intro i j o p;show kR ws (bubble (OV a) k (k-l)) i<kR ws (bubble (OV a) k (k-l)) j;rw[g,g]
   repeat' split
   all_goals first
    |(exfalso;lia)
    |exact h2 _ (by lia)
    |exact v _ (by lia) (by lia)
    |exact d _ _ (by lia) (by lia)
 ·rintro c st' ⟨hc,f,d⟩;refine⟨hc,f,?_⟩
  rwa [show min (max (max ok 1) n) n=n by lia]at d
 ·by_cases z:ok=0
  ·lia
  ·exact u i j h1 (by lia)
 ·rintro c st' ⟨rfl,f,d⟩;exact O0 (h st' f d)
theorem Fn(C:ju prog w A s κ ws a₀){st:OU}{Q:Unit->OU->Prop}(b:SoB κ a₀ st)(h2:2<=a₀.size)(g:a₀.size<64)(h:∀st',(OV st').Perm a₀->OW st'=Y->Up ws (OV st') a₀.size->Q () st'):wpS (Mw prog w) A E s sortRuns' Q st:=by
 rw[sortRuns'_eq];refine OY (OZ ?_);dsimp only;have j:minRun' a₀.size a₀.size 0=a₀.size:=by
  generalize t:a₀.size=z at *
  cases z with
  |zero=>lia
  |succ f=>rw[minRun'_succ,ak g]
 simp only[b.perm.size_eq,j];have done:∀st',SoB κ a₀ st'->Up ws (OV st') a₀.size->(OV (setPending st' ((OX st').push (0,a₀.size,0)))).Perm a₀/\OW (setPending st' ((OX st').push (0,a₀.size,0)))=Y/\OX (setPending st' ((OX st').push (0,a₀.size,0))) = #[(0,a₀.size,0)]/\Up ws (OV (setPending st' ((OX st').push (0,a₀.size,0)))) a₀.size:=λst' d l=>
  ⟨d.perm,d.failed,by show(OX st').push _=_;rw[d.pend];rfl,l⟩
 refine OY (O5 (O2
  (λx c st'=>(x=0/\c=(Y,0)/\SoB κ a₀ st')\/(1<=x/\c=(Y,a₀.size)/\(OV st').Perm a₀/\OW st'=Y/\OX st' = #[(0,a₀.size,0)]/\Up ws (OV st') a₀.size))
  (Q:=λc st'=>c=(Y,a₀.size)/\(OV st').Perm a₀/\OW st'=Y/\OX st' = #[(0,a₀.size,0)]/\Up ws (OV st') a₀.size) ?_ ?_ (.inl ⟨O,O,b⟩)) ?_)
 ·rintro x c st' _ q (⟨rfl,rfl,d⟩|⟨p,rfl,D⟩)
  ·dsimp only;rw[aj (by lia)];simp only[Nat.sub_zero,Nat.min_self,bQ];refine OY (Fk C (nR1 _) (by lia) d λm a b2 r k=>?_);dsimp only;by_cases z:m<a₀.size
   ·rw[ak z];refine OY (O1 (Nb ⟨O,?_⟩));refine OY (Fm C (nR1 _) r b2 k λi b3 n=>?_);simp only[b7,bF1,NJ];refine OY (OZ ?_);rw[b3.pend];exact OY (O6 (O0 (.inr ⟨by lia,O,done i b3 n⟩)))
   ·rw[aj z];have e:m=a₀.size:=by lia
    subst e;refine OY (OZ ?_);rw[b2.pend];exact OY (O6 (O0 (.inr ⟨by lia,O,done a b2 k⟩)))
  ·dsimp only;rw[ak (nR1 _)];exact O0 ⟨O,D⟩
 ·rintro c st' (⟨q,_⟩|⟨_,hc,D⟩)
  ·lia
  ·exact⟨hc,D⟩
 ·rintro c st' ⟨rfl,D⟩;dsimp only;refine OY (O5 (O2 (λ_ c a=>a=st'/\c=(Y,())) (Q:=λc a=>a=st'/\c=(Y,())) ?_ (λ_ _ o=>o) ⟨O,O⟩) ?_)
  ·rintro x c a _ _ ⟨rfl,rfl⟩;refine OY (OZ ?_);rw[ak (by rw[D.2.2.1];exact nR1 1)];exact O0 ⟨O,O⟩
  ·rintro c a ⟨rfl,rfl⟩;exact O0 (h _ D.1 D.2.1 D.2.2.2)
theorem zI(C:ju prog w A s κ ws (O7 vs)){xs:Array OS}(p:xs.Perm (O7 vs))(u:Up ws xs (O7 vs).size):xs.map (·.2)=ws.toArray:=by
 have m:ws.length=(O7 vs).size:=by rw[<- C.keys.length_eq,lM1];simp
 have b:∀i,i<(O7 vs).size->i<=kR ws xs i:=by
  intro i
  induction i with
  |zero=>intro _;lia
  |succ i ih=>intro h;have:=ih (by lia);have:=u i (i+1) (by lia) h;lia
 have a:∀d i,i+d+1=(O7 vs).size->kR ws xs i<=i:=by
  intro d
  induction d with
  |zero=>
   intro i h;obtain⟨x,q,_,f⟩:=C.at_ p (i:=i) (by lia);have:=(PB f).1;lia
  |succ d ih=>
   intro i h;have:=ih (i+1) (by lia);have:=u i (i+1) (by lia) (by lia);lia
 apply Array.ext
 ·rw[Array.size_map,p.size_eq,<- m];simp
 ·intro i h1 h2;rw[Array.size_map,p.size_eq]at h1;have l:kR ws xs i=i:=Nat.le_antisymm (a ((O7 vs).size-1-i) i (by lia)) (b i h1);obtain⟨x,q,e,f⟩:=C.at_ p h1;rw[l]at f;have j:(x,q)∈(O7 vs).toList:=(cf.mp p).mem_iff.mp (aO.mpr (cj e));rw[pairsOf_toList]at j;have k:x=q:=(mem_zip_self j).1;have g:(xs.map (·.2))[i]?=Z q:=by rw[Array.getElem?_map,e];rfl
  have c:ws.toArray[i]?=Z x:=by rw[ck];exact f
  rw[aG1 (by rw[Array.size_map,p.size_eq];exact h1)]at g;rw[aG1 h2]at c;rw[Option.some.inj g,Option.some.inj c,k]
end
theorem Aq{p q:dM}{b:Bool}{Q:Bool->dN->Prop}(r:B3 A.in1 s p q b)(h:Q b s):dX (Mw prog w) A (oneLt' J p q) Q E s:=by
 rw[oneLt'_eq];simp only[bF1,NJ];exact wB1 (wpAny_of_in1 (r prog w E _ (MV h)))
theorem ji(f:Bool)(x y:dM):keyLt' (O8 f) x y=(do
  let xs<-O9 x
  let ys<-O9 y
  for ((p,q),i) in (xs.toList.zip ys.toList).zipIdx do
   if !(<- eqBool p q)then return<-oneLt' (f&&i == 0) p q
  return decide (xs.size<ys.size)):=rfl
theorem G0{a b:dP}{f zs:List dM}{k:Bool}{Q:Bool->dN->Prop}(ha:L3 s.heap a f.toArray)(hb:L3 s.heap b zs.toArray)(L:uW A s f zs k)(h:Q k s):
  dX (Mw prog w) A (keyLt' (O8 J) (.ref a) (.ref b)) Q E s:=by
 rw[ji];obtain⟨o,u,v,_,m⟩:=ha;obtain⟨y,r,B,_,n⟩:=hb;refine wB1 (Pa u m (wB1 (Pa r n ?_)));simp only[Bool.false_and];refine wB1 (MU (OE _ (λrest c s'=>s'=s/\c=(Y,()) /\ ∃(i:Nat) (vs ws:List dM),rest=(vs.zip ws).zipIdx i/\uW A s vs ws k/\vs.length+zs.length=ws.length+f.length)
  (λc s'=>s'=s/\(c=(Z k,())\/(c=(Y,())/\k=decide (f.length<zs.length)))) ?_ ?_ _ _ ⟨O,O,0,f,zs,O,L,by lia⟩) ?_ λ_ _ e=>e)
 ·rintro x rest c s' ⟨rfl,rfl,i,vs,ws,d,j,g⟩;cases j with
  |nn=>simp at d
  |nc _ _=>simp at d
  |cn _ _=>simp at d
  | @eq p q ps l _ e t=>
   rw[bW,bN]at d;cases d;refine wB1 (e.of_in1 prog w E _ ?_);simp only[b7,bF1,NJ];exact wP1 ⟨O,O,i+1,ps,l,O,t,by simp at g;lia⟩
  | @lt p q ps l _ e t=>
   rw[bW,bN]at d;cases d;refine wB1 (e.of_in1 prog w E _ ?_);simp only[cm,NL];exact wB1 (Aq t (wP1 ⟨O,.inl O⟩))
 ·rintro c s' ⟨rfl,rfl,i,vs,ws,d,j,g⟩;refine⟨O,.inr ⟨O,?_⟩⟩;cases j with
  |nn=>simp at g;rw[ai (by lia)]
  |nc _ _=>simp at g;rw[ah (by lia)]
  |cn _ _=>simp at g;rw[ai (by lia)]
  |eq _ _=>simp at d
  |lt _ _=>simp at d
 ·rintro c s' ⟨rfl,z⟩;rcases z with rfl|⟨rfl,z⟩
  ·exact wP1 h
  ·refine wP1 ?_;rw[sT1,sT1,<- z];exact h
theorem l5{ao:Model}{α β:Type}{f:α->Sem β}{P:α->β->Prop}:∀ {l:List α} {Q:List β->dN->Prop},(∀ v∈l,∃ r,P v r /\ ∀ Q:β->dN->Prop,Q r s->dX ao A (f v) Q E s) ->
  (∀rs,rs.length=l.length->(∀r∈rs,∃v∈l,P v r)->Q rs s)->dX ao A (l.mapM f) Q E s
 |[],Q,_,q=>by rw[List.mapM_nil];exact wP1 (q [] rfl λr a=>by cases a)
 |v::l,Q,h,q=>by
  rw[List.mapM_cons];obtain⟨r,p,a⟩:=h v mS1;refine wB1 (a _ ?_);refine wB1 (l5 (λv b=>h v (mC1 _ b)) λrs d g=>?_);refine wP1 (q (r::rs) (by rw[lC1,lC1,d]) λx e=>?_);rcases aF.mp e with z|z
  ·exact⟨v,mS1,by rw[z];exact p⟩
  ·obtain⟨c,h1,h2⟩:=g x z;exact⟨c,mC1 _ h1,h2⟩
theorem uz(v:dM):firstOfTuple' v=(do
  if(<- typeOf v) != .type "tuple" then return Y
  return (<- O9 v)[0]?):=rfl
theorem G4{vs:List dM}{Q:OT->dN->Prop}(i:vs≠[])(h:∀ v∈vs,∃ a p ps b c,v = .ref a/\L3 s.heap a (p::ps).toArray/\p = .ref b/\L3 s.heap b c)(q:Q (O8 false) s):
  dX (Mw prog w) A (keyKind' vs.toArray) Q E s:=by
 rw[keyKind'_eq,cq,<- bind_pure_comp];refine wB1 (wB1 (l5 (P:=λ_ r=>∃b c,r=Z (.ref b)/\L3 s.heap b c) (λv m=>?_) λrs H j=>wP1 ?_))
 ·obtain⟨a,p,ps,b,c,rfl,⟨o,g,n,_,G⟩,rfl,k⟩:=h v m;refine⟨Z (.ref b),⟨b,c,O,k⟩,λQ q=>?_⟩;rw[uz];refine wB1 (NS (T:="tuple") ⟨o,g,n⟩ ?_);rw[aj (by decide)];refine wB1 (Pa g G (wP1 ?_));simpa using q
 ·have F:rs.toArray.all (·.isSome)=true:=by
   rw[cr,bD];intro r l;obtain⟨v,_,b,c,e,_⟩:=j r l;rw[e];rfl
  rw[ak F];refine wB1 (Nb ?_);rw[oneTypeOnly'_eq];have y:rs.toArray.filterMap id=(rs.filterMap id).toArray:=by simp
  rw[y,cq,<- bind_pure_comp];refine wB1 (wB1 (wB1 (l5 (P:=λ_ t=>t=KG "tuple") (λv m=>?_) λf d k=>wP1 ?_)))
  ·obtain⟨r,l,e⟩:=aM.mp m;obtain⟨I,_,b,c,B,⟨o,g,n,_⟩⟩:=j r l;rw[B]at e;cases e;exact⟨_,O,λQ q=>NS (T:="tuple") ⟨o,g,n⟩ q⟩
  ·cases f with
   |nil=>
    exfalso;cases rs with
    |nil=>exact i (cs.mp H.symm)
    |cons r rs=>
     obtain⟨_,_,b,_,e,_⟩:=j r mS1;rw[e]at d;simp at d
   |cons t f=>
    have all:∀x∈t::f,x=KG "tuple":=λx u=>by obtain⟨_,_,z⟩:=k x u;exact z
    have D:=all t mS1;subst D;have C:((KG "tuple"::f).toArray.all λx=>x == KG "tuple")=M:=by
     rw[cr,bD];intro x u;rw[all x u];rfl
    show dX _ _ (pure (if((KG "tuple"::f).toArray.all λx=>x == KG "tuple")=M then Z (KG "tuple")else Y)) _ _ _;rw[ak C];exact wP1 (wP1 q)
theorem Cy {a:dP}{vs ws:List dM}{n:Nat}{κ:OT}{P:Fin->dN->Prop}(ho:s.heap.get? a=some (Pb "list" vs.toArray n))(i:vs.length<64)(hp:vs.Perm ws)
  (r:∀h',(∀b o,b≠a->s.heap.get? b=Z o->h'.get? b=Z o)->2<=vs.length->ju prog w A {s with heap:=h'} κ ws (O7 vs) /\ ∀Q:OT->dN->Prop,Q κ {s with heap:=h'}->dX (Mw prog w) A (keyKind' vs.toArray) Q E {s with heap:=h'})
  (h:P (.done (.ret .none)) {s with heap:=Pc s.heap a vs ws.toArray}):dX (Mw prog w) A (Builtin.«list.sort» ⟨[.ref a],[]⟩) P E s:=by
 rw[list_sort_plain];have t:a<s.heap.objs.size:=hL1 ho;refine wB1 (Pa ho O ?_);refine wB1 (Pd ho O ?_);obtain⟨j,g⟩:∃j,(s.heap.update a (NV λ_=> #[])).get? a=some (Pb "list" #[] j):=⟨_,get?_update_seq ho (λ_=> #[])⟩;refine wB1 (Pe g O (wB1 (Op (wB1 (Pf (M7 ?_))))));have keep:∀b o,b≠a->s.heap.get? b=Z o->(((s.heap.update a (NV λ_=> #[])).push (Pb "tuple" vs.toArray 0)).push (Pb "list" #[] 0)).get? b=Z o:=λb o l e=>
  hP1 _ (hP1 _ (by rw[hU1 _ _ _ _ l];exact e))
 have c:(((s.heap.update a (NV λ_=> #[])).push (Pb "tuple" vs.toArray 0)).push (Pb "list" #[] 0)).get? a=Z (Pb "list" #[] j):=hP1 _ (hP1 _ g);show dX (Mw prog w) A _ P E {s with heap:=((s.heap.update a (NV λ_=> #[])).push (Pb "tuple" vs.toArray 0)).push (Pb "list" #[] 0)};dsimp only;have m:vs.toArray.size=vs.length:=by simp
 have f:=hp.length_eq;have d:∀xs:Array OS,xs.map (·.2)=ws.toArray->P (.done (.ret .none)) {s with heap:=Pc s.heap a vs (xs.map (·.2))}:=λxs e=>by rw[e];exact h
 by_cases h2:vs.toArray.size<2
 ·rw [if_pos h2,if_pos h2];refine wB1 (wP1 ?_);rw [StateT.run_pure];refine wB1 (wP1 (wB1 (Pe c rfl ?_)));have e:((vs.toArray.zip vs.toArray).map (·.2):Array dM)=ws.toArray:=by
   have:vs=ws:=by
    match vs,ws,hp,h2 with
    |[],ws,hp,_=>exact(List.nil_perm.mp hp).symm
    |[x],ws,hp,_=>exact(List.singleton_perm.mp hp).symm ▸ rfl
    |_::_::_,_,_,h2=>simp at h2;lia
   subst this;apply Array.ext';simp;exact List.map_snd_zip (nR1 _)
  refine wB1 (Pd c O ?_ (hsz2:=by
   show(Array.map (·.2) (vs.toArray.zip vs.toArray)).size<=_;rw[e,sT1,<- f,Nq];lia))
  simp only[Pg,bF1,NJ];exact wP1 (d _ e)
 ·rw [if_neg h2,if_neg h2];obtain ⟨C,K⟩:=r _ keep (by lia);refine wB1 (K _ ?_);refine wB1 (MU (Fn C (st:=Ph κ (vs.toArray.zip vs.toArray) #[] 7 none)
   (Q:=λ_ st'=>(OV st').Perm (O7 vs)/\OW st'=Y/\Up ws (OV st') (O7 vs).size) ⟨Array.Perm.refl _,O,O,O⟩ (by rw[pairsOf_size];lia) (by rw[pairsOf_size];exact i) λst' a1 a2 a3=>⟨a1,a2,a3⟩) ?_ λ_ _ e=>e)
  rintro⟨⟨⟩,st'⟩ s' ⟨rfl,k,p,q⟩;have e:=zI C k q;refine wB1 (Pe c O ?_);refine wB1 (Pd c O ?_ (hsz2:=by
   show(Array.map (·.2) (OV st')).size<=_;rw[e,sT1,<- f,Nq];lia))
  rw[p];simp only[Pg,bF1,NJ];exact wP1 (d _ e)
section
variable{prog:dQ}{w:dS}{A:dR}{E:dM->dN->Prop}{R:Result->dN->Prop}
end
abbrev wg(h:dZ)(it d:dP)(i n ep:Nat):Prop:=h.get? it=Z {cls:=.type "dict_keyiterator",dict:=Y,data:=.fields #[.ref d,.int i 0,.int n 0,.int ep 0],slots:= #[]}
theorem DG{it d:dP}{i ep:Nat}{es:Array N3}{o:Obj}{Q:Option dM->dN->Prop}(f:wg s.heap it d i es.size ep)(hd:s.heap.get? d=Z o)(j:o.data = .dict es ep)(hi:i<es.size)(q:∀h',wg h' it d (i+1) es.size ep->Mv it s.heap h'->Q (Z es[i].key) {s with heap:=h'}):dX (Mw prog w) A (Nf (.ref it)) Q E s:=by
 have h:s.TypeIs (.ref it) "dict_keyiterator":=⟨_,f,O⟩;unfold Nf;refine wB1 (On (NO (name:=NP "__next__") h Pi
  (wE1 Pi h PySem.F.entry_dict_keyiterator_next ?_ (PySem.F.args_dict_keyiterator_next_1 _))))
 refine wB1 (wP1 (wB1 (wB1 (wB1 (Pj h (wP1 ?_))))));refine wB1 (wpAny_fieldsOf f O ?_);have k:Builtin.Dict_items.ownsTuple "dict_keyiterator"=J:=by decide
 simp only[k,bF1,NJ];show dX _ _ (if(D4 d == ab)=M then _ else _) _ _ s;rw[aj (show¬ ((D4 d == ab)=M)from aL)];refine wB1 (wP1 (wB1 (wpAny_dictEntries hd j ?_)));rw[aj (by simp)];refine wB1 (wP1 (wB1 (wpAny_dictEpoch hd j ?_)));rw[aj (by simp)];refine wP1 ?_;simp only[show¬ ((i:Int)<0)from by lia,NJ,NH,aG1 hi];refine wB1 (wB1 (Pj h (wP1 ?_)));refine wB1 (wpAny_isOneOf_keyiter h ?_);show dX _ _ (setField (.ref it) 1 (Ni ((i:Int)+1)) >>= _) _ _ s;refine wB1 (wS1 f (by simp) λb a c=>?_);replace a:wg b it d (i+1) es.size ep:=by
  have e:((i+1:Nat):Int)=(i:Int)+1:=by lia
  unfold wg;rw[e];simpa[Ni]using a
 have g:Shared.TypeIs {s with heap:=b} (.ref it) "dict_keyiterator":=⟨_,a,O⟩;refine wB1 (M7 (wB1 (wpAny_isOneOf_keyiter g ?_)));show dX _ _ (pure es[i].key) _ _ _;exact wP1 (wP1 ⟨_,O,wP1 (q b a c)⟩)
theorem GZ{it d:dP}{i ep:Nat}{es:Array N3}{o:Obj}{Q:Option dM->dN->Prop}(p:A.handled=Y)(f:wg s.heap it d i es.size ep)(hd:s.heap.get? d=Z o)(g:o.data = .dict es ep)(hi:es.size<=i)(q:∀h',(∀b o,b≠it->s.heap.get? b=Z o->h'.get? b=Z o)->Q Y {s with heap:=h'}):dX (Mw prog w) A (Nf (.ref it)) Q E s:=by
 have j:s.TypeIs (.ref it) "dict_keyiterator":=⟨_,f,O⟩;unfold Nf;refine wB1 (On (NO (name:=NP "__next__") j Pi
  (wE1 Pi j PySem.F.entry_dict_keyiterator_next ?_ (PySem.F.args_dict_keyiterator_next_1 _))))
 refine wB1 (wP1 (wB1 (wB1 (wB1 (Pj j (wP1 ?_))))));refine wB1 (wpAny_fieldsOf f O ?_);have h:Builtin.Dict_items.ownsTuple "dict_keyiterator"=J:=by decide
 simp only[h,bF1,NJ];show dX _ _ (if(D4 d == ab)=M then _ else _) _ _ s;rw[aj (show¬ ((D4 d == ab)=M)from aL)];refine wB1 (wP1 (wB1 (wpAny_dictEntries hd g ?_)));rw[aj (by simp)];refine wB1 (wP1 (wB1 (wpAny_dictEpoch hd g ?_)));rw[aj (by simp)];refine wP1 ?_;simp only[show¬ ((i:Int)<0)from by lia,NJ,NH,Array.getElem?_eq_none hi];refine wB1 (wB1 (Pj j (wP1 ?_)));show dX _ _ (setField (.ref it) 0 .none >>= _) _ _ s;refine wB1 (wS1 f (by simp) λl k c=>?_);show dX _ _ (newExc (.type "StopIteration") [] >>= _) _ _ _;refine wB1 ?_;simp only[newExc,newTuple];refine wB1 (wO1 ?_ (by size_fits));refine wB1 (m:=Ol _ _) (wpAny_of_eq (a:=ab) (by first|rfl|(simp only[Ol];rfl)) ?_);refine wO1 ?_ (by size_fits);simp only[raiseNew];refine wB1 (wpAny_handled ?_);rw[show A.in1.handled=Y from p];refine wB1 (wP1 (wpAny_throw ?_));refine wB1 (Ou (T:="StopIteration") (b:=M) ⟨_,hS1 _ O,O⟩ Ov ?_);exact wP1 (q _ λb o n e=>hP1 _ (hP1 _ (c.extBut b o n e)))
theorem DL {d:dP}{es:Array N3}{ep:Nat}{o:Obj}{Q:dM->dN->Prop}(hm:(d == L4)=false)(hd:s.heap.get? d=some o)(hc:o.cls = .type "dict")(a:o.data = .dict es ep)(hn:es.size<=dW)
  (q:Q (.ref s.heap.objs.size) {s with heap:=s.heap.push {cls:=.type "dict_keyiterator",data:=.fields #[.ref d,.int 0 0,.int es.size 0,.int ep 0]}}):dX (Mw prog w) A (Nh (.ref d)) Q E s:=by
 have b:s.TypeIs (.ref d) "dict":=⟨o,hd,hc⟩;refine wpAny_pyIter_slot b PySem.F.slot_dict_iter (wE1 PySem.F.slot_dict_iter b PySem.F.entry_dict_iter ?_ (PySem.F.args_dict_iter_1 _));unfold Builtin.«dict.__iter__»;refine wB1 ?_;unfold Builtin.Dict.dictSlotNone;refine wB1 (wpAny_notOrdered_dict b ?_);show dX _ _ (pure (D4 d)) _ _ s;refine wP1 ?_;show dX _ _ (Builtin.Dict.showsAll d >>= _) _ _ s;unfold Builtin.Dict.showsAll;rw[aj (by rw[hm];exact aL)];refine wB1 (wP1 (wB1 (wpAny_dictEntries hd a (wB1 (wpAny_dictEpoch hd a (wB1 ?_))))));refine wO1 (wP1 ⟨_,O,"dict_keyiterator",_,⟨_,hS1 _ O,O⟩,PySem.F.slot_dict_keyiterator_next.lookup,?_⟩);simpa[Ni]using q
section
variable{prog:dQ}{w:dS}{A:dR}{E:dM->dN->Prop}{R:Result->dN->Prop}
theorem DH{it d S:dP}{ep:Nat}{es:Array N3}{o:Obj}{p:dM}(I:A.handled=none)(q:o.data = .dict es ep)(h1:it≠d)(h2:S≠d)(G:S≠it)(hn:es.size<=dW):
  ∀(k i:Nat) (s:dN) (acc:Array dM) (c:Nat),es.size-i=k->i<=es.size->wg s.heap it d i es.size ep->s.heap.get? d=Z o ->
  s.heap.get? S=Z {cls:=.type "list",dict:=Y,data:=.seq acc c,slots:= #[]}->acc.toList=(es.toList.take i).map (·.key) ->
  (∀h' a E,(∀b u,b≠it->b≠S->s.heap.get? b=Z u->h'.get? b=Z u)->h'.get? S=Z {cls:=.type "list",dict:=Y,data:=.seq a E,slots:= #[]}->a.toList=es.toList.map (·.key)->R (.ok (.ret p)) {s with heap:=h'}) ->
  dY (Mw prog w) A (.builtin "list.extend.loop" ⟨[.ref S,.ref it,p],[]⟩) R s:=by
 intro k
 induction k with
 |zero=>
  intro i s acc c H hi g x D v B;have e:i=es.size:=by lia
  subst e;refine wD1 PySem.F.entry_extend_loop ?_;rw[OG Pk _];show dX _ A.in1 (Nf (.ref it) >>= _) _ _ s;refine wB1 (GZ I g x q (nR1 _) λh' keep=>wP1 ?_);exact B h' acc c (λb u l _ e=>keep b u l e) (keep S _ G D) (by rw[v,<- aK,b4])
 |succ k ih=>
  intro i s acc c H hi g x D v B;have h:i<es.size:=by lia
  have m:acc.size=i:=by rw[<- aK,v,lM1,aT,aK];lia
  refine wD1 PySem.F.entry_extend_loop ?_;rw[OG Pk _];show dX _ A.in1 (Nf (.ref it) >>= _) _ _ s;refine wB1 (DG g x q h λh' n z=>?_);have t:=z.extBut S _ G D;show dX _ A.in1 (updateSeq S (·.push es[i].key) >>= _) _ _ _;refine wB1 (Pm (s:={s with heap:=h'}) t O ?_ (by rw[m];lia) (by show(acc.push _).size<=dW+1;rw[Array.size_push,m];lia));have j:∀b u,b≠S->h'.get? b=Z u->(h'.update S (NV (·.push es[i].key))).get? b=Z u:=λb u l e=>by rw[hU1 _ _ _ _ l];exact e
  refine wP1 ⟨OF Pk _,ih (i+1) {s with heap:=h'.update S (NV (·.push es[i].key))} (acc.push es[i].key) _ (by lia) h (j it _ (Mt G) n) (j d _ (Mt h2) (z.extBut d _ (Mt h1) x)) (hW1 _ t O) ?_ ?_⟩
  ·rw[cu,v,cv,aT1,aG1 h,cx];rfl
  ·intro F a E f C y;exact B F a E (λb u l r e=>f b u l r (j b u r (z.extBut b u l e))) C y
theorem BD:typeLookup (.type "dict") "__len__"=pure (Z (.builtin "dict.__len__")):=by rw[typeLookup_type,builtinLookup_eq_fast];kernel_rfl
theorem DM {s:dN}{v:dP}{Q:Bool->dN->Prop}(c:s.TypeIs (.ref v) "dict")(q:Q J s):dX (Mw prog w) A (Builtin.List.listLengthHint (.ref v)) Q E s:=by
 unfold Builtin.List.listLengthHint;refine wB1 (OJ c BD ?_);generalize a:("dict.__len__":String)=id0
 wp_delta
 rw[show splitId id0=Z ("dict","__len__")from by subst a;decide+kernel];subst a;refine wB1 (Ou (b:=M) c (by rw[isSubtype_type];kernel_rfl) ?_);rw[aj (by decide)];dsimp only;rw[ak (by decide+kernel)];refine wB1 (NS c ?_);exact wP1 q
end
theorem KT.keys{K:Fg1}{H:Hp}{mu:List dP}:∀{ks:List (TK×D)} {ws:List (TK×dP×dM)},KT K H mu ks ws->ej K H mu (ks.map λp=>lA p.1) (ws.map λx=>V.ref x.2.1)
 |_,_,.nil=>.nil
 |_,_,.cons ⟨z,d,k,_⟩ t=>.cons k (KT.keys t)
theorem pS:∀ws:List (TK×dP×dM),eG (ws.map λx=>V.ref x.2.1) (ws.map λx=>D4 x.2.1)
 |[]=>.nil
 |_::ws=>.cons O (pS ws)
section
variable{ag:List (dP×Obj)}{σ:L2.St}{H:Hp}{s:dN}{a:dP}{u v:HO}
end
inductive Es (a:dP):List (TK×dP×dM)->HO->Prop
 |ext (xs:List (TK×dP×dM)):Es a xs (.ext (iN a xs))
 |dK:Es a [] (.dK [])
theorem Hn{X:Cx}{ag:List (dP×Obj)}{σ:L2.St}{H:Hp}{s:dN}{a:dP}{u:HO}{xs:List (TK×dP×dM)}(I:Inv X ag σ H s)(e:H a=Z u)(h:Es a xs u):∃o,s.heap.get? a=Z o/\B6 a xs o:=by
 cases h with
 |ext xs=>
  obtain⟨⟨h1,h2,o,es,ep,b,c,d,f⟩,_⟩:=(show fb X.prog X.w H s.heap a (.ext (iN a xs))from I.hok a _ e);exact⟨o,b,h1,h2,c,es,ep,d,f⟩
 |dK=>
  obtain⟨_,h1,vs,h2,b⟩:=(show fb X.prog X.w H s.heap a (.dK [])from I.hok a _ e);cases h2;obtain⟨o,es,ep,b,c,d,f,_⟩:=uE b;exact⟨o,b,h1,bp,c,es,ep,d,f⟩
noncomputable def A9:Ob->Option (List (TK×D))
 | .dcT kvs=>Z kvs
 | .dct []=>Z []
 |_=>Y
section
variable{K:Fg1}{H H':Hp}{mu mu':List dP}{S:d7}{n:Nat}{a:dP}{o:Obj}{u:HO}
theorem nw.exv{b:dP}(e:Cb mu mu' H H')(h:∀o,H b=Z o->H' b=Z o):∀{o:Ob},nw K H mu b o->nw K H' mu' b o
 | .lst _,⟨vs,q,r⟩=>⟨vs,h _ q,r.exv e⟩
 | .dct _,⟨ws,q,r⟩=>⟨ws,h _ q,Paired.mapP r λ_ _ z=>⟨z.1,z.2.exv e⟩⟩
 | .dcT _,⟨ws,q,r,l⟩=>⟨ws,h _ q,Paired.mapP r λ_ _ ⟨z,d,k,v,a,r⟩=>⟨z,d,k.exv e,v,a,r.exv e⟩,l⟩
 | .iset _,q=>⟨h _ q.1,q.2⟩
 | .dcF _,⟨ws,⟨o,u,f,c⟩,r,l⟩=>⟨ws,⟨o,u,h _ f,c⟩,Paired.mapP r λ_ _ ⟨z,d,k,v,a,r⟩=>⟨z,d,k.exv e,v,a,r.exv e⟩,l⟩
 | .tst _,⟨ws,q,r⟩=>⟨ws,h _ q,Paired.mapP r λ_ _ ⟨z,d,k,v,a,r⟩=>⟨z,d,k.exv e,v,a,r.exv e⟩⟩
theorem DT(s:Sim K H mu S){ob:Ob}{kvs:List (TK×D)}(h:S[n]? = some ob)(hk:A9 ob=some kvs)(hn:mu[n]? = some a):
  ∃xs u,H a=Z u/\Es a xs u/\KT K H mu kvs xs/\xs.length<=dW /\ ∀H' mu',Cb mu mu' H H'->H' a=Z u->nw K H' mu' a ob:=by
 cases ob with
 |dcT ks=>
  cases hk;obtain⟨xs,e,r,l⟩:=s.dcT h hn;exact⟨xs,_,e,.ext xs,r,l,λH' mu' x b=>⟨xs,b,Paired.mapP r λ_ _ ⟨z,d,k,v,c,r⟩=>⟨z,d,k.exv x,v,c,r.exv x⟩,l⟩⟩
 |dct ks=>
  cases ks with
  |nil=>
   cases hk;obtain⟨ws,e,r⟩:=s.dct h hn;cases r;exact⟨[],_,e,.dK,.nil,bj _,λH' mu' x b=>⟨[],b,.nil⟩⟩
  |cons _ _=>cases hk
 |_=>cases hk
end
structure TS (l:Bool)(t:SetTable):Prop where
 up:Ris t.place
 du:t.dummies = #[]
 ld:t.led=l
noncomputable def Mn(e:Int×dM):Int:=match e.2 with
 | .int k _=>k
 |_=>0
structure LQ (es:Array (Int×dM))(ns:List Int):Prop where
 el:∀e∈es.toList,∃k t,e=(hashInt k,aa k t)
 pm:(es.toList.map Mn).Perm ns
theorem LQ.size{es:Array (Int×dM)}{ns:List Int}(h:LQ es ns):es.size=ns.length:=by
 have:=h.pm.length_eq;rw[lM1,aK]at this;exact this
section
variable{P:dQ}{w:dS}{A:dR}{E:dM->dN->Prop}{s:dN}{b:Bool}{p:dP}{ns:List Int}
end
section
variable{P:dQ}{w:dS}{A:dR}{E:dM->dN->Prop}{s:dN}
noncomputable def uO(w:dS):Bool:=w.params.followText "set-order"
theorem De(x:dM){G:dM->dN->Prop}(q:G (.ref s.heap.objs.size) {s with heap:=s.heap.push (stO #[] 0 (.fresh 0 0 (!uO w)))}):
  dY (Mw P w) A (.call (.builtin "set.__new__") ⟨[.type "set",x],[]⟩) (wants G E) s:=by
 refine codeAny_of_tree (?_:dX _ A.in1 (do checkBuiltinCall "set.__new__" ⟨[.type "set",x],[]⟩;again (.builtin "set.__new__" ⟨[.type "set",x],[]⟩)) _ _ s);refine wB1 (wpAny_of_eq (PySem.F.newCall_set_1 x) (wP1 ⟨OF PySem.F.plain_set_new _,wD1 PySem.F.entry_set_new (?_:_)⟩));rw[OG PySem.F.plain_set_new _];unfold Builtin.«set.__new__» Builtin.Frozenset.newClass;have a:=sub_set_self;obtain⟨c,g,d,tk,b⟩:=s;dsimp only
 wp_walk
 refine wpAny_askSetting (wP1 (?_:_));dsimp only;simp only[newObj];exact wB1 (wpAny_alloc (wP1 (wP1 q)))
end
section
variable{P:dQ}{w:dS}{A:dR}{E:dM->dN->Prop}{b:Bool}
end
section
variable{P:dQ}{w:dS}{A:dR}{E:dM->dN->Prop}{s:dN}{it a:dP}{f:dM}{i ep:Nat}{es:Array (Int×dM)}{t:SetTable}{pl:List dM}
end
section
variable{P:dQ}{w:dS}{A:dR}{E:dM->dN->Prop}
end
section
variable{ag:List (dP×Obj)}{σ:L2.St}{H:Hp}{s:dN}{a:dP}{kvs:List (Key×V)}{k:Key}{v:V}{u r:dM}{A:dR}{E:dM->dN->Prop}
theorem Hs{Q:dM->dN->Prop}(I:Inv X ag σ H s)(e:H a=Z (.dK kvs))(l:kvs.length<dW)(n:eu (kV k) u)(x:eu v r)(h1:∀z,hA kvs k=Z z -> ∀g s',Inv X ag σ H s'->eu z g->Q g s')(h2:hA kvs k=Y -> ∀s',Inv X ag σ (upd H a (.dK (hO kvs k v))) s'->Q r s'):dX (Mw X.prog X.w) A (call (.builtin "dict.setdefault") [.ref a,u,r]) Q E s:=by
 obtain⟨z,j,vs,b,i⟩:=xt I.hok e;refine call_meetsIn PySem.F.slot_dict_setdefault i.typeIs PySem.F.entry_dict_setdefault (PySem.F.args_dict_setdefault_3 _ _ _) (kt_meets_setdefault (fe X.prog X.w) a (oM n) j r) ⟨vs,i,by rw[<- b.length];exact z,λy c=>?_,λm h' f p=>?_⟩
 ·cases ev:hA kvs k with
  |none=>
   have:=b.val k;rw[ev,c]at this;cases this
  |some z=>
   obtain⟨g,h,d⟩:=lg.some_of (v:=z) (o:=N4 vs k) (by rw[<- ev];exact b.val k);rw[h]at c;cases c;exact h1 z ev _ _ (I.tok _) d
 ·cases ev:hA kvs k with
  |some z=>
   obtain⟨g,h,d⟩:=lg.some_of (v:=z) (o:=N4 vs k) (by rw[<- ev];exact b.val k);rw[h]at m;cases m
  |none=>
   have t:(hO kvs k v).length<=dW:=by have:=iI kvs k v;lia
   have w:∃q,h'.get? a=Z q:=let ⟨q,_,_,hq,_⟩:=f;⟨q,hq⟩
   exact h2 ev _ (ku I (by rw[e];exact Nu) p w (vU t j (b.put k x) f))
end
def Kz(td ty tx:TE):TE:=fun σ H Q=>td σ H λx H1=>∃a,x = .ref a/\Kl H1 a/\ty σ H1 λy H2=>tx σ H2 λz H3=>∃kvs k,H3 a=Z (.dK kvs)/\kvs.length<dW/\y=kV k /\
 (∀v,hA kvs k=Z v->Q v H3)/\(hA kvs k=Y->Q z (upd H3 a (.dK (hO kvs k z))))
theorem Gc {o e f:Expr}{apos cpos:Pos}{td ty tx:TE}(ho:PE X o td)(he:PE X e ty)(hf:PE X f tx)(m:M2 X o "setdefault" apos e f cpos):PE X (.Call (.Attribute o "setdefault" apos) [e,f] [] cpos) (Kz td ty tx):=by
 intro ag s σ H Q I h;refine wpAny_Call_method m.base m.few m.line PySem.F.plainAttrs_dict PySem.F.slot_dict_setdefault PySem.F.type_dict_setdefault (fr (ho ag s σ H _ I h) λu F ⟨x,H1,c,i,a,ex,d,D⟩=>?_);subst ex;obtain rfl:u=D4 a:=i;obtain⟨A,j,_⟩:=Bh c d;refine⟨A,j,?_⟩;rw[m.trees];refine N0 O (N1 (Nw (fr (he ag F σ H1 _ c D) λK t ⟨y,H2,G,C,am⟩=>
  Nw (fr (hf ag t σ H2 _ G am) λao N ⟨z,q,w,g,kvs,k,B,el,n,r,p⟩=>Calls.spliced_nil ?_))))
 subst n;exact Hs w B el C g (λv l L s' b E=>⟨v,q,b,E,r v l⟩) λl s' b=>⟨z,_,b,g,p l⟩
def oG(m a b:FE):FE:=λr S=>(m r S).bind λp=>match p.1 with
 | .ref n=>match p.2[n]? with
  |some (.dct _)=>(a r p.2).bind λq=>(b r q.2).bind λt=>match t.2[n]? with
   |some (.dct kvs)=>(kB q.1).bind λk=>if kvs.length<dW then Z (match ef kvs k with|some z=>(z,t.2)|none=>(t.1,t.2.set n (.dct (fT kvs k t.1))))else none
   |_=>Y
  |_=>Y
 |_=>Y
theorem Ch {o e f:Expr} {apos cpos:Pos} {m a b:FE} (ho:XE X o m) (he:XE X e a) (hf:XE X f b) (hm:autoParam (M2 X o "setdefault" apos e f cpos) xP._auto_1):XE X (.Call (.Attribute o "setdefault" apos) [e,f] [] cpos) (oG m a b):=
 ⟨ff (Gc ho.h he.h hf.h hm) <| by
  rintro σ H Q ⟨r,mu,S,d,S',he,T,hm,hc⟩;obtain⟨⟨V,B⟩,W,hm⟩:=PC hm;refine⟨r,mu,S,V,B,he,T,W,λv1 H1 mu1 i au E=>?_⟩;dsimp only at hm;split at hm
  ·rename_i n;split at hm
   ·rename_i P q;cases au with
    | @ref _ U C=>
     refine⟨U,O,Bg E C q,?_⟩;obtain⟨⟨I,A⟩,ao,hm⟩:=PC hm;obtain⟨⟨G,L⟩,am,hm⟩:=PC hm;refine⟨r,mu1,B,I,A,he.ext i,E,ao,λv2 H2 x p r2 R=>?_⟩;refine⟨r,x,A,G,L,(he.ext i).ext p,R,am,λN u g l F w=>?_⟩;dsimp only at hm;split at hm
     ·rename_i kvs en;obtain⟨k,wq,hm⟩:=PC hm;split at hm
      ·rename_i aq;have hm:=Option.some.inj hm;have h:=l.at (p.at C);obtain⟨ws,y,t⟩:=w.dct en h;have s:=t.look (k:=k);refine⟨ws,k,y,by rw[<- t.length];exact aq,kr (r2.ext l) wq,λv j=>?_,λj=>?_⟩
       ·cases e:ef kvs k with
        |none=>have:=s.2;rw[e]at this;simp[j]at this
        |some z=>
         rw[e]at hm;cases hm;obtain⟨K,c,D⟩:=s.1 _ e;rw[j]at c;cases c;exact hc _ u g ((i.trans p).trans l) D w
       ·cases e:ef kvs k with
        |some z=>
         obtain⟨K,c,D⟩:=s.1 _ e;rw[j]at c;cases c
        |none=>
         rw[e]at hm;cases hm;have put:Ext g g u (upd u _ (.dK (hO ws k N))):=Ext.put y trivial (gM1 h);exact hc _ _ g (((i.trans p).trans l).trans put) (F.ext put) (w.put h y trivial ⟨_,eI,(t.put F).ext put⟩)
      ·cases hm
     ·cases hm
   ·cases hm
  ·cases hm⟩
open AutoSeq1 (wpAny_loadPart')
theorem uL{Q:List dM->dN->Prop}{r:dP}{a b c:Int}{t u v:Tok}{n:Nat}(C:A.handled=none)(hr:IsRange s.heap r a b c t u v)(hsmall:Builtin.Range.small a b c=true)(hn:Nj a b c=n)(m:n<=2^24)(z:∀h' tk d,(∀b o',s.heap.get? b=some o'->h'.get? b=some o')->ItemsOf (fun i v=>∃t,v = .int (a+i*c) t) d n->Q d.toList {s with heap:=h',toks:=tk}):
  dX (Mw prog w) A (collect (.ref r)) Q E s:=by
 unfold collect;refine wB1 (Pn (wD1 F.entry_proto_collect (?_:_)));rw [OG F.plain_proto_collect _];show dX _ A.in1 (newList [] >>= fun l=>again (.builtin "list.__iadd__" ⟨[l,.ref r],[]⟩)) _ _ s;refine wB1 (wO1 (?_:_));refine wP1 ⟨OF F.plain_list_iadd _,wD1 F.entry_list_iadd (?_:_)⟩;rw [OG F.plain_list_iadd _];show dX _ A.in1 (Po (.ref s.heap.objs.size) (.ref r) (.ref s.heap.objs.size)) _ _ _;have G:(s.heap.push {cls:=.type "list",data:=.seq ([]:List dM).toArray}).get? s.heap.objs.size=some {cls:=.type "list",data:=.seq #[] 0}:=hS1 _ rfl;have j:∀ h' tk d g,(∀ b o',s.heap.get? b=some o'->h'.get? b=some o')->h'.get? s.heap.objs.size=some {cls:=.type "list",dict:=none,data:=.seq d g,slots:= #[]}->ItemsOf (fun i v=>∃ t,v = .int (a+i*c) t) d n ->
   dX (Mw prog w) A (match D4 s.heap.objs.size with
   |D4 a=>do
    match (<- load a).data with
     |Data.seq xs _=>pure xs.toList
     |_=>unsupported "internal:collect"
   |_=>unsupported "internal:collect") Q E {s with heap:=h',toks:=tk}:=by
  intro h' tk d g y k p;show dX _ A (load s.heap.objs.size >>= _) _ _ _;refine wB1 (wpAny_load k (?_:_));refine wP1 (?_:_);exact z h' tk d y p
 refine MU (wpAny_extend_range (A:=A) (R:=λB s'=>∃h' tk d g,B = .ok (.ret (.ref s.heap.objs.size))/\s'={s with heap:=h',toks:=tk}/\(∀b o',s.heap.get? b=Z o'->h'.get? b=Z o')/\h'.get? s.heap.objs.size=Z {cls:=.type "list",dict:=Y,data:=.seq d g,slots:= #[]}/\ItemsOf (λi v=>∃t,v = .int (a+i*c) t) d n)
  (s:={s with heap:=s.heap.push {cls:=.type "list",data:=.seq ([]:List dM).toArray}}) C (hP1 _ hr) hsmall hn m _ _ 0 G λh' tk d g y k p=>
   ⟨h',tk,d,g,O,O,λb o e=>y b o (nN1 (hL1 e)) (hP1 _ e),k,p⟩) (λx s' h=>?_) (λe s' h=>?_)
 ·cases x with
  |done f=>
   obtain⟨h',tk,d,g,e,rfl,q⟩:=h;cases e;exact j h' tk d g q.1 q.2.1 q.2.2
  |again g=>exact⟨h.1,Nx h.2 λr D hr=>by obtain⟨h',tk,d,g,rfl,rfl,q⟩:=hr;exact j h' tk d g q.1 q.2.1 q.2.2⟩
 ·obtain⟨_,_,_,_,e,_⟩:=h;cases e
theorem vH(r:dP)(a b c:Int)(t u v:Tok)(n:Nat)(hsmall:Builtin.Range.small a b c=true)(hn:Nj a b c=n)(f:n<=2^20):
  Meets (Builtin.«tuple.__new__» ⟨[.type "tuple",.ref r],[]⟩)
   (λA R s=>A.handled=Y/\IsRange s.heap r a b c t u v /\ ∀(h':dZ) (tk:Nat) (acc:Array dM),(∀b o',s.heap.get? b=Z o'->h'.get? b=Z o')->ItemsOf (λi v=>∃t,v = .int (a+i*c) t) acc n ->
    R (.ok (.ret (.ref h'.objs.size))) {s with heap:=h'.push {cls:=.type "tuple",data:=.seq acc},toks:=tk}):=
 .of_wp λprog w A R s h=>by
  obtain⟨B,g,d,j,D⟩:=s;obtain⟨y,l,h⟩:=h;have p:=sub_tuple_self;have k:=init_tuple_lookup;have x:=madeHere_tuple;have q:Shared.TypeIs ⟨B,g,d,j,D⟩ (.ref r) "range":=⟨_,l,O⟩;have m:A.in1.handled=Y:=y
  wp_walk using wpAny_loadPart' l,NS q,uL m l hsmall hn (aC f (by decide))
  intro h' tk acc z o;show dX _ _ (NT acc.toList.toArray >>= λv=>ret v) _ _ _;unfold NT;have C:n<=dW:=aC f (by decide);refine wB1 (wO1 (?_:_) (show acc.toList.toArray.size<=dW by simp only[cy];rw[o.1];exact C));refine wP1 ⟨_,O,(?_:_)⟩;have e:acc.toList.toArray=acc:=by simp
  rw[e];exact h h' tk acc z o
theorem Hv(hc:X.calm=M):fi X (.type "tuple") (λxs H Q=>∃p i j,xs=[.ref p]/\H p=Z (.rng i j)/\(-(2^62)<=i/\i<2^62 /\ -(2^62)<=j/\j<2^62)/\(j-i).toNat<=2^20 /\ ∀l,H l=Y->Q (.ref l) (upd H l (.tup (kx i (j-i).toNat)))):=by
 intro ag s σ H xs K Q I r h;obtain⟨p,i,j,rfl,D,⟨h1,h2,am,w⟩,n,q⟩:=h;obtain⟨u,rfl,G⟩:=iO r;cases G;obtain⟨t,u,v,e⟩:=I.hok p _ D;have E:(((j-i).toNat:Nat):Int)=Nj i j 1:=by rw[rangeSize_one];split<;>lia
 refine callType_new F.called_tuple (by decide) (F.typeCall_tuple_1 _) (F.newCall_tuple_1 _) (λg=>F.args_object_init_2 g _) F.entry_tuple_new
  (vH p i j 1 t u v (j-i).toNat (small_one h1 h2 am w) E.symm n) ⟨I.ok.hd hc,e,λh' tk a C hi=>⟨⟨_,hS1 _ O,O⟩,(?_:_)⟩⟩
 obtain⟨f,d⟩:=hi;have c:eG (kx i (j-i).toNat) a.toList:=q7 (by rw[jF];simpa using f.symm) λk x u z B=>by
  rw[oo _ _ _ _ z];obtain⟨A,rfl⟩:=d k u (by simpa using B);exact⟨A,by rw[Int.mul_one]⟩
 have m:Inv X ag σ H {s with heap:=h',toks:=tk}:=I.kept (t':=tk) C;have y:Inv X ag σ (upd H h'.objs.size (.tup (kx i (j-i).toNat))) {s with heap:=h'.push {cls:=.type "tuple",data:=.seq a},toks:=tk}:=
  m.laid (t':=tk) (λb o e=>hP1 _ e) (nR1 _) (show fb X.prog X.w _ _ _ (.tup _)from⟨by rw[jF];exact aC n (by decide),a.toList,c,by simpa using IsTup.new _ _⟩)
 exact⟨.ref h'.objs.size,_,y,O,q _ (m.hok.fresh (nR1 _))⟩
def Dw(m:FA):FE:=λr S=>(m r S).bind λp=>match p.1 with
 |[.int j]=>if m8 0 j=M then Z (.tup (gb 0 j.toNat),p.2)else Y
 |_=>Y
theorem zb {a:Expr}{m:FA}{f p2 b c:Pos}(hc:X.calm=true)(hg:Gl X "range")(hm:X.mg "range"=none)(hg2:Gl X "tuple")(hm2:X.mg "tuple"=none)(ha:XA X [a] m)(hs:autoParam (dV [a] X.env=[(false,eval a X.env)]) au0)
  (hs2:autoParam (dV [.Call (.Name "range" f) [a] [] b] X.env=[(J,eval (.Call (.Name "range" f) [a] [] b) X.env)]) au0):XE X (.Call (.Name "tuple" p2) [.Call (.Name "range" f) [a] [] b] [] c) (Dw m):=
 ⟨ff (mL (Hv hc) hg2 hm2 (by decide+kernel) (lV (p7 hg hm ha.h hs) rG hs2) (by decide) (by decide) hs2) <| by
  rintro σ H Q ⟨r,mu,S,d,x,s,hs,hm,e⟩;obtain⟨⟨ds,y⟩,t,hm⟩:=PC hm;dsimp only at hm;split at hm
  ·rename_i j;split at hm
   ·rename_i g;cases hm;refine⟨r,mu,S,_,_,s,hs,t,λvs H1 mu1 n o k=>?_⟩;obtain⟨v,rfl,w⟩:=lT o;cases w;refine⟨j,O,λp i=>⟨p,0,j,O,eI,(lQ g).1,(lQ g).2,λl h=>?_⟩⟩;have q:=(n.trans (Ext.fresh (u:=.rng 0 j) i)).trans (Ext.fresh (u:=.tup (kx 0 (j-0).toNat)) h);exact e _ _ mu1 q (.tup (kF.of eI) (by rw[Int.sub_zero];exact om _ _)) ((k.fresh i).fresh h)
   ·cases hm
  ·cases hm⟩
section
variable{P:dQ}{w:dS}{A:dR}{E:dM->dN->Prop}{s:dN}
set_option maxHeartbeats 3200000 in
theorem yL {l:dP}{its:Array dM}{Q:dM->dN->Prop}(F:s.heap.IsTuple l its)
  (h:∀t:dR,t.handled=A.handled -> ∀R:Result->dN->Prop,(∀s',Q (.ref s.heap.objs.size) s'->R (.ok (.ret .none)) s') ->
   dY (Mw P w) t (.builtin "set.update.loop" ⟨[.ref s.heap.objs.size,.ref (s.heap.objs.size+1)],[]⟩) R {s with heap:=(s.heap.push (stO #[] 0 (.fresh 0 0 (!uO w)))).push {cls:=.type "tuple_iterator",data:=.fields #[.ref l,.int 0 0]}}):
  dX (Mw P w) A (call (.type "set") [.ref l]) Q E s:=by
 obtain⟨L,K,k⟩:=PySem.F.called_set.mro;have d:=PySem.F.called_set.made;have m:=PySem.F.called_set.sub
 refine wpAny_call (codeAny_of_tree (?_:dX _ _ (callAny (.type "set") _) _ _ _));refine wP1 ⟨Code.quiet_builtin _ (by decide+kernel),wD1 PySem.F.entry_type_call (?_:_)⟩;rw[Around.under_plain (weight_type_call_type "set" [.ref l] []) O];have T:=PySem.F.called_set.notType;have U:=PySem.F.called_set.canCreate;have N:=PySem.F.typeCall_set_1 (.ref l)
 repeat(any_goals (first|wp_step|assumption))
 refine Nx (De (.ref l) (E:=E) (G:=λx p=>x = .ref s.heap.objs.size/\p={s with heap:=s.heap.push (stO #[] 0 (.fresh 0 0 (!uO w)))}) ⟨O,O⟩) λr p f=>?_;cases r with
 |error e=>exact f
 |ok y=>
  cases y with
  |ret x=>
   obtain⟨rfl,rfl⟩:=f;have o:(s.heap.push (stO #[] 0 (.fresh 0 0 (!uO w)))).get? s.heap.objs.size=Z (stO #[] 0 (.fresh 0 0 (!uO w))):=hS1 _ O;have u:Shared.TypeIs {s with heap:=s.heap.push (stO #[] 0 (.fresh 0 0 (!uO w)))} (.ref s.heap.objs.size) "set":=⟨_,o,O⟩;have au:=PySem.F.called_set.init.lookup;have S:=PySem.F.called_set.init.bind (.ref s.heap.objs.size)
   repeat(any_goals (first|wp_step|assumption))
   refine Nx (codeAny_call_builtin (R:=wants (λr n=>r = .none/\Q (.ref s.heap.objs.size) n) E) PySem.F.called_set.init.plain PySem.F.entry_set_init (check_set_init_1 u (?_:_))) λr2 n a=>?_
   ·obtain⟨z,g,c,j,b⟩:=F;obtain⟨ao,v,W,B⟩:=z;simp only at c b;subst c;subst b;have H:(s.heap.push (stO #[] 0 (.fresh 0 0 (!uO w)))).get? l=Z {cls:=.type "tuple",dict:=v,data:=.seq its j,slots:=B}:=hP1 _ g;have X:=PySem.F.sub_tuple_set;have am:=PySem.F.sub_tuple_frozenset;have V:(KG "tuple" == KG "dict")=J:=by decide
    have C:(s.heap.push (stO #[] 0 (.fresh 0 0 (!uO w)))).IsTuple l its:=⟨_,H,O,j,O⟩;have I:(s.heap.push (stO #[] 0 (.fresh 0 0 (!uO w)))).get? s.heap.objs.size=Z {cls:=.type "set",dict:=Y,data:=.set #[] 0 (.fresh 0 0 (!uO w)),slots:= #[]}:=o;unfold Builtin.«set.__init__» noKeywords Builtin.Frozenset.updateFrom;generalize i:Nh=PI
    wp_walk
    subst i;refine wpAny_pyIter_tuple C (wB1 (Pn (?_:_)));dsimp only;rw[show(s.heap.push (stO #[] 0 (.fresh 0 0 (!uO w)))).objs.size=s.heap.objs.size+1 from by rw[hZ1]];refine h A.in1.in1 (by simp) _ λs' q=>?_;exact wP1 (wP1 ⟨O,q⟩)
   ·cases r2 with
    |error e=>exact a
    |ok D=>
     cases D with
     |ret r=>
      obtain⟨rfl,q⟩:=a
      repeat(any_goals (first|wp_step|assumption))
     |_=>exact a.elim
  |_=>exact f.elim
theorem vY{l:dP}{its:Array dM}{ns:List Int}{Q:dM->dN->Prop}(G:A.handled=Y)(k:s.heap.IsTuple l its)(F:N2 its.toList ns)(hb:its.size+1<OQ)(q:∀h' tk,(∀c o,s.heap.get? c=Z o->h'.get? c=Z o)->h'.SetOf (intKind P w) s.heap.objs.size (λx=>(firstMet (λi=>ns.getD i 0) its.size).any (· == x)) (firstMet (λi=>ns.getD i 0) its.size).length->Q (.ref s.heap.objs.size) {s with heap:=h',toks:=tk}):dX (Mw P w) A (call (.type "set") [.ref l]) Q E s:=by
 have a:l<s.heap.objs.size:=by obtain⟨o,e,_⟩:=k;exact hL1 e
 refine yL k λH D R u=>?_;have y:(s.heap.push (stO #[] 0 (.fresh 0 0 (!uO w)))).objs.size=s.heap.objs.size+1:=by rw[hZ1]
 have C:(s.heap.push (stO #[] 0 (.fresh 0 0 (!uO w)))).get? s.heap.objs.size=Z (stO #[] 0 (.fresh 0 0 (!uO w))):=hS1 _ O;have b:∀(i:Nat) (v:dM),its[i]?=Z v -> ∃t,v = .int ((λi=>ns.getD i 0) i) t:=λi v z=>PyProof.Rows.IntsAre.int_at F i v (by rw[aT1];exact z);have h:s.heap.objs.size∉[s.heap.objs.size+1,l]:=by
  simp only[aF,cA,bO,OA,not_or];exact⟨nN1 (bE _),nG1 a⟩
 have j:H.in1.handled=Y:=by simpa using D.trans G
 refine PyProof.Rows.codeAny_set_update_loopS ((Walks.tuple j _ l (nN1 (cB a)) its).toS) s.heap.objs.size h (λi=>ns.getD i 0) b hb (its.size-0) 0 _ (by lia) (bj _) ⟨?_,?_⟩ ?_ λs' d m=>?_
 ·refine⟨{cls:=.type "tuple_iterator",data:=.fields #[.ref l,.int 0 0]},?_,O,O⟩;have this:((s.heap.push (stO #[] 0 (.fresh 0 0 (!uO w)))).push {cls:=.type "tuple_iterator",data:=.fields #[.ref l,.int 0 0]}).get? (s.heap.push (stO #[] 0 (.fresh 0 0 (!uO w)))).objs.size=Z {cls:=.type "tuple_iterator",data:=.fields #[.ref l,.int 0 0]}:=hS1 _ O;rw[y]at this;exact this
 ·obtain⟨o,e,r⟩:=k;exact⟨o,hP1 _ (hP1 _ e),r⟩
 ·exact PyProof.Rows.SetOf_congr ((PyProof.Rows.setObjOf_fresh (knd:=intKind P w) (!uO w)).setOf (hP1 _ C) (by unfold OQ;lia)) (λ_=>rfl) O
 ·obtain⟨h',am,p,f,g⟩:=s';have I:am=s.gens:=d.gens;have n:p=s.drawn:=d.drawn;have B:g=s.os:=d.os;subst I;subst n;subst B;refine u _ (q h' f (λc o e=>d.heap c o ?_ (hP1 _ (hP1 _ e))) m);have:=hL1 e;simp only[aF,cA,bO,OA,not_or];exact⟨nN1 this,nN1 (cB this)⟩
end
def ij:G1:=λd S=>match eg S d with
 |some (_,xs)=>(mS xs).bind λns=>if ns.length+1<OQ then Z (.ref S.length,S++[.iset (ddI ns)])else Y
 |_=>Y
theorem BM{k:Nat}(hr:gl k X.A):fi X (.type "set") (rN X.K (b1 ij)):=by
 intro ag s σ H xs A Q I r h;have E:=h;obtain⟨x,mu,S,d,p,v,rfl,l,i,c,hc⟩:=xZ h;unfold ij at c;split at c
 ·rename_i b ys m;cases b with
  |true=>exact Jz hr ag s σ H _ A Q I r ⟨mu,S,[d],p,v,.cons l .nil,i,(by show sn d S=_;unfold sn;rw[m];exact c),hc⟩
  |false=>
  obtain⟨ns,e,c⟩:=PC c;split at c
  ·rename_i D;cases c;obtain⟨a,vs,rfl,q,t⟩:=er l i m;cases r with
   |cons w rt=>
    cases rt;cases w;obtain⟨f,o,B,_⟩:=I.tuple q;obtain⟨hi,n⟩:=ql t o e;have g:f.toArray.size=ns.length:=by rw[sT1,hi.length]
    refine vY (its:=f.toArray) (ns:=ns) hr.hd B (by simpa using hi) (by rw[g];exact D) λh' tk C j=>?_;rw[g,uH]at j;have nd:(ddI ns).Nodup:=pd ns [] bp;have y:=mF (ddI ns);rw[y]at j;refine⟨.ref s.heap.objs.size,upd H s.heap.objs.size (.set (λk=>(ddI ns).contains k) (ddI ns).length),I.laid (λb u z=>C b u z) (nR1 _) j,O,?_⟩;exact hc _ _ (mu++[s.heap.objs.size]) (Ext.new_ I.fresh) (.ref (gA i.len _)) (i.new I.fresh ⟨eI,nd⟩)
  ·cases c
 ·cases c
section
variable{a b:Expr}{rest:List Expr}{pos:Pos}{ta tb:TE}{f g:FE}
end
theorem KR.len{K:Fg1}{H:Hp}{mu:List dP}{ks:List (Key×D)}{ws:List (Key×V)}(h:KR K H mu ks ws):ws.length=ks.length:=by
 induction h with
 |nil=>rfl
 |cons _ _ ih=>rw[lC1,lC1,ih]
def xg:G1:=λd S=>match d with
 | .ref n=>match S[n]? with
  |some (.dct kvs)=>Z (.int kvs.length,S)
  |_=>eQ d S
 |_=>eQ d S
theorem Hy:fi X (.builtin "len") (rN X.K (b1 xg)):=by
 intro ag s σ H xs j Q I r h;obtain⟨x,mu,S,d,g,i,c,f,b,a,hc⟩:=xZ h;have l:=a;unfold xg at a;split at a
 ·rename_i n;split at a
  ·rename_i ys e;cases a;subst c;cases f with
   |ref o=>
    obtain⟨ws,k,p⟩:=b.dct e o;cases r with
    |cons q rt=>
     cases rt;cases q;refine Jy I (Rd.of k) λt s' m=>⟨.int ws.length,H,m,⟨_,O⟩,?_⟩;rw[p.len];exact hc.now (.int _) b
  ·exact eT ag s σ H xs j Q I r (by subst c;exact⟨mu,S,[_],g,i,.cons f .nil,b,(show b1 eQ [_] S=_ from a),hc⟩)
 ·exact eT ag s σ H xs j Q I r (by subst c;exact⟨mu,S,[_],g,i,.cons f .nil,b,(show b1 eQ [_] S=_ from a),hc⟩)
section
variable{P:dQ}{w:dS}{A:dR}{E:dM->dN->Prop}{b:Bool}
end
theorem uK {l:dP}{vs:List dM}{Q:List dM->dN->Prop}(d:s.heap.IsTuple l vs.toArray)
  (h:Q vs {s with heap:=(s.heap.push (Pb "list" #[] 0)).update s.heap.objs.size (NV (· ++ vs.toArray))}) (hsz:vs.length<=dW:=by size_fits):
  dX (Mw prog w) A (collect (.ref l)) Q E s:=by
 obtain⟨o,b,hc,n,c⟩:=id d;unfold collect;refine wB1 (Pn (wD1 entry_proto_collect' ?_));show dX _ _ (do again (.builtin "list.__iadd__" ⟨[<- newList [],.ref l],[]⟩)) _ _ s;refine wB1 (Pf (wP1 ⟨Code.quiet_builtin _ (by decide+kernel),wD1 entry_list_iadd' ?_⟩));show dX _ _ (Po (.ref s.heap.objs.size) (.ref l) (.ref s.heap.objs.size)) _ _ {s with heap:=s.heap.push (Pb "list" #[] 0)};unfold Po;have a:(s.heap.push (Pb "list" #[] 0)).get? l=Z o:=hP1 _ b;refine wB1 (NS (T:="tuple") ⟨o,a,hc⟩ ?_);have e:(KG "tuple" == KG "tuple")=M:=by rfl
 rw [if_pos (by rw [e];simp)];refine wB1 (Pa a c ?_);refine wB1 (Pa (xs:= #[]) (n:=0) (hS1 _ rfl) rfl ?_);rw [if_neg (by simp)];refine wB1 (Pd (xs:= #[]) (n:=0) (hS1 _ rfl) rfl ?_ (bj _) (by show (#[]++vs.toArray).size<=dW+1;simp only [Array.size_append,sT1,bg];omega));refine wP1 ?_;show dX (Mw prog w) A (do
   let o<-load s.heap.objs.size
   match o.data with
   | .seq xs _=>pure xs.toList
   |_=>unsupported "internal:collect") Q E {s with heap:=(s.heap.push (Pb "list" #[] 0)).update s.heap.objs.size (NV (· ++ vs.toArray))}
 refine wB1 (wpAny_load (get?_update_seq (hS1 _ O) _) ?_);show dX _ _ (pure ((#[]:Array dM)++vs.toArray).toList) Q E _;rw[show((#[]:Array dM)++vs.toArray).toList=vs by simp];exact wP1 h
theorem n6 {l:dP}{vs:List dM}{Q:dM->dN->Prop}(c:s.heap.IsList l vs.toArray\/s.heap.IsTuple l vs.toArray)(f:vs.length<64)
  (h:∀P:PySem.Fin->dN->Prop,(∀out:Array dM,Q (.ref (s.heap.objs.size+1)) {s with heap:=sortedAll s.heap vs out}->P (.done (.ret .none)) {s with heap:=sortedAll s.heap vs out}) ->
   ∀e (h':dZ),h'=(((s.heap.push (Pb "list" #[] 0)).update s.heap.objs.size (NV (· ++ vs.toArray))).push (Pb "list" vs.toArray 0))->h'.get? (s.heap.objs.size+1)=Z (Pb "list" vs.toArray 0) ->
   dX (Mw prog w) A.in1.in1 (Builtin.«list.sort» ⟨[.ref (s.heap.objs.size+1)],[]⟩) P e {s with heap:=h'}):
  dX (Mw prog w) A (call (.builtin "sorted") [.ref l]) Q E s:=by
 refine Calls.call_function_entry kind_sorted plain_sorted entry_sorted (args_sorted1 _) ?_;unfold Builtin.«sorted»;refine wB1 (m:=checkCount "sorted" 1 1 _) (wP1 ?_);have g:∀(e:dM->dN->Prop) (Q:List dM->dN->Prop),Q vs {s with heap:=(s.heap.push (Pb "list" #[] 0)).update s.heap.objs.size (NV (· ++ vs.toArray))}->dX (Mw prog w) A.in1 (collect (.ref l)) Q e s:=λe Q d=>by
  rcases c with c|c
  ·exact collect_list c d (by rw[Nq];omega)
  ·exact uK c d (by rw[Nq];omega)
 refine wB1 (g _ _ ?_);refine wB1 (Pf ?_ (by rw[Nq];omega));have a:((s.heap.push (Pb "list" #[] 0)).update s.heap.objs.size (NV (· ++ vs.toArray))).objs.size=s.heap.objs.size+1:=by
  rw[Heap.size_update,size_push']
 have b:(((s.heap.push (Pb "list" #[] 0)).update s.heap.objs.size (NV (· ++ vs.toArray))).push (Pb "list" vs.toArray 0)).get? (s.heap.objs.size+1)=Z (Pb "list" vs.toArray 0):=by
  rw[<- a];exact hS1 _ O
 show dX _ _ _ _ _ {s with heap:=((s.heap.push (Pb "list" #[] 0)).update s.heap.objs.size (NV (· ++ vs.toArray))).push (Pb "list" vs.toArray 0)};rw[a];refine wB1 (M7 (wE1 slot_list_sort ⟨_,b,O⟩ entry_list_sort (h _ ?_ _ _ O b) (args_list_sort _)));intro out d;exact⟨_,O,wP1 ⟨_,O,d⟩⟩
theorem ui{vs:List dM}{b:dP}{o:Obj}(q:s.heap.get? b=Z o):b≠s.heap.objs.size+1/\(((s.heap.push (Pb "list" #[] 0)).update s.heap.objs.size (NV (· ++ vs.toArray))).push (Pb "list" vs.toArray 0)).get? b=Z o:=by
 have a:b<s.heap.objs.size:=hL1 q;have c:((s.heap.push (Pb "list" #[] 0)).update s.heap.objs.size (NV (· ++ vs.toArray))).objs.size=s.heap.objs.size+1:=by
  rw[Heap.size_update,size_push']
 refine⟨nN1 (cB a),?_⟩;rw[Heap.get?_push_ne _ _ _ (by rw[c];exact nN1 (cB a)),hU1 _ _ _ _ (nN1 a),Heap.get?_push_ne _ _ _ (nN1 a)];exact q
theorem A7{a b:dP}{k l:Int}{t u:Tok}{f zs:List dM}{Q:Bool->dN->Prop}(ha:L3 s.heap a (aa k t::f).toArray)(hb:L3 s.heap b (aa l u::zs).toArray)(c:k≠l)(h:Q (decide (k<l)) s):
  dX (Mw prog w) A (keyLt' (O8 M) (.ref a) (.ref b)) Q E s:=by
 rw[ji];obtain⟨o,i,j,_,d⟩:=ha;obtain⟨m,g,n,_,e⟩:=hb;refine wB1 (Pa i d (wB1 (Pa g e ?_)));rw[bW,bN,bH];refine wB1 (wB1 ?_);dsimp only;refine wB1 (wpAny_eqBool_int ?_);rw[beq_false_of_ne c];simp only[cm,NL];exact wB1 (oneLt_int (wP1 (wP1 (wP1 h))))
theorem A8{vs:List dM}{Q:OT->dN->Prop}(g:vs≠[])(h:∀ v∈vs,∃ a k t ps,v = .ref a/\L3 s.heap a (aa k t::ps).toArray)(q:Q (O8 true) s):
  dX (Mw prog w) A (keyKind' vs.toArray) Q E s:=by
 rw[keyKind'_eq,cq,<- bind_pure_comp];refine wB1 (wB1 (l5 (P:=λ_ r=>∃k t,r=Z (aa k t)) (λv f=>?_) λrs B d=>wP1 ?_))
 ·obtain⟨a,k,t,ps,rfl,⟨o,l,D,_,F⟩⟩:=h v f;refine⟨Z (.int k t),⟨k,t,O⟩,λQ q=>?_⟩;rw[uz];refine wB1 (NS (T:="tuple") ⟨o,l,D⟩ ?_);rw[aj (by decide)];refine wB1 (Pa l F (wP1 ?_));simpa using q
 ·have u:rs.toArray.all (·.isSome)=true:=by
   rw[cr,bD];intro r j;obtain⟨v,_,k,t,e⟩:=d r j;rw[e];rfl
  rw[ak u];refine wB1 (Nb ?_);rw[oneTypeOnly'_eq];have p:rs.toArray.filterMap id=(rs.filterMap id).toArray:=by simp
  rw[p,cq,<- bind_pure_comp];refine wB1 (wB1 (wB1 (l5 (P:=λ_ t=>t=KG "int") (λv f=>?_) λb c y=>wP1 ?_)))
  ·obtain⟨r,j,e⟩:=aM.mp f;obtain⟨G,_,k,t,C⟩:=d r j;rw[C]at e;cases e;exact⟨_,O,λQ q=>NS (T:="int") (typeIs_int s k t) q⟩
  ·cases b with
   |nil=>
    exfalso;cases rs with
    |nil=>exact g (cs.mp B.symm)
    |cons r rs=>
     obtain⟨_,_,k,t,e⟩:=d r mS1;rw[e]at c;simp at c
   |cons t b=>
    have all:∀x∈t::b,x=KG "int":=λx i=>by obtain⟨_,_,z⟩:=y x i;exact z
    have n:=all t mS1;subst n;have m:((KG "int"::b).toArray.all λx=>x == KG "int")=M:=by
     rw[cr,bD];intro x i;rw[all x i];rfl
    show dX _ _ (pure (if((KG "int"::b).toArray.all λx=>x == KG "int")=M then Z (KG "int")else Y)) _ _ _;rw[ak m];exact wP1 (wP1 q)
noncomputable def iD:D->Option Int
 | .tup (.int k::_)=>Z k
 |_=>Y
def jG:List D->Bool
 |[]=>M
 |x::l=>(match iD x with
  |some a=>l.all λy=>match iD y with
   |some b=>decide (a<b)
   |none=>J
  |none=>J)&&jG l
theorem tz:∀{l:List D} {i:Nat} {x:D},jG l=M->l[i]?=Z x -> ∃k,iD x=Z k
 |[],i,x,_,h=>by simp at h
 |y::l,0,x,h,e=>by
  cases e;rw[jG,bA1]at h;cases hy:iD y with
  |some k=>exact⟨k,O⟩
  |none=>rw[hy]at h;cases h.1
 |y::l,i+1,x,h,e=>by
  rw[jG,bA1]at h;exact tz h.2 (by simpa using e)
theorem lR:∀{l:List D} {i j:Nat} {x y:D} {a b:Int},jG l=M->l[i]?=Z x->l[j]?=Z y->i<j->iD x=Z a->iD y=Z b->a<b
 |[],i,j,x,y,_,_,_,h,_,_,_,_=>by simp at h
 |z::l,0,0,_,_,_,_,_,_,_,h,_,_=>by omega
 |z::l,0,j+1,x,y,a,b,h,e1,e2,_,f1,f2=>by
  cases e1;rw[jG,bA1,f1]at h;have:=bD.mp h.1 y (gM1 (by simpa using e2));rw[f2]at this;exact N9 this
 |z::l,i+1,0,_,_,_,_,_,_,_,h,_,_=>by omega
 |z::l,i+1,j+1,x,y,a,b,h,e1,e2,hij,f1,f2=>by
  rw[jG,bA1]at h;exact lR h.2 (by simpa using e1) (by simpa using e2) (by omega) f1 f2
def gI:G1:=λd S=>match eg S d with
 |some (M,xs)=>match nk xs with
  |some ns=>if ns.length<64 then Z (.ref S.length,S++[.lst ((jB ns).map D.int)])else Y
  |none=>if(jG xs&&decide (xs.length<64))=M then Z (.ref S.length,S++[.lst xs])else Y
 |some (J,xs)=>(nk xs).bind λns=>if ns.length<64 then Z (.ref S.length,S++[.lst ((jB ns).map D.int)])else Y
 |none=>Y
section
variable{ag:List (dP×Obj)}{σ:L2.St}{H:Hp}{s:dN}{mu:List dP}
theorem Fz(I:Inv X ag σ H s):∀{ds:List D} {vs:List V} {its:List dM} {i:Nat} {d:D} {k:Int},ej X.K H mu ds vs->eG vs its->ds[i]?=Z d->iD d=Z k -> ∃b t ps,its[i]?=Z (.ref b)/\L3 s.heap b (aa k t::ps).toArray:=by
 intro ds
 induction ds with
 |nil=>intro vs its i d k _ _ h;simp at h
 |cons x ds ih=>
  intro vs its i d k t n h a;cases t with
  |cons m t=>
   cases n with
   |cons f j=>
    cases i with
    |zero=>
     have:x=d:=by simpa using h
     subst this;unfold iD at a;split at a
     ·rename_i o rest;cases a;cases m with
      |tup q l=>
       obtain⟨is,c,it,_⟩:=I.tuple q;cases l with
       |cons rk p=>
        cases rk;cases c with
        |cons g _=>
         obtain⟨tk,rfl⟩:=g;cases f;exact⟨_,tk,_,O,it⟩
     ·cases a
    |succ i=>
     obtain⟨b,tk,ps,e,h⟩:=ih t j (by simpa using h) a;exact⟨b,tk,ps,by simpa using e,h⟩
end
theorem sE:fi X (.builtin "sorted") (rN X.K (b1 gI)):=by
 intro ag s σ H xs us Q I r h;obtain⟨x,mu,S,d,r',S',rfl,r1,B,f,hc⟩:=xZ h;unfold gI at f;split at f
 ·rename_i ds en;obtain⟨a,vs,rfl,q,t⟩:=er r1 B en;obtain⟨u,rfl,r2⟩:=iO r;cases r2;obtain⟨its,w,ht,hz⟩:=I.list q;split at f
  ·rename_i ns p;split at f
   ·rename_i hl;cases f;have hI:=qj t w p;have A:its.length=ns.length:=by rw[<- w.length,<- t.length,qm p]
    refine sorted_ints ht.isList hI (by lia) λout D F hp C=>?_;have G:D=jB ns:=nN (hp.trans (fI ns).symm) C (iQ ns);subst G;obtain⟨ep,n⟩:=sortedAll_at s.heap its out;have c:=I.hok.fresh (aZ s.heap.objs.size);refine⟨.ref (s.heap.objs.size+1),_,I.laid (t':=s.toks) (o:=.lst ((jB ns).map V.int)) (λb ob q=>sortedAll_old q) (aZ _) ?_,O,hc _ _ (mu++[_]) (Ext.new_ c) (.ref (gA B.len _)) (B.newL (kl _) c)⟩;refine⟨?_,out.toList,ep,qk F,by rw[cy];exact n⟩;rw[lM1,(fI ns).length_eq,Nq];lia
   ·cases f
  ·split at f
   ·rename_i g;cases f;rw[bA1,al]at g;obtain⟨hr,hl⟩:=g;have A:its.length=ds.length:=by rw[<- w.length,<- t.length]
    have m:∀(i:Nat) (v:dM),its[i]?=Z v -> ∃b d k t ps,v = .ref b/\ds[i]?=Z d/\iD d=Z k/\L3 s.heap b (aa k t::ps).toArray:=λi v hv=>by
     have hi:=(PB hv).1;have hd:ds[i]?=Z ds[i]:=gG1 (by omega);obtain⟨k,ao⟩:=tz hr hd;obtain⟨b,tk,ps,e,it⟩:=Fz I t w hd ao;rw[hv]at e;cases e;exact⟨b,_,k,tk,ps,O,hd,ao,it⟩
    have uq:∀{b:dP} {k l:Int} {t u:Tok} {ps qs:List dM},L3 s.heap b (aa k t::ps).toArray->L3 s.heap b (aa l u::qs).toArray->k=l:=λh1 h2=>by
     obtain⟨o,p,_,_,d1⟩:=h1;obtain⟨o2,wq,_,_,L⟩:=h2;rw[p]at wq;cases wq;rw[d1]at L;injection L with L _;have:=congrArg Array.toList L;injection this with h1 _;injection h1
    refine n6 (.inl ht.isList) (by omega) λP hP E' h' eh am=>?_;refine Cy (s:={s with heap:=h'}) (κ:=O8 M) (ws:=its) am (by omega) (List.Perm.refl _) (λR k2 h2=>?_) ?_
    ·have keep:∀ b o,s.heap.get? b=some o->R.get? b=some o:=fun b o e=>by
      have:=ui (vs:=its) e;rw[<- eh]at this;exact k2 b o this.1 this.2
     have kt:∀{b:dP} {xs:Array dM},L3 s.heap b xs->L3 R b xs:=λh=>h.keeps keep;refine⟨⟨?_,?_,?_⟩,λQ q=>?_⟩
     ·refine cC.mpr λi j hi hj T e=>?_;obtain⟨b,d1,W,t1,K,p,U,au,N⟩:=m i _ (gG1 hi);obtain⟨b2,L,k3,t2,ps2,wq,f2,aq,i2⟩:=m j _ (gG1 hj);rw[p,wq]at e;cases e;have:=lR hr U f2 T au aq;have:=uq N i2;omega
     ·rw[pairsOf_toList];have:(its.zip its).map (·.1)=its:=List.map_fst_zip (nR1 _);rw[this]
     ·intro x y i j hx hy T E Q q;obtain ⟨b,d1,W,t1,K,rfl,U,au,N⟩:=m i _ hx;obtain ⟨b2,L,k3,t2,ps2,rfl,f2,aq,i2⟩:=m j _ hy;have ao:W≠k3/\decide (W<k3)=decide (i<j):=by
       by_cases z:i<j
       ·have:=lR hr U f2 z au aq;exact⟨by omega,by rw[ah z,ah this]⟩
       ·have:=lR hr f2 U (by omega) aq au;exact⟨by omega,by rw[ai z,ai (by omega)]⟩
      exact A7 (kt N) (kt i2) ao.1 (by rw[ao.2];exact q)
     ·refine A8 (λz=>by rw[z]at h2;simp at h2) (λv hv=>?_) q;obtain⟨i,hi⟩:=bq hv;obtain⟨b,d1,W,t1,K,rfl,U,au,N⟩:=m i _ hi;exact⟨b,W,t1,K,O,kt N⟩
    ·have e0:Pc h' (s.heap.objs.size+1) its its.toArray=sortedAll s.heap its its.toArray:=by rw[eh];rfl
     show P _ {s with heap:=Pc h' (s.heap.objs.size+1) its its.toArray};rw[e0];refine hP its.toArray ?_;obtain⟨ep,n⟩:=sortedAll_at s.heap its its.toArray;have c:=I.hok.fresh (aZ s.heap.objs.size);refine⟨.ref (s.heap.objs.size+1),_,I.laid (t':=s.toks) (o:=.lst vs) (λb ob q=>sortedAll_old q) (aZ _) ?_,O,hc _ _ (mu++[_]) (Ext.new_ c) (.ref (gA B.len _)) (B.newL t c)⟩;refine⟨?_,its,ep,w,n⟩;rw[w.length,Nq];lia
   ·cases f
 ·rename_i ds en;obtain⟨ns,p,f⟩:=PC f;split at f
  ·rename_i hl;cases f;obtain⟨a,vs,rfl,q,t⟩:=er r1 B en;obtain⟨u,rfl,r2⟩:=iO r;cases r2;obtain⟨its,w,ht,hz⟩:=I.tuple q;have hI:=qj t w p;have A:its.length=ns.length:=by rw[<- w.length,<- t.length,qm p]
   refine n6 (.inr ht) (by omega) λP hP E' h' eh am=>?_;refine list_sort_tree (s:={s with heap:=h'}) am hI (by omega) λout D F hp C=>?_;have e0:Pc h' (s.heap.objs.size+1) its out=sortedAll s.heap its out:=by rw[eh];rfl
   show P _ {s with heap:=Pc h' (s.heap.objs.size+1) its out};rw[e0];refine hP out ?_;have G:D=jB ns:=nN (hp.trans (fI ns).symm) C (iQ ns);subst G;obtain⟨ep,n⟩:=sortedAll_at s.heap its out;have c:=I.hok.fresh (aZ s.heap.objs.size);refine⟨.ref (s.heap.objs.size+1),_,I.laid (t':=s.toks) (o:=.lst ((jB ns).map V.int)) (λb ob q=>sortedAll_old q) (aZ _) ?_,O,hc _ _ (mu++[_]) (Ext.new_ c) (.ref (gA B.len _)) (B.newL (kl _) c)⟩;refine⟨?_,out.toList,ep,qk F,by rw[cy];exact n⟩;rw[lM1,(fI ns).length_eq,Nq];lia
  ·cases f
 ·cases f
section
variable{f:dP}{fd:d2}{ps:List Str}{k n:Nat}{sp:Sp}{dvs:List V}{ds:List dM}{CX:yU}{E:XK}{t:TA}{e:Expr}{es:List Expr}{p pos:Pos}{i:Nat}{v x:Str}
end
section
variable{prog:dQ}{w:dS}{K:Type} [DecidableEq K] {knd:HeapKind prog w K}{A:dR}{E:dM->dN->Prop}{s:dN}
end
theorem KE.fits{es:Array (Int×dM)}{t:SetTable}(h:KE es t):t.fits es.size=M:=by
 unfold SetTable.fits SetTable.fill;rw[h.du,h.sz];have:=h.fl;simp;exact this
def L1(h:dZ)(k:TK)(e:Int×dM):Prop:=∃a,e=(k.hash,.ref a)/\iE h k (.ref a)/\k.dep<=8
def JS(h:dZ)(xs:List (TK×dP×dM)):Prop:=∀z∈xs,iE h z.1 (.ref z.2.1)/\z.1.dep<=8
theorem JS.el{h:dZ}{xs:List (TK×dP×dM)}{es:Array (Int×dM)}(b:JS h xs)(a:∀e∈es.toList,∃z∈xs,e=(z.1.hash,.ref z.2.1)):∀e∈es.toList,∃d,L1 h d e:=λe f=>by
 obtain⟨z,c,rfl⟩:=a e f;exact⟨z.1,z.2.1,O,(b z c).1,(b z c).2⟩
section
variable{P:dQ}{w:dS}{A:dR}{E:dM->dN->Prop}{s:dN}{p:dP}{xs:List (TK×dP×dM)}
end
section
variable{P:dQ}{w:dS}{A:dR}{E:dM->dN->Prop}
end
section
variable{pos:Pos}
theorem gn(i:Nat){x:Str}(hN:X.N.Nodup)(hi:autoParam (X.N[i]?=Z x) au0)(hx:autoParam (uX X.env.scope x) au0)(hf:autoParam (X.fn x=M\/X.env.scope.names.lookup x=Z .local) au0):XG X (.Name x pos) (gN i):=qO i hN hi hx hf
theorem ce{op:No}{x y:Expr}{f:FN}{a b:FE}(ho:gJ X (Nn op) (r2 X.K f))(hx:XE X x a)(hy:XE X y b)(hm:Np op y=J:=by exact Ax _):XE X (.Compare x [op] [y] pos) (m2 f a b):=Ci ho hx hy hm
theorem ct{op:No}{x y:Expr}{f:FN}{a b:FE}(ho:gJ X (Nn op) (r2 X.K f))(hx:XE X x a)(hy:XE X y b)(hm:autoParam (Np op y=J) ce._auto_1):XT X (.Compare x [op] [y] pos) (mB (m2 f a b)):=qX ho hx hy hm
theorem kc{a:d4}{i:Nat}{l:List Nat}(x:Str)(r:∀i∈l,∃x,X.N[i]?=Z x/\a.names.lookup x=Z .free/\(X.env.kindOf x=Z .cell\/X.env.kindOf x=Z .free)/\(x,Oc)∉a.names)(h1:autoParam (X.N[i]?=Z x) au0)(h2:autoParam (a.names.lookup x=Z .free) au0)(c:autoParam (X.env.kindOf x=Z .cell\/X.env.kindOf x=Z .free) au0)(b:autoParam ((x,Oc)∉a.names) eu0):∀j∈i::l,∃x,X.N[j]?=Z x/\a.names.lookup x=Z .free/\(X.env.kindOf x=Z .cell\/X.env.kindOf x=Z .free)/\(x,Oc)∉a.names:=List.forall_mem_cons.mpr ⟨⟨x,h1,h2,c,b⟩,r⟩
end
structure eO (K:Fg1)(x:Str)(st:d3)(f:dP):Prop where
 ns:wN1 K dU x=some (some (.ref f))
 fn:∃fd,xK K x x st f fd
theorem Ju{K:Fg1}{x:Str}{st:d3}{f:dP}{h:dM}{g i:Option dP}{e:Array (Option dM)}{kV d j b ct:dM}(a:wN1 K dU x=Z (Z (.ref f)))(l:K.lookup f=Z ⟨h,g,.func (wF1 x x (iK st) (fK st) (eB st) .none kV d j i b ct),e⟩)(c:wC1 K b x=M)(k:wK1 K (.ref f)=M):eO K x st f:=⟨a,_,Bw l c k⟩
theorem xo{P:dQ}{w:dS}{K:Fg1}{mg:Str->Option dM}{base h:dZ}{x:Str}{st:d3}{f:dP}{N ps:List Str}{k n:Nat}{b:FS}(X:K.In h)(G:h.Ns dU mg)(F:eO K x st f)(S:gR N ps (eB st))(hb:∀(kV e j:dM) (l:Option dP) (a ct:dM) (g:List dM),g.length=ps.length->bindArgs (wF1 x x (iK st) (fK st) (eB st) .none kV e j l a ct) ⟨g,[]⟩=pure (ps.zip g))(c:∀(f:dP) (a:dM) (A:dR) (d:List Env) (s:dN) (H:Hp) (E:XK),gl k (A.deeper (NA x (eB st) s.heap.objs.size f a)) ->
   v8 (nE uY P w K mg base N x (eB st) f a A d s H E).nox (fK st) b)(hn:autoParam (ps.length=n) au0):Own P w K mg base (k+1) x n (iC N.length b):=by
 obtain⟨fd,i⟩:=F.fn;exact wl i (i.binds hb) (wM1 X G F.ns) S hn (c f)
section
variable{ag:List (dP×Obj)}{σ:L2.St}{H:Hp}{s:dN}{mu:List dP}
end
section
variable{P:dQ}{w:dS}{A:dR}{E:dM->dN->Prop}{s:dN}{a x:dP}{xs:List (TK×dP×dM)}{k:TK}
end
section
variable{o e:Expr}{es:List Expr}{to:TE}{t:TA}{name:Str}{apos cpos:Pos}{id:String}{r:V->List V->Hp->VK->Prop}
end
section
variable{x y z u:Expr}{pos:Pos}{f g k:FN}{a b c d:FE}{op op' op'':No}{ta tb tc td:TE}
end
structure Blt (L:List Str)(mg:Str->Option dM):Prop where
 h:∀x∈L,mg x=none
theorem bz{L:List Str}{mg:Str->Option dM}{x:Str}(B:Blt L mg)(h:autoParam (x∈L) bu0):mg x=Y:=B.h x h
theorem sk{N P:List Str}{sc:d4}(h1:autoParam (sc.kind = .function) au0)(h2:autoParam (sc.isCoroutine=J) au0)(e:autoParam (sc.isGenerator=J) au0)(a:autoParam (N.Nodup) eu0)(d:autoParam (N.take P.length=P) au0)(c:autoParam (∀x∈P,sc.names.lookup x=Z .local\/sc.names.lookup x=Z .cell) eu0)(b:autoParam (∀y∈sc.names,y.2 ≠ .free) eu0):gR N P sc:=⟨h1,h2,e,a,d,c,b⟩
def JQ(K:Fg1):List Str->Prop
 |[]=>True
 |x::l=>wN1 K dU x=Z Y/\JQ K l
theorem JQ.blt{K:Fg1}{mg:Str->Option dM}{h:dZ}(X:K.In h)(G:h.Ns dU mg):∀{L:List Str},JQ K L->Blt L mg
 |[],_=>⟨λ_ m=>nomatch m⟩
 |_::_,z=>⟨λ_ m=>match m with
  | .head _=>PySem.W.mg_none_of X G z.1
  | .tail _ m=>(JQ.blt X G z.2).h _ m⟩
noncomputable def J4:List Str->Bool
 |[]=>M
 |x::l=> !l.contains x&&J4 l
theorem iH:∀{l:List Str},J4 l=M->l.Nodup
 |[],_=>bp
 |x::l,h=>by
  obtain⟨a,b⟩:=(bA1 _ _).mp h;exact aQ.mpr ⟨λm=>(by rw[List.contains_iff_mem.mpr m]at a;cases a),iH b⟩
section
variable{pos:Pos}{k:Nat}{x:Str}{i:Nat}{e y:Expr}{es:List Expr}{m b:FE}{a:FA}{p:Pos}
theorem xv (hN:autoParam (X.N[i]?=Z x) au0)(hv:autoParam (Vis X.env.scope x) au0)(hd:autoParam ((x == ("__debug__":Str))=J) bu0)(hcd:autoParam ((x == ("__classdict__":Str))=J) bu0):XE X (.Name x pos) (mV i):=LR i hN hv hd hcd
theorem gq(hN:autoParam (J4 X.N=M) au0)(hi:autoParam (X.N[i]?=Z x) au0)(hx:autoParam (uX X.env.scope x) au0)(hf:autoParam (X.fn x=M\/X.env.scope.names.lookup x=Z .local) au0):XG X (.Name x pos) (gN i):=qO i (iH hN) hi hx hf
theorem sq(he:XE X e m)(hN:autoParam (J4 X.N=M) au0)(hi:autoParam (X.N[i]?=Z x) au0)(hx:autoParam (uX X.env.scope x) au0)(hs:autoParam (MZ e (Z (.Name x p)) pos.line X.env=pure J) au0)(hf:autoParam (X.fn x=M\/X.env.scope.names.lookup x=Z .local) au0):XS X (.Assign [.Name x p] e pos) (eF m (gN i)):=qY i (iH hN) hi hx he hs hf
theorem jq(hx:XE X e m)(hy:XE X y b)(hr:autoParam (gl k X.A) au0)(hs:autoParam (nW y) xR._auto_1):XE X (.Subscript e y pos) (m2 (b2 ez) m b):=qJ (qP hr.units) hx hy hs
theorem oq{au:Prop}(o:X.A.units+64<Nv->au)(hr:autoParam (gl k X.A) au0):au:=o hr.units
theorem wn {k' n:Nat}{f:FN}(h:Own X.prog X.w X.K X.mg X.base k x n f)(ha:XA X (e::es) a)(hr:autoParam (gl k' X.A) au0)(hk:autoParam (k<=k') bu0)(hg:autoParam (Gl X x) au0)(hdb:autoParam ((x == ("__debug__":Str))=J) bu0)(he:autoParam (dV (e::es) X.env=(J,eval e X.env)::dV es X.env) au0)(hpl:autoParam ((MR pos (dV es X.env)).any (·.1)=J) au0):XE X (.Call (.Name x p) (e::es) [] pos) (mN (ea n f) a):=qH h hr hk hg ha hdb he hpl
theorem cn {id:String}{f:FN}(hc:fi X (.builtin id) (rN X.K f))(ha:XA X (e::es) a)(hm:X.mg x=Y:=by exact bz ‹_›)(hg:autoParam (Gl X x) au0)(hv:autoParam (L5 x=Z (.builtin id)) eu0)(hn:autoParam (x≠"__name__") bu0)(hdb:autoParam ((x == ("__debug__":Str))=J) bu0)(he:autoParam (dV (e::es) X.env=(J,eval e X.env)::dV es X.env) au0)(hpl:autoParam ((MR pos (dV es X.env)).any (·.1)=J) au0):XE X (.Call (.Name x p) (e::es) [] pos) (mN f a):=qD hc hg hm hv ha hn hdb he hpl
theorem cz {T:String}{f:FN}(hc:fi X (.type T) (rN X.K f))(ha:XA X (e::es) a)(hm:autoParam (X.mg x=Y) cn._auto_1)(hg:autoParam (Gl X x) au0)(hv:autoParam (L5 x=Z (.type T)) eu0)(hn:autoParam (x≠"__name__") bu0)(hdb:autoParam ((x == ("__debug__":Str))=J) bu0)(he:autoParam (dV (e::es) X.env=(J,eval e X.env)::dV es X.env) au0)(hpl:autoParam ((MR pos (dV es X.env)).any (·.1)=J) au0):XE X (.Call (.Name x p) (e::es) [] pos) (mN f a):=qE hc hg hm hv ha hn hdb he hpl
theorem a1(h:XE X e m)(hs:autoParam (dV [e] X.env=(J,eval e X.env)::dV [] X.env) au0):XA X [e] (d5 m d6):=qA h qN hs
theorem a2(h:XE X e m)(g:XE X y b)(hs:autoParam (dV [e,y] X.env=(J,eval e X.env)::dV [y] X.env) au0)(hs2:autoParam (dV [y] X.env=(J,eval y X.env)::dV [] X.env) au0):XA X [e,y] (d5 m (d5 b d6)):=qA h (a1 g hs2) hs
theorem a3{z:Expr}{c:FE}(h:XE X e m)(g:XE X y b)(l:XE X z c)(hs:autoParam (dV [e,y,z] X.env=(J,eval e X.env)::dV [y,z] X.env) au0)(hs2:autoParam (dV [y,z] X.env=(J,eval y X.env)::dV [z] X.env) au0)(a:autoParam (dV [z] X.env=(J,eval z X.env)::dV [] X.env) au0):XA X [e,y,z] (d5 m (d5 b (d5 c d6))):=qA h (a2 g l hs2 a) hs
theorem ir (ha:XA X [e] a)(hm:autoParam (X.mg "range"=Y) cn._auto_1)(hg:autoParam (Gl X "range") au0)(hs:autoParam (dV [e] X.env=[(J,eval e X.env)]) au0):XI X y (.Call (.Name "range" p) [e] [] pos) (pN a):=va hg hm ha hs
theorem ie {elts:List Expr}{b:Nat}{tpos:Pos}(ha:XA X [e] a)(hm:autoParam (X.mg "enumerate"=Y) cn._auto_1)(hg:autoParam (Gl X "enumerate") au0)(hs:autoParam (dV [e] X.env=[(J,eval e X.env)]) au0):XI X (.Tuple elts b tpos) (.Call (.Name "enumerate" p) [e] [] pos) (oR a):=yY hg hm ha hs
theorem ii {T:Ty}{p2:Pos}(h:XE X e m)(hm:autoParam (X.mg "isinstance"=Y) cn._auto_1)(hm2:autoParam (X.mg x=Y) cn._auto_1)(hg:autoParam (Gl X "isinstance") au0)(hg2:autoParam (Gl X x) au0)(hv2:autoParam (L5 x=Z (.type T.nm)) eu0)(hn:autoParam (x≠"__name__") bu0)(hd:autoParam ((x == ("__debug__":Str))=J) bu0)(hs1:autoParam (dV [e,.Name x p2] X.env=(J,eval e X.env)::dV [.Name x p2] X.env) au0)(hs2:autoParam (dV [.Name x p2] X.env=(J,eval (.Name x p2) X.env)::dV [] X.env) au0)(hpl:autoParam ((MR pos (dV [.Name x p2] X.env)).any (·.1)=J) au0):XE X (.Call (.Name "isinstance" p) [e,.Name x p2] [] pos) (nC T m):=vd T hg hm hg2 hm2 hv2 h hn hd hs1 hs2 hpl
structure Lm (X:Cx)(name:Str)(id:String)(f:FN):Prop where
 s:Slot "list" name id
 t:typeOf (.builtin id)=pure (.type "method_descriptor")
 m:HM X id (λx xs H Q=>rN X.K f (x::xs) H Q)
theorem ap:Lm X "append" "list.append" (b2 iF):=⟨PySem.F.slot_list_append,PySem.F.type_list_append,HZ⟩
theorem lq{f:FN}{name:Str}{apos:Pos}{id:String}(s:Lm X name id f)(ho:XE X y m)(ha:XA X (e::es) a)(hbase:autoParam (NY y name X.env (eval y X.env)=eval y X.env) au0)(hfew:autoParam (((MR pos (dV (e::es) X.env)).all (λx=> !x.1)&&(backToKw pos (NZ [] X.env)).all (λx=>x.1.isSome)&&decide ((e::es).length+([]:List Ny).length+(if([]:List Ny).isEmpty then 0 else 1)<30))=M) au0)(hline:autoParam ((apos.endLine == pos.line)=M) au0)(hs:autoParam (dV (e::es) X.env=(J,eval e X.env)::dV es X.env) au0)(hplain:autoParam ((MR pos (dV es X.env)).any (·.1)=J) au0):XS X (.Expr (.Call (.Attribute y name apos) (e::es) [] pos) p) (fQ (nB f m a)):=yX (qe s.s s.t s.m ho ha hbase hfew hline hs hplain)
theorem fo{tg iter:Expr}{a:List d3}{m:FI}{g:FG}{b:FS}(hi:XI X tg iter m)(hg:XG X tg g)(hb:v8 X a b)(hp:Nc (Mw X.prog X.w) X.A X.env X.xe:=by exact Pp)(hc:autoParam (X.calm=M) au0)(hs:autoParam (∀x,Nl iter X.env x=pure x) du0):XS X (.For tg iter a [] pos) (fz m g b):=qW hp hc hi hg hb hs
theorem tg2{d:Expr}{g h:FG}{a:Nat}(h1:XG X e g)(h2:XG X d h)(hc:autoParam (X.calm=M) au0)(hs:autoParam ((M3 [e,d] X.env).map (·.2)=M0 e X.env::(M3 [d] X.env).map (·.2)) au0)(hs2:autoParam ((M3 [d] X.env).map (·.2)=M0 d X.env::(M3 [] X.env).map (·.2)) au0)(hn:autoParam ((M3 [e,d] X.env).length=2) au0)(hst:autoParam ((M3 [e,d] X.env).findIdx? (·.1)=Y) au0):XG X (.Tuple [e,d] a pos) (gT 2 (fO g (fO h jp))):=Cg hc (pR h1 (pR h2 yZ hs2) hs) hn hst
noncomputable def J7(x:Str):List (Str×Nz)->Bool
 |[]=>M
 |(y,.cell)::l=> !(y == x)&&J7 x l
 |_::l=>J7 x l
omit k i in
theorem AB:∀{l:List (Str×Nz)},J7 x l=M->(x,Oc)∉l
 |[],_,m=>nomatch m
 |(y,c)::l,h,m=>by
  rcases aF.mp m with e|a
  ·cases e;have h:=((bA1 _ _).mp h).1;rw[OB]at h;cases h
  ·cases c with
   |cell=>exact AB ((bA1 _ _).mp h).2 a
   |_=>exact AB (l:=l) h a
theorem kz{a:d4}{l:List Nat}(r:∀i∈l,∃x,X.N[i]?=Z x/\a.names.lookup x=Z .free/\(X.env.kindOf x=Z .cell\/X.env.kindOf x=Z .free)/\(x,Oc)∉a.names)(h1:autoParam (X.N[i]?=Z x) au0)(h2:autoParam (a.names.lookup x=Z .free) au0)(c:autoParam (X.env.kindOf x=Z .cell\/X.env.kindOf x=Z .free) au0)(b:autoParam (J7 x a.names=M) au0):∀j∈i::l,∃x,X.N[j]?=Z x/\a.names.lookup x=Z .free/\(X.env.kindOf x=Z .cell\/X.env.kindOf x=Z .free)/\(x,Oc)∉a.names:=kc x r h1 h2 c (AB b)
def LB(X:Cx)(sc:d4):List (Str×dP):=(jW X.env.cells sc.names []).getD []
theorem fk{elt tg iter:Expr}{ifs:List Expr}{scope:d4}(T:List Str){keep:List Nat}{m:FI}{g:FG}{t:FT}{e:FE}(hi:XI X tg iter m)(hb:∀ {s H fp},Lc (cxC X scope (LB X scope) T keep s H fp) X.K tg ifs elt g t e)(c:∀i∈keep,∃x,X.N[i]?=Z x/\scope.names.lookup x=Z .free/\(X.env.kindOf x=Z .cell\/X.env.kindOf x=Z .free)/\(x,Oc)∉scope.names:=by repeat first|exact cD _|refine kz ?_)(hc:autoParam (X.calm=M) au0)(b:autoParam (scope.kind = .function) au0)(a:autoParam (∀x∈scope.names,x.2 = .local->scope.names.lookup x.1=Z .local) eu0)(d:autoParam (jW X.env.cells scope.names []=Z (LB X scope)) au0)(hs:autoParam (∀x,Nl iter X.env x=pure x) du0):XE X (.ListComp elt [⟨tg,iter,ifs,0⟩] scope pos) (eZ T.length keep m g t (eR e)):=qZ hc ⟨b,a,c⟩ d hi (λ_ _ _=>hb) hs
end
theorem xq{P:dQ}{w:dS}{K:Fg1}{mg:Str->Option dM}{base h:dZ}{x:Str}{st:d3}{f:dP}{k n:Nat}{b:FS}(N:List Str)(X:K.In h)(G:h.Ns dU mg)(F:eO K x st f)(c:∀{f:dP} {a:dM} {A:dR} {d:List Env} {s:dN} {H:Hp} {E:XK},gl k (A.deeper (NA x (eB st) s.heap.objs.size f a)) ->
   v8 (nE uY P w K mg base N x (eB st) f a A d s H E).nox (fK st) b)(S:gR N (N.take n) (eB st):=by exact sk)(hb:∀(kV i l:dM) (m:Option dP) (a ct:dM) (e:List dM),e.length=(N.take n).length->bindArgs (wF1 x x (iK st) (fK st) (eB st) .none kV i l m a ct) ⟨e,[]⟩=pure ((N.take n).zip e):=by
   intro _ _ _ _ _ _ e g;exact zl9 g λ_=>rfl)(hn:autoParam ((N.take n).length=n) au0):Own P w K mg base (k+1) x n (iC N.length b):=xo X G F S hb (λ_ _ _ _ _ _ _ j=>c j) hn
open AutoSeq1 (wpAny_loadPart')
mutual
noncomputable def pl:D->Bool
 | .non=>M
 | .bl _=>M
 | .int _=>M
 | .str _=>M
 | .tup xs=>tL xs
 |_=>J
noncomputable def tL:List D->Bool
 |[]=>M
 |x::xs=>pl x&&tL xs
end
section
variable{ag:List (dP×Obj)}{σ:L2.St}{H:Hp}{s:dN}{mu:List dP}{S:d7}
mutual
theorem wC(I:Inv X ag σ H s):∀{d d':D} {v:V},pl d=M->pl d'=M->fc X.K H mu d v->fc X.K H mu d' v->d=d'
 | .non,d',_,_,h,.non,r=>by cases r;rfl
 | .bl b,d',_,_,h,.bl _,r=>by cases r;rfl
 | .int i,d',_,_,h,.int _,r=>by cases r;rfl
 | .str x,d',_,_,h,.str _,r=>by cases r;rfl
 | .tup xs,d',_,g,h,.tup q t,r=>by
  cases r with
  |tup a c=>
   have e:=I.tuple_inj q a;subst e;rw[pl]at g h;rw[tF I g h t c]
  |rol _ _=>cases h
  |ref _=>cases h
  |fn _=>cases h
 | .rol _,_,_,g,_,_,_=>by cases g
 | .ref _,_,_,g,_,_,_=>by cases g
 | .fn _,_,_,g,_,_,_=>by cases g
theorem tF(I:Inv X ag σ H s):∀{ds a:List D} {vs:List V},tL ds=M->tL a=M->ej X.K H mu ds vs->ej X.K H mu a vs->ds=a
 |[],_,_,_,_,.nil,r=>by cases r;rfl
 |d::ds,_,_,g,h,.cons r t,z=>by
  cases z with
  |cons c b=>
   rw[tL,bA1]at g h;rw[wC I g.1 h.1 r c,tF I g.2 h.2 t b]
end
end
noncomputable def i3:D->Option Bool
 | .tup (.int _::_)=>Z M
 | .tup (.tup _::_)=>Z J
 |_=>Y
def KS(a b:D):Bool:=k7 [] 51 a b == Z M
def yz(a:D):List D->List D
 |[]=>[a]
 |b::l=>if KS a b=M then a::b::l else b::yz a l
def lC:List D->List D
 |[]=>[]
 |a::l=>yz a (lC l)
def qf(a b:D):Bool:=k7 [] 51 a b == Z M&&k7 [] 51 b a == Z J
def m9:List D->Bool
 |[]=>M
 |a::l=>l.all (qf a)&&m9 l
theorem lS:∀{l:List D} {i j:Nat} {a b:D},m9 l=M->l[i]?=Z a->l[j]?=Z b->i<j->qf a b=M
 |[],i,j,a,b,_,h,_,_=>by simp at h
 |x::l,0,j+1,a,b,h,h1,h2,_=>by
  rw[m9,bA1,bD]at h;simp at h1 h2;subst h1;exact h.1 b (gM1 h2)
 |x::l,i+1,j+1,a,b,h,h1,h2,hij=>by
  rw[m9,bA1]at h;exact lS h.2 (by simpa using h1) (by simpa using h2) (by lia)
 |x::l,i,0,a,b,_,_,_,hij=>by lia
abbrev Tr:=D×V×dM
def yw(a:Tr):List Tr->List Tr
 |[]=>[a]
 |b::l=>if KS a.1 b.1=M then a::b::l else b::yw a l
def s9:List Tr->List Tr
 |[]=>[]
 |a::l=>yw a (s9 l)
theorem qo(a:Tr):∀l:List Tr,(yw a l).Perm (a::l)
 |[]=>.refl _
 |b::l=>by
  rw[yw];split
  ·exact .refl _
  ·exact((qo a l).cons b).trans (.swap _ _ _)
theorem n8:∀l:List Tr,(s9 l).Perm l
 |[]=>.refl _
 |a::l=>(qo a _).trans ((n8 l).cons a)
theorem uo(a:Tr):∀l:List Tr,(yw a l).map (·.1)=yz a.1 (l.map (·.1))
 |[]=>rfl
 |b::l=>by
  rw[yw,mP1,yz];split
  ·rfl
  ·rw[mP1,uo a l]
theorem pT:∀l:List Tr,(s9 l).map (·.1)=lC (l.map (·.1))
 |[]=>rfl
 |a::l=>by rw[s9,mP1,lC,uo,pT l]
theorem DN{a b:dP}{k l:Int}{t u:Tok}{g zs:List dM}{c:Bool}{Q:Bool->dN->Prop}(ha:L3 s.heap a (aa k t::g).toArray)(hb:L3 s.heap b (aa l u::zs).toArray)(f:k≠l/\c=decide (k<l)\/k=l/\uW A s g zs c)(h:Q c s):
  dX (Mw prog w) A (keyLt' (O8 M) (.ref a) (.ref b)) Q E s:=by
 rcases f with⟨f,rfl⟩|⟨rfl,L⟩
 ·exact A7 ha hb f h
 rw[ji];obtain⟨o,B,C,_,r⟩:=ha;obtain⟨D,y,F,_,v⟩:=hb;refine wB1 (Pa B r (wB1 (Pa y v ?_)));rw[bW,bN,bH];refine wB1 (wB1 ?_);dsimp only;refine wB1 (wpAny_eqBool_int ?_);simp only[OB,b7,bF1,NJ];refine wP1 ?_;refine MU (OE _ (λrest b s'=>s'=s/\b=(Y,()) /\ ∃(i:Nat) (vs ws:List dM),rest=(vs.zip ws).zipIdx (i+1)/\uW A s vs ws c/\vs.length+zs.length=ws.length+g.length)
  (λb s'=>s'=s/\(b=(Z c,())\/(b=(Y,())/\c=decide (g.length<zs.length)))) ?_ ?_ _ _ ⟨O,O,0,g,zs,O,L,by lia⟩) ?_ λ_ _ e=>e
 ·rintro x rest b s' ⟨rfl,rfl,i,vs,ws,d,m,j⟩;cases m with
  |nn=>simp at d
  |nc _ _=>simp at d
  |cn _ _=>simp at d
  | @eq p q ps n _ e t=>
   rw[bW,bN]at d;cases d;refine wB1 (e.of_in1 prog w E _ ?_);simp only[b7,bF1,NJ];exact wP1 ⟨O,O,i+1,ps,n,O,t,by simp at j;lia⟩
  | @lt p q ps n _ e t=>
   rw[bW,bN]at d;cases d;refine wB1 (e.of_in1 prog w E _ ?_);simp only[cm,NL];rw[show(M&&(i+1 == 0))=J from rfl];exact wB1 (Aq t (wP1 ⟨O,.inl O⟩))
 ·rintro b s' ⟨rfl,rfl,i,vs,ws,d,m,j⟩;refine⟨O,.inr ⟨O,?_⟩⟩;cases m with
  |nn=>simp at j;rw[ai (by lia)]
  |nc _ _=>simp at j;rw[ah (by lia)]
  |cn _ _=>simp at j;rw[ai (by lia)]
  |eq _ _=>simp at d
  |lt _ _=>simp at d
 ·rintro b s' ⟨rfl,z⟩;rcases z with rfl|⟨rfl,z⟩
  ·exact wP1 h
  ·refine wP1 ?_;rw[sT1,sT1,lC1,lC1,show decide (g.length+1<zs.length+1)=c by rw[z];congr 1;simp];exact h
section
variable{ag:List (dP×Obj)}{σ:L2.St}{H:Hp}{s:dN}{mu:List dP}{S:d7}
theorem G8(I:Inv X ag σ H s)(hs:Sim X.K H mu S){A:dR}(P:A.units+60<Nv){f:Bool}{d e:D}{v w:V}{u z:dM}{b:Bool}(y:fc X.K H mu d v)(B:fc X.K H mu e w)(G:eu v u)(F:eu w z)(hd:i3 d=Z f)(he:i3 e=Z f)(h:k7 S 51 d e=Z b){E:dM->dN->Prop}{Q:Bool->dN->Prop}(q:Q b s):dX (Mw X.prog X.w) A (keyLt' (O8 f) u z) Q E s:=by
 have C:∀{xs ys:List D} {vs ws:List V} {us zs:List dM} {b:Bool},ej X.K H mu xs vs->ej X.K H mu ys ws->eG vs us->eG ws zs->vJ (hL S 50) (k7 S 50) xs ys=Z b->uW A s us zs b:=
  λi a g c h=>A0 I hs (A:=A) (n:=50) (by lia) (λam r2 ao N h=>r0 I hs 50 (A:=A.in1) (by show A.units+1+50<Nv;lia) am r2 ao N h) i a g c h
 unfold i3 at hd he;split at hd
 ·rename_i k _;cases hd;split at he
  ·rename_i l _;cases y with
   |tup r i=>
   cases B with
   |tup x a=>
   obtain⟨p,g,o,_⟩:=I.tuple r;obtain⟨m,c,t,_⟩:=I.tuple x;cases G;cases F;cases i with
   |cons a1 i=>
   cases a with
   |cons a2 a=>
   cases a1;cases a2;cases g with
   |cons K g=>
   cases c with
   |cons au c=>
   obtain⟨tk,rfl⟩:=K;obtain⟨L,rfl⟩:=au;refine DN o t ?_ q;have h:vJ (hL S 50) (k7 S 50) (.int k::_) (.int l::_)=Z b:=h;rw[vJ]at h;by_cases j:k=l
   ·subst j;exact .inr ⟨rfl,C i a g c (by
     have e:hL S 50 (.int k) (.int k)=Z M:=by show Z (decide (k=k))=_;simp
     rw[e]at h;exact h)⟩
   ·refine .inl ⟨j,?_⟩;have e:hL S 50 (.int k) (.int l)=Z J:=by show Z (decide (k=l))=_;simp[j]
    rw[e]at h;have h:Z (decide (k<l))=Z b:=h;exact(Option.some.inj h).symm
  ·cases he
  ·cases he
 ·cases hd;split at he
  ·cases he
  ·cases y with
   |tup r i=>
   cases B with
   |tup x a=>
   obtain⟨p,g,o,_⟩:=I.tuple r;obtain⟨m,c,t,_⟩:=I.tuple x;cases G;cases F;exact G0 o t (C i a g c h) q
  ·cases he
 ·cases hd
theorem Fj(I:Inv X ag σ H s)(hs:Sim X.K H mu S){A:dR}(hu:A.units+60<Nv){f:Bool}{ds:List D}{vs:List V}{its:List dM}(r:ej X.K H mu ds vs)(rv:eG vs its)(hp:tL ds=true)(hk:∀d∈ds,i3 d=some f)(hr:m9 (lC ds)=true):
  ∃(K:List V) (ws:List dM),ej X.K H mu (lC ds) K/\eG K ws/\its.Perm ws/\K.length=vs.length /\
   ∀c:dZ,(∀b o,s.heap.get? b=Z o->c.get? b=Z o)->ju X.prog X.w A {s with heap:=c} (O8 f) ws (O7 its) /\
    (its≠[] -> ∀(E:dM->dN->Prop) (Q:OT->dN->Prop),Q (O8 f) {s with heap:=c}->dX (Mw X.prog X.w) A (keyKind' its.toArray) Q E {s with heap:=c}):=by
 have w:∀{l:List D},tL l=M -> ∀d∈l,pl d=M:=by
  intro l
  induction l with
  |nil=>intro _ d h;cases h
  |cons x l ih=>
   intro h d N;rw[tL,bA1]at h;rcases aF.mp N with rfl|z
   ·exact h.1
   ·exact ih h.2 d z
 have und:∀n,(∀d:D,pl d=M->d.und n=M) /\ ∀l:List D,tL l=M->D.unds n l=M:=λn=>by
  refine⟨λd=>?_,λl=>?_⟩
  ·exact D.rec (motive_1:=λd=>pl d=M->d.und n=M) (motive_2:=λl=>tL l=M->D.unds n l=M) (λ_=>rfl) (λ_ _=>rfl) (λ_ _=>rfl) (λ_ _=>rfl) (λxs ih h=>by rw[pl]at h;rw[D.und];exact ih h) (λ_ _ h=>by cases h) (λ_ h=>by cases h) (λ_ h=>by cases h) (λ_=>rfl) (λx xs h1 h2 h=>by rw[tL,bA1]at h;rw[D.unds,h1 h.1,h2 h.2];rfl) d
  ·exact D.rec_1 (motive_1:=λd=>pl d=M->d.und n=M) (motive_2:=λl=>tL l=M->D.unds n l=M) (λ_=>rfl) (λ_ _=>rfl) (λ_ _=>rfl) (λ_ _=>rfl) (λxs ih h=>by rw[pl]at h;rw[D.und];exact ih h) (λ_ _ h=>by cases h) (λ_ h=>by cases h) (λ_ h=>by cases h) (λ_=>rfl) (λx xs h1 h2 h=>by rw[tL,bA1]at h;rw[D.unds,h1 h.1,h2 h.2];rfl) l
 have tri:∃aq:List Tr,aq.map (·.1)=ds/\aq.map (·.2.1)=vs/\aq.map (·.2.2)=its /\ ∀y∈aq,fc X.K H mu y.1 y.2.1/\eu y.2.1 y.2.2:=by
  clear hk hr hp
  induction ds generalizing vs its with
  |nil=>cases r;cases rv;exact⟨[],O,O,O,λy h=>by cases h⟩
  |cons d ds ih=>
   cases r with
   |cons B t=>
   cases rv with
   |cons ao tt=>
   obtain⟨aq,am,G,p,ok⟩:=ih t tt;refine⟨(d,_,_)::aq,by rw[mP1,am],by rw[mP1,G],by rw[mP1,p],λy m=>?_⟩;rcases aF.mp m with rfl|z
   ·exact⟨B,ao⟩
   ·exact ok y z
 obtain⟨aq,rfl,rfl,rfl,ok⟩:=tri;have L:=n8 aq;have em:=pT aq;rw[<- em]at hr ⊢;generalize hZ:s9 aq=wq at *
 have g:∀y∈wq,y∈aq:=λy m=>L.mem_iff.mp m;refine⟨wq.map (·.2.1),wq.map (·.2.2),?_,?_,(L.map _).symm,by rw[lM1,lM1,L.length_eq],λc keep=>⟨⟨?_,?_,?_⟩,λau E Q q=>?_⟩⟩
 ·clear hr hZ em L
  induction wq with
  |nil=>exact .nil
  |cons y wq ih=>exact .cons (ok y (g y mS1)).1 (ih λz hz=>g z (mC1 _ hz))
 ·clear hr hZ em L
  induction wq with
  |nil=>exact .nil
  |cons y wq ih=>exact .cons (ok y (g y mS1)).2 (ih λz hz=>g z (mC1 _ hz))
 ·refine cC.mpr fun i j hi hj U e=>?_;rw [lM1] at hi hj;rw [List.getElem_map,List.getElem_map] at e;have C:=g _ (bV hi);have F:=g _ (bV hj);have hl:=lS hr (i:=i) (j:=j) (a:=wq[i].1) (b:=wq[j].1) (by rw [gP1,gG1 hi];rfl) (by rw [gP1,gG1 hj];rfl) U;obtain ⟨B,ao⟩:=ok _ C;obtain ⟨r2,q2⟩:=ok _ F;have h1:=hk wq[i].1 (cg.mpr ⟨_,C,rfl⟩);have h2:=hk wq[j].1 (cg.mpr ⟨_,F,rfl⟩);have P:∀ {d:D} {v:V} {u:dM},i3 d=some f->fc X.K H mu d v->eu v u -> ∃ a,v = .ref a/\u = .ref a:=fun {d v u} N rd ru=>by
   cases rd with
   |tup _ _=>cases ru;exact⟨_,O,O⟩
   |_=>cases N
  obtain⟨a1,am,G⟩:=P h1 B ao;obtain⟨a2,p,e4⟩:=P h2 r2 q2;rw[G,e4]at e;cases e;rw[am]at B;rw[p]at r2;have e:=wC I (w hp _ (cg.mpr ⟨_,C,O⟩)) (w hp _ (cg.mpr ⟨_,F,O⟩)) B r2;unfold qf at hl;rw[e,bA1,Pq,Pq]at hl;rw[hl.1]at hl;cases hl.2
 ·rw[pairsOf_toList];have:(aq.map (·.2.2) |>.zip (aq.map (·.2.2))).map (·.1)=aq.map (·.2.2):=List.map_fst_zip (nR1 _);rw[this];exact(L.map _).symm
 ·intro x y i j hx m U E Q q;rw[gP1]at hx m;obtain⟨yi,hyi,rfl⟩:=PD hx;obtain⟨yj,R,rfl⟩:=PD m;have C:=g _ (gM1 hyi);have F:=g _ (gM1 R);have W:Inv X ag σ H {s with heap:=c}:=I.kept (t':=s.toks) keep;have ki:(wq.map (·.1))[i]?=Z yi.1:=by rw[gP1,hyi];rfl
  have kj:(wq.map (·.1))[j]?=Z yj.1:=by rw[gP1,R];rfl
  have pi:=(und 0).1 _ (w hp _ (cg.mpr ⟨_,C,O⟩));have pj:=(und 0).1 _ (w hp _ (cg.mpr ⟨_,F,O⟩));refine G8 W hs hu (ok _ C).1 (ok _ F).1 (ok _ C).2 (ok _ F).2 (hk _ (cg.mpr ⟨_,C,O⟩)) (hk _ (cg.mpr ⟨_,F,O⟩)) ?_ q;rw[wU pi pj];by_cases z:i<j
  ·have:=lS hr ki kj z;unfold qf at this;simp only[bA1,Pq]at this;rw[ah z];exact this.1
  ·have:=lS hr kj ki (by lia);unfold qf at this;simp only[bA1,Pq]at this;rw[ai z];exact this.2
 ·have W:Inv X ag σ H {s with heap:=c}:=I.kept (t':=s.toks) keep;have N:∀ y∈aq,∃ a xs,y.2.2 = .ref a/\L3 c a xs/\(if f=true then ∃ k t ps,xs=(aa k t::ps).toArray else ∃ b ps qs,xs=(D4 b::ps).toArray/\L3 c b qs):=fun y m=>by
   have h1:=hk y.1 (cg.mpr ⟨_,m,O⟩);obtain⟨B,ao⟩:=ok y m;obtain⟨d,v,u⟩:=y;dsimp only at *
   unfold i3 at h1;split at h1
   ·cases h1;cases B with
    |tup q t=>
    obtain⟨is,T,i1,_⟩:=W.tuple q;cases t with
    |cons a1 t=>
    cases a1;cases T with
    |cons w1 T=>
    obtain⟨tk,rfl⟩:=w1;cases ao;exact⟨_,_,O,i1,by rw[ak O];exact⟨_,_,_,O⟩⟩
   ·cases h1;cases B with
    |tup q t=>
    obtain⟨is,T,i1,_⟩:=W.tuple q;cases t with
    |cons a1 t=>
    cases a1 with
    |tup q2 t2=>
    obtain⟨is2,v2,i2,_⟩:=W.tuple q2;cases T with
    |cons w1 T=>
    cases w1;cases ao;exact⟨_,_,O,i1,by rw[aj aL];exact⟨_,_,_,O,i2⟩⟩
   ·cases h1
  cases f with
  |true=>
   refine A8 au (λv hv=>?_) q;obtain⟨y,m,rfl⟩:=PF hv;obtain⟨a,xs,am,G,p⟩:=N y m;rw[ak O]at p;obtain⟨k,t,ps,rfl⟩:=p;exact⟨a,k,t,ps,am,G⟩
  |false=>
   refine G4 au (λv hv=>?_) q;obtain⟨y,m,rfl⟩:=PF hv;obtain⟨a,xs,am,G,p⟩:=N y m;rw[aj aL]at p;obtain⟨b,ps,qs,rfl,e4⟩:=p;exact⟨a,_,ps,b,qs,am,G,O,e4⟩
end
theorem vK {d:dP}{es:Array N3}{ep:Nat}{o:Obj}{Q:List dM->dN->Prop}(D:A.handled=none)(hm:(d == L4)=false)(hd:s.heap.get? d=some o)(hc:o.cls = .type "dict")(y:o.data = .dict es ep)(hn:es.size<=dW)
  (q:∀h',(∀b u,s.heap.get? b=Z u->h'.get? b=Z u)->s.heap.objs.size<=h'.objs.size->Q (es.toList.map (·.key)) {s with heap:=h'}):dX (Mw prog w) A (collect (.ref d)) Q E s:=by
 have i:d<s.heap.objs.size:=hL1 hd;unfold collect;refine wB1 (Pn (wD1 PySem.F.entry_proto_collect ?_));rw[OG PySem.F.plain_proto_collect _];show dX _ A.in1 (newList [] >>= λl=>again (.builtin "list.__iadd__" ⟨[l,.ref d],[]⟩)) _ _ s;refine wB1 (wO1 ?_);refine wP1 ⟨OF PySem.F.plain_list_iadd _,wD1 PySem.F.entry_list_iadd ?_⟩;rw[OG PySem.F.plain_list_iadd _];have m:(s.heap.push {cls:=.type "list",data:=.seq ([]:List dM).toArray}).get? s.heap.objs.size=Z {cls:=.type "list",data:=.seq ([]:List dM).toArray}:=hS1 _ O;have a:(s.heap.push {cls:=.type "list",data:=.seq ([]:List dM).toArray}).get? d=Z o:=hP1 _ hd;have h1:Builtin.List.listSameRef (.ref s.heap.objs.size) (.ref d)=J:=by simp[Builtin.List.listSameRef,nG1 i]
 show dX _ A.in1 (Po (.ref s.heap.objs.size) (.ref d) (.ref s.heap.objs.size)) _ _ {s with heap:=s.heap.push {cls:=.type "list",data:=.seq ([]:List dM).toArray}};unfold Po;refine wB1 (NS (T:="dict") ⟨o,a,hc⟩ ?_);rw[aj (by rw[h1];decide)];refine wB1 (DL hm a hc y hn ?_);generalize h:s.heap.push {cls:=.type "list",data:=.seq ([]:List dM).toArray}=h₁ at *
 have n:h₁.objs.size=s.heap.objs.size+1:=by rw[<- h,hZ1]
 have t:∀b u,s.heap.get? b=Z u->h₁.get? b=Z u:=λb u e=>by rw[<- h];exact hP1 _ e
 dsimp only;have v:wg (h₁.push {cls:=.type "dict_keyiterator",data:=.fields #[.ref d,.int 0 0,.int es.size 0,.int ep 0]}) h₁.objs.size d 0 es.size ep:=hS1 _ O;have g:=hP1 {cls:=.type "dict_keyiterator",data:=.fields #[.ref d,.int 0 0,.int es.size 0,.int ep 0]} m;have f:∀b u,s.heap.get? b=Z u->(h₁.push {cls:=.type "dict_keyiterator",data:=.fields #[.ref d,.int 0 0,.int es.size 0,.int ep 0]}).get? b=Z u:=λb u e=>hP1 _ (t b u e);generalize h₁.push {cls:=.type "dict_keyiterator",data:=.fields #[.ref d,.int 0 0,.int es.size 0,.int ep 0]}=h₂ at *
 have p:Shared.TypeIs {s with heap:=h₂} (.ref d) "dict":=⟨o,f d o hd,hc⟩;refine wB1 (M7 (DM p ?_));rw[ak (by decide+kernel)];refine wB1 (Nb (wB1 ?_));show dX _ A.in1 (updateSeq s.heap.objs.size (·.push .none) >>= λ_=>updateSeq s.heap.objs.size (·.pop)) _ _ _;refine wB1 (Pm (s:={s with heap:=h₂}) g O ?_);have c:=hW1 (NV (·.push ab)) g O;refine Pm (s:={s with heap:=h₂.update s.heap.objs.size (NV (·.push ab))}) c O ?_;have k:=hW1 (NV (·.pop)) c O;have j:∀b u,b≠s.heap.objs.size->h₂.get? b=Z u->((h₂.update s.heap.objs.size (NV (·.push ab))).update s.heap.objs.size (NV (·.pop))).get? b=Z u:=λb u r e=>by
  rw[hU1 _ _ _ _ r,hU1 _ _ _ _ r];exact e
 rw[n]at v ⊢;have x:s.heap.objs.size+1≠s.heap.objs.size:=Nat.succ_ne_self _;refine wP1 ⟨OF Pk _,DH (o:=o) D y (nG1 (cB i)) (nG1 i) (Mt x) hn es.size 0
  {s with heap:=(h₂.update s.heap.objs.size (NV (·.push ab))).update s.heap.objs.size (NV (·.pop))} _ _ O (bj _) (j _ _ x v) (j d o (nN1 i) (f d o hd)) k O λh' B F keep z C=>?_⟩
 show dX _ A (load s.heap.objs.size >>= _) _ _ {s with heap:=h'};refine wB1 (wpAny_load z ?_);show dX _ A (pure B.toList) _ _ _;rw[C];refine wP1 (q h' (λb u e=>?_) (aD (hL1 z)));have r:b<s.heap.objs.size:=hL1 e;exact keep b u (nN1 (cB r)) (nN1 r) (j b u (nN1 r) (f b u e))
def sm(l:List D):Option Bool:=match l with
 |[]=>Z M
 |d::l=>match i3 d with
  |some f=>if(l.all λe=>i3 e == Z f)=M then Z f else Y
  |none=>Y
theorem vQ:∀{l:List D} {f:Bool},sm l=Z f -> ∀d∈l,i3 d=Z f
 |[],_,_,d,h=>by cases h
 |x :: l,f,h,d,hd=>by
  rw[sm]at h;cases hx:i3 x with
  |none=>rw[hx]at h;cases h
  |some g=>
   rw[hx]at h;dsimp only at h;split at h
   ·rename_i a;cases h;rcases aF.mp hd with rfl|z
    ·exact hx
    ·have:=bD.mp a d z
     rwa [Pq]at this
   ·cases h
mutual
theorem EE:∀k:TK,pl (lA k)=M
 | .non=>rfl
 | .int _=>rfl
 | .tup xs=>by rw[lA,pl];exact Ac xs
theorem Ac:∀ks:List TK,tL (lz ks)=M
 |[]=>rfl
 |k::ks=>by rw[lz,tL,EE k,Ac ks];rfl
end
theorem tK:∀kvs:List (TK×D),tL (kvs.map λp=>lA p.1)=M
 |[]=>rfl
 |p::l=>by rw[mP1,tL,EE,tK l];rfl
noncomputable def HQ:Bool->OS->Array OS->Nat->Nat->Nat->StateT OU Sem (Option Nat):=sortPriv%PySem.Builtin.gallop
abbrev rk(ws:List dM)(p:OS):Nat:=rkV ws p.1
section
variable{κ:OT}{ws:List dM}{a₀:Array OS}
theorem ju.lt2(C:ju prog w A s κ ws a₀){st:OU}{p q:OS}{Q:Option Bool->OU->Prop}(hk:kindOf st=κ)(hp:p∈a₀)(b:q∈a₀)(a:rk ws p≠rk ws q)(h:Q (Z (decide (rk ws p<rk ws q))) st):wpS (Mw prog w) A E s (lt' p q) Q st:=by
 have at_:∀{p:OS},p∈a₀->ws[rk ws p]?=Z p.1:=λ{p} hp=>zS (C.keys.mem_iff.mp (cg.mpr ⟨_,aO.mpr hp,O⟩));rw[lt'_eq];refine OY (OZ ?_);rw[hk];exact OY (O1 (On (C.lt p.1 q.1 _ _ (at_ hp) (at_ b) a _ _ ⟨O,O0 h⟩)))
noncomputable def bey(l:Bool)(key:OS)(arr:Array OS)(b i:Nat):StateT OU Sem (Option Bool):=elem' arr (b+i) >>= λx=>if l=M then lt' x key else lt' key x >>= λr=>pure (r.map λz=> !z)
theorem JC(C:ju prog w A s κ ws a₀){st:OU}{l:Bool}{key p:OS}{arr:Array OS}{b i:Nat}{Q:Option Bool->OU->Prop}(hk:kindOf st=κ)(a:key∈a₀)(hp:arr[b+i]?=Z p)(hm:p∈a₀)(c:rk ws p≠rk ws key)(q:Q (Z (decide (rk ws p<rk ws key))) st):wpS (Mw prog w) A E s (bey l key arr b i) Q st:=by
 unfold bey;rw[elem'_eq,hp];refine OY (O0 ?_);cases l with
 |true=>exact C.lt2 hk hm a c q
 |false=>
  refine OY (C.lt2 hk a hm (Mt c) (O0 ?_));have e:(!decide (rk ws key<rk ws p))=decide (rk ws p<rk ws key):=by rw[bT];simp;lia
  show Q (Z (!decide (rk ws key<rk ws p))) st;rw[e];exact q
theorem xb(C:ju prog w A s κ ws a₀){st:OU}{l:Bool}{key:OS}{arr:Array OS}{b n h:Nat}{R:Nat->Nat}{Q:Option Nat->OU->Prop}(hk:kindOf st=κ)(ao:key∈a₀)(P:h<n)(B:∀i,i<n -> ∃p,arr[b+i]?=Z p/\p∈a₀/\rk ws p=R i/\R i≠rk ws key)(a:∀i j,i<j->j<n->R i<R j)(q:∀k,k<=n->(∀i,i<k->R i<rk ws key)->(∀i,k<=i->i<n->rk ws key<R i)->Q (Z k) st):wpS (Mw prog w) A E s (HQ l key arr b n h) Q st:=by
 have N:∀i,i<n -> ∀{Q:Option Bool->OU->Prop},Q (Z (decide (R i<rk ws key))) st->wpS (Mw prog w) A E s (bey l key arr b i) Q st:=λi hi Q I=>by
  obtain⟨p,h1,h2,H,y⟩:=B i hi;rw[<- H]at I y;exact JC C hk ao h1 h2 y I
 have ne:∀i,i<n->R i≠rk ws key:=λi hi=>by obtain⟨p,_,_,_,h⟩:=B i hi;exact h
 have am:∀ lo hi,lo<=hi->hi<=n->(∀ i,i<lo->R i<rk ws key)->(∀ i,hi<=i->i<n->rk ws key<R i) -> ∀ {f:Nat->Option (Option Nat)×Nat×Nat->StateT OU Sem (ForInStep (Option (Option Nat)×Nat×Nat))} {au:Option (Option Nat)×Nat×Nat->OU->Prop},
   (∀x c,f x c=(if c.2.1>=c.2.2 then pure (Pr (Y,c.2.1,c.2.2))else bey l key arr b (c.2.1+(c.2.2-c.2.1)/2) >>= λr=>match r with
    |some m=>if m=M then pure (Of (Y,c.2.1+(c.2.2-c.2.1)/2+1,c.2.2))else pure (Of (Y,c.2.1,c.2.1+(c.2.2-c.2.1)/2))
    |_=>pure (Pr (Z Y,c.2.1,c.2.2))))->(∀k c,k<=n->(∀i,i<k->R i<rk ws key)->(∀i,k<=i->i<n->rk ws key<R i)->c.1=Y->c.2.2=k->au c st)->wpS (Mw prog w) A E s (forIn [0:n] (Y,lo,hi) f) au st:=λlo hi h1 h2 H y f au U I=>by
  refine O2 (λx c st'=>st'=st /\ ∃lo hi,c=(Y,lo,hi)/\lo<=hi/\hi<=n/\hi-lo<=n-x/\(∀i,i<lo->R i<rk ws key) /\ ∀i,hi<=i->i<n->rk ws key<R i) ?_ ?_ ⟨O,lo,hi,O,h1,h2,by lia,H,y⟩
  ·rintro x c st' _ T ⟨rfl,lo,hi,rfl,L,g,o,d,D⟩;rw[U];dsimp only;by_cases z:lo>=hi
   ·rw[ak z];have e:lo=hi:=by lia
    subst e;exact O0 (I lo _ g d D O O)
   ·rw[aj z];have hm:lo+(hi-lo)/2<hi:=by lia
    generalize V:lo+(hi-lo)/2=m at *
    refine OY (N m (by lia) ?_);by_cases u:R m<rk ws key
    ·simp only[u,O3,NL];refine O0 ⟨O,m+1,hi,O,by lia,g,by lia,λi wq=>?_,D⟩;by_cases v:i=m
     ·rw[v];exact u
     ·exact bi (a i m (by lia) (by lia)) u
    ·simp only[u,O4,bF1,NJ];have F:rk ws key<R m:=by have:=ne m (by lia);lia
     refine O0 ⟨O,lo,m,O,by lia,by lia,by lia,d,λi t G=>?_⟩;by_cases v:i=m
     ·rw[v];exact F
     ·exact bi F (a m i (by lia) G)
  ·rintro c st' ⟨rfl,lo,hi,rfl,L,g,o,d,D⟩;have e:lo=hi:=by lia
   subst e;exact I lo _ g d D O O
 unfold HQ;refine OY (N h P ?_);by_cases z:R h<rk ws key
 ·simp only[z,O3,NL];refine OY (O5 (O2 (λx c st'=>st'=st /\ ∃lo of,c=(Y,lo,of)/\x+1<=of/\lo<of/\h+lo<n/\R (h+lo)<rk ws key) (Q:=λc st'=>st'=st /\ ∃lo of,c=(Y,lo,of)/\lo<of/\h+lo<n/\R (h+lo)<rk ws key /\ ∀i,h+min of (n-h)<=i->i<n->rk ws key<R i) ?_ ?_ ⟨O,0,1,O,by lia,by lia,P,z⟩) ?_)
  ·rintro x c st' _ T ⟨rfl,lo,of,rfl,L,g,o,d⟩;dsimp only;by_cases K:of>=n-h
   ·rw[ak K];exact O0 ⟨O,lo,of,O,g,o,d,λi t G=>by lia⟩
   ·rw[aj K];refine OY (N (h+of) (by lia) ?_);by_cases u:R (h+of)<rk ws key
    ·simp only[u,O3,b7,bF1,NJ];exact O0 ⟨O,of,2*of+1,O,by lia,by lia,by lia,u⟩
    ·simp only[u,O4,cm,NL];have F:rk ws key<R (h+of):=by have:=ne (h+of) (by lia);lia
     refine O0 ⟨O,lo,of,O,g,o,d,λi t G=>?_⟩;by_cases v:i=h+of
     ·rw[v];exact F
     ·exact bi F (a (h+of) i (by lia) G)
  ·rintro c st' ⟨rfl,lo,of,rfl,L,g,o,d⟩;exact⟨O,lo,of,O,g,o,d,λi t G=>by lia⟩
  ·rintro c st' ⟨rfl,lo,of,rfl,g,o,d,D⟩;dsimp only;refine OY (am (h+lo+1) (h+min of (n-h)) (by lia) (by lia) (λi hi=>?_) D (λx c=>rfl) λk c h1 h2 H y t=>?_)
   ·by_cases v:i=h+lo
    ·rw[v];exact d
    ·exact bi (a i (h+lo) (by lia) o) d
   ·obtain⟨X,aq,S⟩:=c;dsimp only at y t;subst y;subst t;exact O0 (q S h1 h2 H)
 ·simp only[z,O4,bF1,NJ];have W:rk ws key<R h:=by have:=ne h P;lia
  refine OY (O5 (O2 (λx c st'=>st'=st /\ ∃lo of,c=(Y,lo,of)/\x+1<=of/\lo<of/\lo<=h/\rk ws key<R (h-lo)) (Q:=λc st'=>st'=st /\ ∃lo of,c=(Y,lo,of)/\lo<of/\lo<=h/\rk ws key<R (h-lo) /\ ∀i,i<h+1-min of (h+1)->R i<rk ws key) ?_ ?_ ⟨O,0,1,O,by lia,by lia,by lia,W⟩) ?_)
  ·rintro x c st' _ T ⟨rfl,lo,of,rfl,L,g,o,d⟩;dsimp only;by_cases K:of>=h+1
   ·rw[ak K];exact O0 ⟨O,lo,of,O,g,o,d,λi t=>by lia⟩
   ·rw[aj K];refine OY (N (h-of) (by lia) ?_);by_cases u:R (h-of)<rk ws key
    ·simp only[u,O3,NL];refine O0 ⟨O,lo,of,O,g,o,d,λi t=>?_⟩;by_cases v:i=h-of
     ·rw[v];exact u
     ·exact bi (a i (h-of) (by lia) (by lia)) u
    ·simp only[u,O4,bF1,NJ];have F:rk ws key<R (h-of):=by have:=ne (h-of) (by lia);lia
     exact O0 ⟨O,of,2*of+1,O,by lia,by lia,by lia,F⟩
  ·rintro c st' ⟨rfl,lo,of,rfl,L,g,o,d⟩;exact⟨O,lo,of,O,g,o,d,λi t=>by lia⟩
  ·rintro c st' ⟨rfl,lo,of,rfl,g,o,d,D⟩;dsimp only;refine OY (am (h+1-min of (h+1)) (h-lo) (by lia) (by lia) D (λi t G=>?_) (λx c=>rfl) λk c h1 h2 H y t=>?_)
   ·by_cases v:i=h-lo
    ·rw[v];exact d
    ·exact bi d (a (h-lo) i (by lia) G)
   ·obtain⟨X,aq,S⟩:=c;dsimp only at y t;subst y;subst t;exact O0 (q S h1 h2 H)
end
noncomputable def KC:Nat->StateT OU Sem Unit:=sortPriv%PySem.Builtin.setMinGallop
noncomputable def Lv:Array OS->Array OS->StateT OU Sem (Array OS):=sortPriv%PySem.Builtin.mergeLo
noncomputable def Lw:Array OS->Array OS->StateT OU Sem (Array OS):=sortPriv%PySem.Builtin.mergeHi
structure Sm (st st':OU):Prop where
 k:kindOf st'=kindOf st
 a:OV st'=OV st
 p:OX st'=OX st
 f:OW st'=OW st
theorem Sm.rfl{st:OU}:Sm st st:=⟨_root_.rfl,_root_.rfl,_root_.rfl,_root_.rfl⟩
theorem Sm.g{st st':OU}(h:Sm st st')(g:Nat):Sm st (Ph (kindOf st') (OV st') (OX st') g (OW st')):=⟨h.k,h.a,h.p,h.f⟩
def Srt(ws:List dM)(xs:List OS):Prop:=xs.Pairwise λp q=>rk ws p<rk ws q
def nz(ws:List dM)(xs ys:List OS):Prop:=∀x∈xs,∀y∈ys,rk ws x<rk ws y
section
variable{ws:List dM}{a b out xs ys zs:List OS}{i j k:Nat}
theorem Srt.app(h1:Srt ws xs)(h2:Srt ws ys)(h:nz ws xs ys):Srt ws (xs++ys):=cE.mpr ⟨h1,h2,h⟩
theorem nz.app(h1:nz ws xs zs)(h2:nz ws ys zs):nz ws (xs++ys) zs:=λx b y a=>(aG.mp b).elim (λh=>h1 x h y a) λh=>h2 x h y a
theorem nz.of(h:nz ws xs ys){a ys':List OS}(h1:∀x∈a,x∈xs)(h2:∀y∈ys',y∈ys):nz ws a ys':=λx b y c=>h x (h1 x b) y (h2 y c)
theorem Srt.split(h:Srt ws a)(i:Nat):nz ws (a.take i) (a.drop i):=by
 have:=h;unfold Srt at this;rw[<- cF i a]at this;exact(cE.mp this).2.2
structure J0 (ws:List dM)(a b out:List OS)(i j:Nat):Prop where
 la:i<=a.length
 lb:j<=b.length
 len:out.length=i+j
 pm:(out++(a.drop i++b.drop j)).Perm (a++b)
 so:Srt ws out
 ba:nz ws out (a.drop i)
 bb:nz ws out (b.drop j)
theorem J0.mvA(h:J0 ws a b out i j)(d:Srt ws a)(hk:i+k<=a.length)(hb:nz ws ((a.drop i).take k) (b.drop j)):J0 ws a b (out++(a.drop i).take k) (i+k) j:=by
 have e:a.drop i=(a.drop i).take k++a.drop (i+k):=by rw[<- bF,cF]
 have c:Srt ws (a.drop i):=d.sublist (cG _ _);refine⟨hk,h.lb,?_,?_,h.so.app (c.sublist (aW _ _)) (h.ba.of (λ_ h=>h) λ_ h=>cH h),?_,h.bb.app hb⟩
 ·rw[lA1,h.len,aT,aX];lia
 ·have:=h.pm;rw[e,bJ]at this;rw[bJ];exact this
 ·refine nz.app (h.ba.of (λ_ h=>h) λy f=>?_) ?_
  ·rw[e];exact mA1 _ f
  ·have:=c.split k
   rwa [bF]at this
theorem J0.swap(h:J0 ws a b out i j):J0 ws b a out j i:=⟨h.lb,h.la,by rw[h.len,Nat.add_comm],(Ps _ cI).trans (h.pm.trans cI),h.so,h.bb,h.ba⟩
theorem J0.mvB(h:J0 ws a b out i j)(c:Srt ws b)(hk:j+k<=b.length)(hb:nz ws ((b.drop j).take k) (a.drop i)):J0 ws a b (out++(b.drop j).take k) i (j+k):=(h.swap.mvA c hk hb).swap
theorem ww{x:OS}(h:a[i]?=Z x):(a.drop i).take 1=[x]:=by
 have b:=(PB h).1;rw[bX b,cJ,cK,(PB h).2]
def Mgd(ws:List dM)(a b r:List OS):Prop:=r.Perm (a++b)/\Srt ws r
theorem J0.dn(h:J0 ws a b out i j)(c:Srt ws a)(d:j=b.length):Mgd ws a b (out++a.drop i++b.drop j):=by
 have e:b.drop j=[]:=by rw[d,List.drop_length]
 refine⟨by rw[bJ];exact h.pm,?_⟩;rw[e,aP];exact h.so.app (c.sublist (cG _ _)) h.ba
theorem J0.ls(h:J0 ws a b out i j)(c:Srt ws a)(d:Srt ws b)(hb:nz ws (b.drop j) (a.drop i)):Mgd ws a b (out++b.drop j++a.drop i):=by
 refine⟨by rw[bJ];exact(Ps _ cI).trans h.pm,?_⟩;exact(h.so.app (d.sublist (cG _ _)) h.bb).app (c.sublist (cG _ _)) (h.ba.app hb)
theorem Srt.drop_gt(h:Srt ws a){x:OS}(hx:a[i]?=Z x):∀y∈a.drop i,rk ws x<=rk ws y:=λy b=>by
 have c:=(PB hx).1;rw[bX c,(PB hx).2]at b;have d:Srt ws (a.drop i):=h.sublist (cG _ _);rw[bX c,(PB hx).2]at d;rcases aF.mp b with rfl|b
 ·exact nR1 _
 ·exact aD ((cc.mp d).1 y b)
end
section
variable{κ:OT}{ws:List dM}{a₀:Array OS}
theorem rn{st:OU}{g:Nat}{Q:Unit->OU->Prop}(h:Q () (Ph (kindOf st) (OV st) (OX st) g (OW st))):wpS (Mw prog w) A E s (KC g) Q st:=O6 h
theorem fF{st:OU}{arr:Array OS}{i:Nat}{p:OS}{Q:OS->OU->Prop}(h:arr[i]?=Z p)(q:Q p st):wpS (Mw prog w) A E s (elem' arr i) Q st:=by
 rw[elem'_eq,h];exact O0 q
structure MC (ws:List dM)(a₀ a b:Array OS):Prop where
 ma:∀p∈a,p∈a₀
 mb:∀p∈b,p∈a₀
 sa:Srt ws a.toList
 sb:Srt ws b.toList
 ne:∀p∈a,∀q∈b,rk ws p≠rk ws q
 pa:0<a.size
 pb:0<b.size
 last:∀x,a[a.size-1]?=some x -> ∀q∈b,rk ws q<rk ws x
 head:∀x,b[0]?=some x -> ∀q∈a,rk ws x<rk ws q
theorem MC.galA(C:ju prog w A s κ ws a₀){a b:Array OS}(ao:MC ws a₀ a b){st:OU}{l:Bool}{ia ib:Nat}{y:OS}{Q:Option Nat->OU->Prop}(hk:kindOf st=κ)(hy:b[ib]? = Z y)(m:ia<a.size)(q:∀k,ia+k<=a.size->(∀x∈(a.toList.drop ia).take k,rk ws x<rk ws y)->(∀x∈a.toList.drop (ia+k),rk ws y<rk ws x)->Q (Z k) st):wpS (Mw prog w) A E s (HQ l y a ia (a.size-ia) 0) Q st:=by
 have d:y∈b:=cj hy;refine xb (R:=λi=>(a[ia+i]?.map (rk ws)).getD 0) C hk (ao.mb y d) (by lia) (λi hi=>?_) (λi j h o=>?_) λk h1 h2 n=>q k (by lia) (λx g=>?_) λx g=>?_
 ·have c:ia+i<a.size:=by lia
  refine⟨a[ia+i],aG1 c,ao.ma _ (cM c),by rw[aG1 c];rfl,?_⟩;rw[aG1 c];exact ao.ne _ (cM c) _ d
 ·have c:ia+i<a.size:=by lia
  have f:ia+j<a.size:=by lia
  rw[aG1 c,aG1 f];have:=cC.mp ao.sa (ia+i) (ia+j) (by simpa using c) (by simpa using f) (by lia);simpa using this
 ·obtain⟨i,hi⟩:=bq g;have e:i<k:=by have:=(PB hi).1;rw[aT]at this;lia
  rw[aV e,cN,aT1]at hi;have:=h2 i e;rw[hi]at this;exact this
 ·obtain⟨i,hi⟩:=bq g;rw[cN,aT1]at hi;have c:=(Array.getElem?_eq_some_iff.mp hi).1;have:=n (k+i) (by lia) (by lia);rw[<- bn,hi]at this;exact this
theorem MC.galB(C:ju prog w A s κ ws a₀){a b:Array OS}(ao:MC ws a₀ a b){st:OU}{l:Bool}{ia ib:Nat}{y:OS}{Q:Option Nat->OU->Prop}(hk:kindOf st=κ)(hy:a[ia]? = Z y)(m:ib<b.size)(q:∀k,ib+k<=b.size->(∀x∈(b.toList.drop ib).take k,rk ws x<rk ws y)->(∀x∈b.toList.drop (ib+k),rk ws y<rk ws x)->Q (Z k) st):wpS (Mw prog w) A E s (HQ l y b ib (b.size-ib) 0) Q st:=by
 have d:y∈a:=cj hy;refine xb (R:=λi=>(b[ib+i]?.map (rk ws)).getD 0) C hk (ao.ma y d) (by lia) (λi hi=>?_) (λi j h o=>?_) λk h1 h2 n=>q k (by lia) (λx g=>?_) λx g=>?_
 ·have c:ib+i<b.size:=by lia
  refine⟨b[ib+i],aG1 c,ao.mb _ (cM c),by rw[aG1 c];rfl,?_⟩;rw[aG1 c];exact(ao.ne _ d _ (cM c)).symm
 ·have c:ib+i<b.size:=by lia
  have f:ib+j<b.size:=by lia
  rw[aG1 c,aG1 f];have:=cC.mp ao.sb (ib+i) (ib+j) (by simpa using c) (by simpa using f) (by lia);simpa using this
 ·obtain⟨i,hi⟩:=bq g;have e:i<k:=by have:=(PB hi).1;rw[aT]at this;lia
  rw[aV e,cN,aT1]at hi;have:=h2 i e;rw[hi]at this;exact this
 ·obtain⟨i,hi⟩:=bq g;rw[cN,aT1]at hi;have c:=(Array.getElem?_eq_some_iff.mp hi).1;have:=n (k+i) (by lia) (by lia);rw[<- bn,hi]at this;exact this
end
theorem mm(a:Array OS)(i:Nat):(a.extract i a.size).toList=a.toList.drop i:=by
 rw[cO,cP,cQ (by simp)]
theorem uB(a:Array OS)(i k:Nat):(a.extract i (i+k)).toList=(a.toList.drop i).take k:=by
 rw[cO,cP,bu]
section
variable{κ:OT}{ws:List dM}{a₀:Array OS}
theorem Kg{l i j g τ:Type}{A G:Prop}{f:l->i->j->g->τ}{R:l->i->j->g->Prop}{x:τ}(h:A /\ ∃a b c d,x=f a b c d/\R a b c d)(k:A -> ∀a b c d,x=f a b c d->R a b c d->G):G:=by
 obtain⟨h,a,b,c,d,e,r⟩:=h;exact k h a b c d e r
theorem Kf{j l m g i τ:Type}{A G:Prop}{f:j->l->m->g->i->τ}{R:j->l->m->g->i->Prop}{x:τ}(h:A /\ ∃a b c d e,x=f a b c d e/\R a b c d e)(k:A -> ∀a b c d e,x=f a b c d e->R a b c d e->G):G:=by
 obtain⟨h,a,b,c,d,e,n,r⟩:=h;exact k h a b c d e n r
theorem Ke{l n o i j m τ:Type}{A G:Prop}{f:l->n->o->i->j->m->τ}{R:l->n->o->i->j->m->Prop}{x:τ}(h:A /\ ∃a b c d e g,x=f a b c d e g/\R a b c d e g)(k:A -> ∀a b c d e g,x=f a b c d e g->R a b c d e g->G):G:=by
 obtain⟨h,a,b,c,d,e,g,p,r⟩:=h;exact k h a b c d e g p r
theorem IZ(C:ju prog w A s κ ws a₀){a b:Array OS}(ao:MC ws a₀ a b){st:OU}{Q:Array OS->OU->Prop}(hk:kindOf st=κ)(q:∀r st',Sm st st'->Mgd ws a.toList b.toList r.toList->Q r st'):wpS (Mw prog w) A E s (Lv a b) Q st:=by
 have dn:∀{out:Array OS} {ia ib:Nat},J0 ws a.toList b.toList out.toList ia ib->ib=b.size->Mgd ws a.toList b.toList (out++a.extract ia a.size++b.extract ib b.size).toList:=λ{out ia ib} h e=>by
  rw[cR,cR,mm,mm];exact h.dn ao.sa (by rw[e];simp)
 have lastX:∀{ia:Nat},ia+1=a.size -> ∀y∈a.toList.drop ia,∀q∈b,rk ws q<rk ws y:=λ{ia} e y K q hq=>by
  have hl:ia<a.toList.length:=by rw[aK];lia
  rw[bX hl,cS (by rw[aK];lia)]at K;have:y=a.toList[ia]:=by simpa using K
  exact ao.last y (by rw[this,show a.size-1=ia by lia];simp) q hq
 have ls:∀{out:Array OS} {ia ib:Nat},J0 ws a.toList b.toList out.toList ia ib->ia+1=a.size->Mgd ws a.toList b.toList (out++b.extract ib b.size++a.extract ia a.size).toList:=λ{out ia ib} h e=>by
  rw[cR,cR,mm,mm];exact h.ls ao.sa ao.sb λx D y K=>lastX e y K x (aO.mp (cT D))
 have S:∀{i:Nat},i<a.size -> ∃x,a[i]?=Z x/\x∈a/\a.toList[i]?=Z x:=λ{i} h=>⟨a[i],aG1 h,cM h,by rw[aT1,aG1 h]⟩;have V:∀{i:Nat},i<b.size -> ∃x,b[i]?=Z x/\x∈b/\b.toList[i]?=Z x:=λ{i} h=>⟨b[i],aG1 h,cM h,by rw[aT1,aG1 h]⟩;have H:∀{out:Array OS} {ia ib:Nat} {y:OS},J0 ws a.toList b.toList out.toList ia ib->b.toList[ib]?=Z y->(∀x∈a.toList.drop ia,rk ws y<rk ws x)->J0 ws a.toList b.toList (out.push y).toList ia (ib+1):=λ{out ia ib y} h K hb=>by
  have:=h.mvB (k:=1) ao.sb (by have:=(PB K).1;lia) (by rw[ww K];intro x D z hz;rw[cA.mp D];exact hb z hz)
  rwa [ww K,<- cu]at this
 have W:∀{out:Array OS} {ia ib:Nat} {y:OS},J0 ws a.toList b.toList out.toList ia ib->a.toList[ia]?=Z y->(∀x∈b.toList.drop ib,rk ws y<rk ws x)->J0 ws a.toList b.toList (out.push y).toList (ia+1) ib:=λ{out ia ib y} h K hb=>by
  have:=h.mvA (k:=1) ao.sa (by have:=(PB K).1;lia) (by rw[ww K];intro x D z hz;rw[cA.mp D];exact hb z hz)
  rwa [ww K,<- cu]at this
 refine Pt (V ao.pb) λb0 d=>?_;have hb0:=d.1;have mb0:=d.2.1;have lb0:=d.2.2;clear d
 unfold Lv;refine OY (O1 (Nb ⟨O,?_⟩));refine OY (fF hb0 ?_);have j0:J0 ws a.toList b.toList (#[]:Array OS).toList 0 0:=⟨bj _,bj _,O,.refl _,.nil,λx D=>(by cases D),λx D=>(by cases D)⟩;have j1:J0 ws a.toList b.toList (#[b0]:Array OS).toList 0 (0+1):=H j0 lb0 λx D=>ao.head b0 hb0 x (aO.mp (cT D));clear j0;by_cases z:1=b.size
 ·rw[ak (by simpa using z)];exact O0 (q _ _ .rfl (dn j1 z))
 rw[aj (by simpa using z)];by_cases z2:0+1=a.size
 ·rw[ak (by simpa using z2)];exact O0 (q _ _ .rfl (ls j1 z2))
 rw[aj (by simpa using z2)];have hpa:=ao.pa;have hpb:=ao.pb;refine OY (OZ ?_);refine OY (O5 (O2 (λx c st'=>Sm st st' /\ ∃out ia ib g,c=(Y,out,ia,ib,g)/\J0 ws a.toList b.toList out.toList ia ib/\ia+1<a.size/\ib<b.size/\x+1<=out.toList.length)
  (Q:=λc st'=>Sm st st' /\ ∃r,c.1=Z r/\Mgd ws a.toList b.toList r.toList) ?_ ?_ ⟨.rfl,_,_,_,_,O,j1,by lia,by lia,nR1 _⟩) ?_)
 ·intro x c st' _ D l;refine Kg l ?_;clear l;intro hs out ia ib g p d;subst p;have F:=d.1;have n:=d.2.1;have m:=d.2.2.1;have hn:=d.2.2.2;clear d
  dsimp only;refine OY (O5 (O2 (λy c B=>Sm st B /\ ∃f ia ib P L,c=(Y,f,ia,ib,P,L)/\J0 ws a.toList b.toList f.toList ia ib/\ia+1<a.size/\ib<b.size/\out.toList.length+y<=f.toList.length)
   (Q:=λc B=>Sm st B/\((∃r,c.1=Z r/\Mgd ws a.toList b.toList r.toList) \/ ∃f ia ib P L,c=(Y,f,ia,ib,P,L)/\J0 ws a.toList b.toList f.toList ia ib/\ia+1<a.size/\ib<b.size/\out.toList.length+1<=f.toList.length)) ?_ ?_ ⟨hs,_,_,_,_,_,O,F,n,m,nR1 _⟩) ?_)
  ·intro y c B _ K l;refine Kf l ?_;clear l;intro t f ia ib P L p d;subst p;have F:=d.1;have n:=d.2.1;have m:=d.2.2.1;have hn2:=d.2.2.2;clear d
   dsimp only;refine Pt (V m) λu d=>?_;have hu:=d.1;have mu:=d.2.1;have lu:=d.2.2;clear d
   refine Pt (S (show ia<a.size by lia)) λv d=>?_;have hv:=d.1;have mv:=d.2.1;have lv:=d.2.2;clear d
   refine OY (fF hu (OY (fF hv (OY (C.lt2 (t.k.trans hk) (ao.mb u mu) (ao.ma v mv) (ao.ne v mv u mu).symm ?_)))));by_cases z3:rk ws u<rk ws v
   ·simp only[z3,O3,NL];refine OY (fF hu ?_);have I:=H F lu λx D=>nL1 z3 (ao.sa.drop_gt lv x D);have hl:(f.push u).toList.length=f.toList.length+1:=by simp
    by_cases G:ib+1=b.size
    ·rw[ak (by simpa using G)];exact O0 ⟨t,.inl ⟨_,O,dn I G⟩⟩
    ·rw[aj (by simpa using G)];split
     ·exact O0 ⟨t,.inr ⟨_,_,_,_,_,O,I,n,by lia,by lia⟩⟩
     ·exact O0 ⟨t,_,_,_,_,_,O,I,n,by lia,by lia⟩
   ·simp only[z3,O4,bF1,NJ];have z5:rk ws v<rk ws u:=by have:=ao.ne v mv u mu;lia
    refine OY (fF hv ?_);have I:=W F lv λx D=>nL1 z5 (ao.sb.drop_gt lu x D);have hl:(f.push v).toList.length=f.toList.length+1:=by simp
    by_cases G:ia+1+1=a.size
    ·rw[ak (by simpa using G)];exact O0 ⟨t,.inl ⟨_,O,ls I G⟩⟩
    ·rw[aj (by simpa using G)];split
     ·exact O0 ⟨t,.inr ⟨_,_,_,_,_,O,I,by lia,m,by lia⟩⟩
     ·exact O0 ⟨t,_,_,_,_,_,O,I,by lia,m,by lia⟩
  ·intro c B l;refine Kf l ?_;clear l;intro t f ia ib P L p d;subst p;have F:=d.1;have n:=d.2.1;have m:=d.2.2.1;have hn2:=d.2.2.2;clear d
   exfalso;have:=F.len;lia
  ·rintro c B ⟨t,⟨r,aq,hm⟩|⟨f,ia,ib,P,L,rfl,F,n,m,hn2⟩⟩
   ·obtain⟨c1,c2⟩:=c;dsimp only at aq;subst aq;exact O0 ⟨t,r,O,hm⟩
   dsimp only;refine OY (O1 (Nb ⟨O,?_⟩));refine OY (O5 (O2 (λy c B=>Sm st B /\ ∃j ia ib g P L,c=(Y,j,ia,ib,g,P,L)/\J0 ws a.toList b.toList j.toList ia ib/\ia+1<a.size/\ib<b.size/\f.toList.length+y<=j.toList.length)
    (Q:=λc B=>Sm st B/\((∃r,c.1=Z r/\Mgd ws a.toList b.toList r.toList) \/ ∃j ia ib g P L,c=(Y,j,ia,ib,g,P,L)/\J0 ws a.toList b.toList j.toList ia ib/\ia+1<a.size/\ib<b.size/\f.toList.length<=j.toList.length)) ?_ ?_ ⟨t,_,_,_,_,_,_,O,F,n,m,nR1 _⟩) ?_)
   ·intro y c N _ K l;refine Ke l ?_;clear l;intro au j ia ib g P L p d;subst p;have F:=d.1;have n:=d.2.1;have m:=d.2.2.1;have hn3:=d.2.2.2;clear d
    dsimp only;refine Pt (V m) λu d=>?_;have hu:=d.1;have mu:=d.2.1;have lu:=d.2.2;clear d
    refine(λ(X:∀g':Nat,(?T:Nat->Prop) g')=>?go) ?mn
    case go=>
     by_cases hg:g>1
     ·rw[ak hg];generalize g-1=g';exact X g'
     ·rw[aj hg];exact X g
    intro g';refine OY (rn (OY (fF hu (OY (ao.galA (ia:=ia) C (au.k.trans hk) hu (by lia) λk h1 h2 h3=>?_)))));have am:=au.g g';generalize Ph (kindOf N) (OV N) (OX N) g' (OW N)=st4 at *
    dsimp only;refine(λ(R:∀(o:Array OS) (i:Nat),J0 ws a.toList b.toList o.toList i ib->i+1<a.size->(∀x∈a.toList.drop i,rk ws u<rk ws x)->f.toList.length+y<=o.toList.length->(?T2:Array OS->Nat->Prop) o i)=>?go2) ?mn2
    case go2=>
     by_cases T:k>0
     ·rw [if_pos T];have I:=F.mvA (k:=k) ao.sa (by rw [aK];exact h1) fun x D z hz=>nL1 (h2 x D) (ao.sb.drop_gt lu z hz);rw [<- uB,<- cR] at I;have hlt:ia+k≠a.size:=fun e=>by
       refine Pt (S (show a.size-1<a.size by lia)) λv d=>?_;have hv:=d.1;have mv:=d.2.1;have lv:=d.2.2;clear d
       have h4:=ao.last v hv u mu;have h5:=h2 v (gM1 (i:=a.size-1-ia) (by rw[aV (by lia),cN,show ia+(a.size-1-ia)=a.size-1 by lia];exact lv));lia
      have hl2:f.toList.length+y<=(j++a.extract ia (ia+k)).toList.length:=by rw[cR,lA1];lia
      by_cases G:ia+k+1=a.size
      ·rw[ak (by simpa using G)];exact O0 ⟨am,.inl ⟨_,O,ls I G⟩⟩
      ·rw[aj (by simpa using G),aj (by simpa using hlt)];have h6:ia+k+1<a.size:=by lia
       generalize j++a.extract ia (ia+k)=o at I hl2 ⊢;have h8:=h3;generalize ia+k=i at I h6 h8 ⊢;exact R o i I h6 h8 hl2
     ·rw[aj T];have e:k=0:=by lia
      subst e;exact R j ia F n h3 hn3
    intro o i I hi hgt hlo;refine OY (fF hu ?_);have j2:=H I lu hgt;have hl2:(o.push u).toList.length=o.toList.length+1:=by simp
    by_cases G:ib+1=b.size
    ·rw[ak (by simpa using G)];exact O0 ⟨am,.inl ⟨_,O,dn j2 G⟩⟩
    rw[aj (by simpa using G)];refine Pt (S (show i<a.size by lia)) λv d=>?_;have hv:=d.1;have mv:=d.2.1;have lv:=d.2.2;clear d
    refine OY (fF hv (OY (ao.galB (ib:=ib+1) C (am.k.trans hk) hv (by lia) λwq e1 e2 e3=>?_)));dsimp only;generalize o.push u=o1 at *
    generalize ib+1=j1' at *
    refine(λ(U:∀(o3:Array OS) (jb:Nat),J0 ws a.toList b.toList o3.toList i jb->jb<b.size->(∀x∈b.toList.drop jb,rk ws v<rk ws x)->o1.toList.length<=o3.toList.length->(?T3:Array OS->Nat->Prop) o3 jb)=>?go3) ?mn3
    case go3=>
     by_cases T:wq>0
     ·rw[ak T];have j3:=j2.mvB (k:=wq) ao.sb (by rw[aK];exact e1) λx D z hz=>nL1 (e2 x D) (ao.sa.drop_gt lv z hz);rw[<- uB,<- cR]at j3;have hl3:o1.toList.length<=(o1++b.extract j1' (j1'+wq)).toList.length:=by rw[cR,lA1];lia
      by_cases z5:j1'+wq=b.size
      ·rw[ak (by simpa using z5)];exact O0 ⟨am,.inl ⟨_,O,dn j3 z5⟩⟩
      ·rw[aj (by simpa using z5)];have h7:j1'+wq<b.size:=by lia
       generalize o1++b.extract j1' (j1'+wq)=o3 at j3 hl3 ⊢;have h8:=e3;generalize j1'+wq=jb at j3 h7 h8 ⊢;exact U o3 jb j3 h7 h8 hl3
     ·rw[aj T];have e:wq=0:=by lia
      subst e;exact U o1 j1' j2 (by have:=j2.lb;rw[aK]at this;lia) e3 (nR1 _)
    intro o3 jb j3 hjb hgt3 hl3;refine OY (fF hv ?_);have j4:=W j3 lv hgt3;have hl4:(o3.push v).toList.length=o3.toList.length+1:=by simp
    by_cases z6:i+1+1=a.size
    ·rw[ak (by simpa using z6)];exact O0 ⟨am,.inl ⟨_,O,ls j4 z6⟩⟩
    rw[aj (by simpa using z6)];split
    ·exact O0 ⟨am,.inr ⟨_,_,_,_,_,_,O,j4,by lia,hjb,by lia⟩⟩
    ·exact O0 ⟨am,_,_,_,_,_,_,O,j4,by lia,hjb,by lia⟩
   ·intro c N l;refine Ke l ?_;clear l;intro au j ia ib g P L p d;subst p;have F:=d.1;have n:=d.2.1;have m:=d.2.2.1;have hn3:=d.2.2.2;clear d
    exfalso;have:=F.len;lia
   ·rintro c N ⟨au,⟨r,aq,hm⟩|⟨j,ia,ib,g,P,L,rfl,F,n,m,hn3⟩⟩
    ·obtain⟨c1,c2⟩:=c;dsimp only at aq;subst aq;exact O0 ⟨au,r,O,hm⟩
    dsimp only;refine OY (rn (O0 ⟨au.g _,_,_,_,_,O,F,n,m,by lia⟩))
 ·intro c st' l;refine Kg l ?_;clear l;intro hs out ia ib g p d;subst p;have F:=d.1;have n:=d.2.1;have m:=d.2.2.1;have hn:=d.2.2.2;clear d
  exfalso;have:=F.len;lia
 ·rintro c st' ⟨hs,r,aq,hm⟩;obtain⟨c1,c2⟩:=c;dsimp only at aq;subst aq;exact O0 (q r _ hs hm)
end
section
variable{ws:List dM}{a b out xs ys zs:List OS}{i j k t:Nat}
theorem nz.to(h1:nz ws xs ys)(h2:nz ws xs zs):nz ws xs (ys++zs):=λx a y b=>(aG.mp b).elim (λh=>h1 x a y h) λh=>h2 x a y h
structure K0 (ws:List dM)(a b out:List OS)(i j:Nat):Prop where
 la:i<=a.length
 lb:j<=b.length
 len:out.length+(i+j)=a.length+b.length
 pm:(a.take i++b.take j++out.reverse).Perm (a++b)
 so:Srt ws out.reverse
 ba:nz ws (a.take i) out
 bb:nz ws (b.take j) out
theorem K0.swap(h:K0 ws a b out i j):K0 ws b a out j i:=⟨h.lb,h.la,by have:=h.len;lia,((cI).append_right _).trans (h.pm.trans cI),h.so,h.bb,h.ba⟩
theorem K0.mvA(h:K0 ws a b out i j)(k:Srt ws a)(hk:t<=i)(hb:nz ws (b.take j) ((a.take i).drop t)):K0 ws a b (out++((a.take i).drop t).reverse) t j:=by
 have e:a.take i=a.take t++(a.take i).drop t:=by
  have:=(cF t (a.take i)).symm
  rwa [List.take_take,bC hk]at this
 have g:Srt ws (a.take i):=k.sublist (aW _ _);have l:=h.la;have len:=h.len;have sp:=g.split t;rw[List.take_take,bC hk]at sp;refine⟨by lia,h.lb,?_,?_,?_,?_,?_⟩
 ·rw[lA1,List.length_reverse,aX,aT];lia
 ·rw[List.reverse_append,List.reverse_reverse];refine List.Perm.trans ?_ h.pm;generalize (a.take i).drop t=c at e;rw[e,bJ,bJ,bJ];refine Ps _ ?_;rw[<- bJ,<- bJ];exact List.perm_append_comm.append_right _
 ·rw[List.reverse_append,List.reverse_reverse];exact Srt.app (g.sublist (cG _ _)) h.so λx d y f=>h.ba x (cT d) y (cU.mp f)
 ·exact(h.ba.of (λx d=>by rw[e];exact aH _ d) λ_ h=>h).to λx d y f=>sp x d y (cU.mp f)
 ·exact h.bb.to λx d y f=>hb x d y (cU.mp f)
theorem K0.mvB(h:K0 ws a b out i j)(c:Srt ws b)(hk:t<=j)(hb:nz ws (a.take i) ((b.take j).drop t)):K0 ws a b (out++((b.take j).drop t).reverse) i t:=(h.swap.mvA c hk hb).swap
theorem EN{x:OS}(h:a[i]?=Z x):(a.take (i+1)).drop i=[x]:=by
 have b:=(PB h).1;rw[cv,h,cV (by rw[aT];lia),cS (by rw[aT];lia)];rfl
theorem K0.dn(h:K0 ws a b out i j)(d:Srt ws b)(hi:i=0):Mgd ws a b (a.take i++b.take j++out.reverse):=by
 refine⟨h.pm,?_⟩;rw[hi,cK,cW];exact Srt.app (d.sublist (aW _ _)) h.so λx c y e=>h.bb x c y (cU.mp e)
theorem K0.fs(h:K0 ws a b out i j)(e:Srt ws a)(f:Srt ws b)(hb:nz ws (b.take j) (a.take i)):Mgd ws a b (b.take j++a.take i++out.reverse):=by
 refine⟨(List.perm_append_comm.append_right _).trans h.pm,?_⟩;exact(Srt.app (f.sublist (aW _ _)) (e.sublist (aW _ _)) hb).app h.so (nz.app (λx c y d=>h.bb x c y (cU.mp d)) λx c y d=>h.ba x c y (cU.mp d))
theorem Srt.take_lt(h:Srt ws a){x:OS}(hx:a[i]?=Z x):∀y∈a.take (i+1),rk ws y<=rk ws x:=λy b=>by
 rw[cv,hx]at b;rcases aG.mp b with b|b
 ·have c:=(PB hx).1;exact aD (h.split i y b x (by rw[bX c,(PB hx).2];exact mS1))
 ·have:y=x:=by simpa using b
  rw[this];exact nR1 _
end
theorem xl(a:Array OS)(i:Nat):(a.extract 0 i).toList=a.toList.take i:=by
 rw[cO,cP,bZ,Nat.sub_zero]
theorem EM{a:Array OS}{i t:Nat}(h:t<=i):(a.extract t i).reverse.toList=((a.toList.take i).drop t).reverse:=by
 rw[cX,cO,cP,List.drop_take]
section
variable{κ:OT}{ws:List dM}{a₀:Array OS}
theorem Jp(C:ju prog w A s κ ws a₀){a:Array OS}{st:OU}{l:Bool}{n:Nat}{y:OS}{Q:Option Nat->OU->Prop}(hk:kindOf st=κ)(m:∀ p∈a,p∈a₀)(h:Srt ws a.toList)(hy:y∈a₀)(e:∀ p∈a,rk ws p≠rk ws y)(hn:0<n)(o:n<=a.size)(q:∀k,k<=n->(∀x∈a.toList.take k,rk ws x<rk ws y)->(∀x∈(a.toList.take n).drop k,rk ws y<rk ws x)->Q (Z k) st):wpS (Mw prog w) A E s (HQ l y a 0 n (n-1)) Q st:=by
 refine xb (R:=λi=>(a[0+i]?.map (rk ws)).getD 0) C hk hy (by lia) (λi hi=>?_) (λi j g t=>?_) λk h1 h2 r=>q k h1 (λx f=>?_) λx f=>?_
 ·have b:0+i<a.size:=by lia
  refine⟨a[0+i],aG1 b,m _ (cM b),by rw[aG1 b];rfl,?_⟩;rw[aG1 b];exact e _ (cM b)
 ·have b:0+i<a.size:=by lia
  have d:0+j<a.size:=by lia
  rw[aG1 b,aG1 d];have:=cC.mp h (0+i) (0+j) (by simpa using b) (by simpa using d) (by lia);simpa using this
 ·obtain⟨i,hi⟩:=bq f;have c:i<k:=by have:=(PB hi).1;rw[aT]at this;lia
  rw[aV c,aT1]at hi;have:=h2 i c;rw[bQ,hi]at this;exact this
 ·obtain⟨i,hi⟩:=bq f;have b:=(PB hi).1;rw[aX,aT,aK]at b;rw[cN,aV (by lia),aT1]at hi;have:=r (k+i) (by lia) (by lia);rw[bQ,hi]at this;exact this
theorem I1(C:ju prog w A s κ ws a₀){a b:Array OS}(ao:MC ws a₀ a b){st:OU}{Q:Array OS->OU->Prop}(hk:kindOf st=κ)(q:∀r st',Sm st st'->Mgd ws a.toList b.toList r.toList->Q r st'):wpS (Mw prog w) A E s (Lw a b) Q st:=by
 have dn:∀{out:Array OS} {na nb:Nat},K0 ws a.toList b.toList out.toList na nb->na=0->Mgd ws a.toList b.toList (a.extract 0 na++b.extract 0 nb++out.reverse).toList:=λ{out na nb} h e=>by
  rw[cR,cR,xl,xl,cX];exact h.dn ao.sb e
 have firstX:∀{nb:Nat},nb=1 -> ∀y∈b.toList.take nb,∀q∈a,rk ws y<rk ws q:=λ{nb} e y au q hq=>by
  subst e;have hl:0<b.toList.length:=by rw[aK];exact ao.pb
  have:b.toList.take 1=[b.toList[0]]:=by
   conv=>lhs;rw[cv,cK,gG1 hl]
   rfl
  rw[this]at au;rw[cA.mp au];exact ao.head _ (by simp) q hq
 have fs:∀{out:Array OS} {na nb:Nat},K0 ws a.toList b.toList out.toList na nb->nb=1->Mgd ws a.toList b.toList (b.extract 0 nb++a.extract 0 na++out.reverse).toList:=λ{out na nb} h e=>by
  rw[cR,cR,xl,xl,cX];exact h.fs ao.sa ao.sb λx G y au=>firstX e x G y (aO.mp (cH au))
 have V:∀{i:Nat},i<a.size -> ∃x,a[i]?=Z x/\x∈a/\a.toList[i]?=Z x:=λ{i} h=>⟨a[i],aG1 h,cM h,by rw[aT1,aG1 h]⟩;have getB:∀{i:Nat},i<b.size -> ∃x,b[i]?=Z x/\x∈b/\b.toList[i]?=Z x:=λ{i} h=>⟨b[i],aG1 h,cM h,by rw[aT1,aG1 h]⟩;have aq:∀{out:Array OS} {na nb:Nat} {y:OS},K0 ws a.toList b.toList out.toList na nb->0<nb->b.toList[nb-1]?=Z y->(∀x∈a.toList.take na,rk ws x<rk ws y)->K0 ws a.toList b.toList (out.push y).toList na (nb-1):=λ{out na nb y} h h0 au hb=>by
  have e:=EN au;rw[show nb-1+1=nb by lia]at e;have:=h.mvB (t:=nb-1) ao.sb (by lia) (by rw[e];intro x G z hz;rw[cA.mp hz];exact hb x G);rw[e,List.reverse_singleton,<- cu]at this;exact this
 have L:∀{out:Array OS} {na nb:Nat} {y:OS},K0 ws a.toList b.toList out.toList na nb->0<na->a.toList[na-1]?=Z y->(∀x∈b.toList.take nb,rk ws x<rk ws y)->K0 ws a.toList b.toList (out.push y).toList (na-1) nb:=λ{out na nb y} h h0 au hb=>by
  have e:=EN au;rw[show na-1+1=na by lia]at e;have:=h.mvA (t:=na-1) ao.sa (by lia) (by rw[e];intro x G z hz;rw[cA.mp hz];exact hb x G);rw[e,List.reverse_singleton,<- cu]at this;exact this
 have klen:∀{out:Array OS} {na nb:Nat},K0 ws a.toList b.toList out.toList na nb->out.toList.length+(na+nb)=a.size+b.size:=λ{out na nb} h=>by have:=h.len;rwa [aK (xs:=a),aK (xs:=b)]at this
 have hpa:=ao.pa;have hpb:=ao.pb;refine Pt (V (show a.size-1<a.size by lia)) λa1 d=>?_;have ha1:=d.1;have ma1:=d.2.1;have la1:=d.2.2;clear d
 have upA:∀{n:Nat} {v:OS},0<n->a.toList[n-1]?=Z v -> ∀x∈a.toList.take n,rk ws x<=rk ws v:=λ{n v} h hv x G=>ao.sa.take_lt hv x (by rw[show n-1+1=n by lia];exact G);have upB:∀{n:Nat} {v:OS},0<n->b.toList[n-1]?=Z v -> ∀x∈b.toList.take n,rk ws x<=rk ws v:=λ{n v} h hv x G=>ao.sb.take_lt hv x (by rw[show n-1+1=n by lia];exact G);unfold Lw;refine OY (O1 (Nb ⟨O,?_⟩));refine OY (fF ha1 ?_);have j0:K0 ws a.toList b.toList (#[]:Array OS).toList a.size b.size:=⟨by simp,by simp,by simp,by rw[<- aK,<- aK,b4,b4];simp,.nil,λx G y au=>(by cases au),λx G y au=>(by cases au)⟩;have j1:K0 ws a.toList b.toList (#[a1]:Array OS).toList (a.size-1) b.size:=L j0 ao.pa la1 λx G=>ao.last a1 ha1 x (aO.mp (cH G));clear j0;by_cases z:a.size-1=0
 ·rw[ak (by simpa using z)];exact O0 (q _ _ .rfl (dn j1 z))
 rw[aj (by simpa using z)];by_cases z2:b.size=1
 ·rw[ak (by simpa using z2)];exact O0 (q _ _ .rfl (fs j1 z2))
 rw[aj (by simpa using z2)];refine OY (OZ ?_);refine OY (O5 (O2 (λx c st'=>Sm st st' /\ ∃na nb out g,c=(Y,na,nb,out,g)/\K0 ws a.toList b.toList out.toList na nb/\0<na/\1<nb/\x+1<=out.toList.length)
  (Q:=λc st'=>Sm st st' /\ ∃r,c.1=Z r/\Mgd ws a.toList b.toList r.toList) ?_ ?_ ⟨.rfl,_,_,_,_,O,j1,by lia,by lia,nR1 _⟩) ?_)
 ·intro x c st' _ G l;refine Kg l ?_;clear l;intro hs na nb out g D d;subst D;have I:=d.1;have m:=d.2.1;have B:=d.2.2.1;have hn:=d.2.2.2;clear d
  dsimp only;refine OY (O5 (O2 (λy c H=>Sm st H /\ ∃na nb f T P,c=(Y,na,nb,f,T,P)/\K0 ws a.toList b.toList f.toList na nb/\0<na/\1<nb/\out.toList.length+y<=f.toList.length)
   (Q:=λc H=>Sm st H/\((∃r,c.1=Z r/\Mgd ws a.toList b.toList r.toList) \/ ∃na nb f T P,c=(Y,na,nb,f,T,P)/\K0 ws a.toList b.toList f.toList na nb/\0<na/\1<nb/\out.toList.length+1<=f.toList.length)) ?_ ?_ ⟨hs,_,_,_,_,_,O,I,m,B,nR1 _⟩) ?_)
  ·intro y c H _ au l;refine Kf l ?_;clear l;intro F na nb f T P D d;subst D;have I:=d.1;have m:=d.2.1;have B:=d.2.2.1;have hn2:=d.2.2.2;clear d
   dsimp only;have lna:=I.la;have lnb:=I.lb;rw[aK]at lna lnb;refine Pt (getB (show nb-1<b.size by lia)) λu d=>?_;have hu:=d.1;have mu:=d.2.1;have lu:=d.2.2;clear d
   refine Pt (V (show na-1<a.size by lia)) λv d=>?_;have hv:=d.1;have mv:=d.2.1;have lv:=d.2.2;clear d
   refine OY (fF hu (OY (fF hv (OY (C.lt2 (F.k.trans hk) (ao.mb u mu) (ao.ma v mv) (ao.ne v mv u mu).symm ?_)))));by_cases z3:rk ws u<rk ws v
   ·simp only[z3,O3,NL];refine OY (fF hv ?_);have am:=L I m lv λx G=>bK (upB (by lia) lu x G) z3;have hl:(f.push v).toList.length=f.toList.length+1:=by simp
    by_cases K:na-1=0
    ·rw[ak (by simpa using K)];exact O0 ⟨F,.inl ⟨_,O,dn am K⟩⟩
    ·rw[aj (by simpa using K)];split
     ·exact O0 ⟨F,.inr ⟨_,_,_,_,_,O,am,by lia,B,by lia⟩⟩
     ·exact O0 ⟨F,_,_,_,_,_,O,am,by lia,B,by lia⟩
   ·simp only[z3,O4,bF1,NJ];have z5:rk ws v<rk ws u:=by have:=ao.ne v mv u mu;lia
    refine OY (fF hu ?_);have am:=aq I (by lia) lu λx G=>bK (upA m lv x G) z5;have hl:(f.push u).toList.length=f.toList.length+1:=by simp
    by_cases K:nb-1=1
    ·rw[ak (by simpa using K)];exact O0 ⟨F,.inl ⟨_,O,fs am K⟩⟩
    ·rw[aj (by simpa using K)];split
     ·exact O0 ⟨F,.inr ⟨_,_,_,_,_,O,am,m,by lia,by lia⟩⟩
     ·exact O0 ⟨F,_,_,_,_,_,O,am,m,by lia,by lia⟩
  ·intro c H l;refine Kf l ?_;clear l;intro F na nb f T P D d;subst D;have I:=d.1;have m:=d.2.1;have B:=d.2.2.1;have hn2:=d.2.2.2;clear d
   exfalso;have:=klen I;lia
  ·rintro c H ⟨F,⟨r,hr,hm⟩|⟨na,nb,f,T,P,rfl,I,m,B,hn2⟩⟩
   ·obtain⟨c1,c2⟩:=c;dsimp only at hr;subst hr;exact O0 ⟨F,r,O,hm⟩
   dsimp only;refine OY (O1 (Nb ⟨O,?_⟩));refine OY (O5 (O2 (λy c H=>Sm st H /\ ∃na nb j g T P,c=(Y,na,nb,j,g,T,P)/\K0 ws a.toList b.toList j.toList na nb/\0<na/\1<nb/\f.toList.length+y<=j.toList.length)
    (Q:=λc H=>Sm st H/\((∃r,c.1=Z r/\Mgd ws a.toList b.toList r.toList) \/ ∃na nb j g T P,c=(Y,na,nb,j,g,T,P)/\K0 ws a.toList b.toList j.toList na nb/\0<na/\1<nb/\f.toList.length<=j.toList.length)) ?_ ?_ ⟨F,_,_,_,_,_,_,O,I,m,B,nR1 _⟩) ?_)
   ·intro y c R _ au l;refine Ke l ?_;clear l;intro S na nb j g T P D d;subst D;have I:=d.1;have m:=d.2.1;have B:=d.2.2.1;have hn3:=d.2.2.2;clear d
    dsimp only;have lna:=I.la;have lnb:=I.lb;rw[aK]at lna lnb;refine Pt (getB (show nb-1<b.size by lia)) λu d=>?_;have hu:=d.1;have mu:=d.2.1;have lu:=d.2.2;clear d
    refine(λ(main:∀g':Nat,(?T:Nat->Prop) g')=>?go) ?mn
    case go=>
     by_cases hg:g>1
     ·rw[ak hg];generalize g-1=g';exact main g'
     ·rw[aj hg];exact main g
    intro g';refine OY (rn (OY (fF hu (OY (Jp (n:=na) C (S.k.trans hk) ao.ma ao.sa (ao.mb u mu) (λp hp=>ao.ne p hp u mu) m lna λk h1 h2 h3=>?_)))));have N:=S.g g';generalize Ph (kindOf R) (OV R) (OX R) g' (OW R)=st4 at *
    dsimp only;generalize hac:na-k=acc;refine(λ(U:∀(o:Array OS) (i:Nat),K0 ws a.toList b.toList o.toList i nb->0<i->(∀x∈a.toList.take i,rk ws x<rk ws u)->f.toList.length+y<=o.toList.length->(?T2:Array OS->Nat->Prop) o i)=>?go2) ?mn2
    case go2=>
     by_cases W:acc>0
     ·rw[ak W];have am:=I.mvA (t:=k) ao.sa h1 λx G z hz=>bK (upB (by lia) lu x G) (h3 z hz);rw[<- EM h1,<- cR]at am;have hl2:f.toList.length+y<=(j++(a.extract k na).reverse).toList.length:=by rw[cR,lA1];lia
      by_cases K:k=0
      ·rw[ak (by simpa using K)];exact O0 ⟨N,.inl ⟨_,O,dn am K⟩⟩
      ·rw[aj (by simpa using K)];generalize j++(a.extract k na).reverse=o at am hl2 ⊢;have wq:=h2;have h9:0<k:=by lia
       generalize k=i at am wq h9 ⊢;exact U o i am h9 wq hl2
     ·rw[aj W];have e:k=na:=by lia
      have wq:=h2;rw[e]at wq;exact U j na I m wq hn3
    intro o i am hi hgt hlo;refine OY (fF hu ?_);have j2:=aq am (by lia) lu hgt;have hl2:(o.push u).toList.length=o.toList.length+1:=by simp
    by_cases K:nb-1=1
    ·rw[ak (by simpa using K)];exact O0 ⟨N,.inl ⟨_,O,fs j2 K⟩⟩
    rw[aj (by simpa using K)];have li:=am.la;rw[aK]at li;refine Pt (V (show i-1<a.size by lia)) λv d=>?_;have hv:=d.1;have mv:=d.2.1;have lv:=d.2.2;clear d
    refine OY (fF hv (OY (Jp (n:=nb-1) C (N.k.trans hk) ao.mb ao.sb (ao.ma v mv) (λp hp=>(ao.ne v mv p hp).symm) (by lia) (by lia) λk2 e1 e2 e3=>?_)));dsimp only;generalize o.push u=o1 at *
    have hnb:0<nb-1:=by lia
    generalize nb-1=j1' at *
    generalize hac2:j1'-k2=acc2;refine(λ(X:∀(o3:Array OS) (jb:Nat),K0 ws a.toList b.toList o3.toList i jb->1<jb->(∀x∈b.toList.take jb,rk ws x<rk ws v)->o1.toList.length<=o3.toList.length->(?T3:Array OS->Nat->Prop) o3 jb)=>?go3) ?mn3
    case go3=>
     by_cases W:acc2>0
     ·rw[ak W];have j3:=j2.mvB (t:=k2) ao.sb e1 λx G z hz=>bK (upA hi lv x G) (e3 z hz);rw[<- EM e1,<- cR]at j3;have hl3:o1.toList.length<=(o1++(b.extract k2 j1').reverse).toList.length:=by rw[cR,lA1];lia
      by_cases z5:k2=1
      ·rw[ak (by simpa using z5)];exact O0 ⟨N,.inl ⟨_,O,fs j3 z5⟩⟩
      ·have h0:k2≠0:=fun e=>by
        subst e;refine Pt (getB ao.pb) λb0 d=>?_;have hb0:=d.1;have mb0:=d.2.1;have lb0:=d.2.2;clear d
        have:=e3 b0 (gM1 (i:=0) (by rw[cN,aV (by lia)];exact lb0));have:=ao.head b0 hb0 v mv;lia
       rw[aj (by simpa using z5),aj (by simpa using h0)];generalize o1++(b.extract k2 j1').reverse=o3 at j3 hl3 ⊢;have wq:=e2;have h9:1<k2:=by lia
       generalize k2=jb at j3 wq h9 ⊢;exact X o3 jb j3 h9 wq hl3
     ·rw[aj W];have e:k2=j1':=by lia
      have wq:=e2;rw[e]at wq;exact X o1 j1' j2 (by lia) wq (nR1 _)
    intro o3 jb j3 hjb hgt3 hl3;refine OY (fF hv ?_);have j4:=L j3 hi lv hgt3;have hl4:(o3.push v).toList.length=o3.toList.length+1:=by simp
    by_cases z6:i-1=0
    ·rw[ak (by simpa using z6)];exact O0 ⟨N,.inl ⟨_,O,dn j4 z6⟩⟩
    rw[aj (by simpa using z6)];split
    ·exact O0 ⟨N,.inr ⟨_,_,_,_,_,_,O,j4,by lia,hjb,by lia⟩⟩
    ·exact O0 ⟨N,_,_,_,_,_,_,O,j4,by lia,hjb,by lia⟩
   ·intro c R l;refine Ke l ?_;clear l;intro S na nb j g T P D d;subst D;have I:=d.1;have m:=d.2.1;have B:=d.2.2.1;have hn3:=d.2.2.2;clear d
    exfalso;have:=klen I;lia
   ·rintro c R ⟨S,⟨r,hr,hm⟩|⟨na,nb,j,g,T,P,rfl,I,m,B,hn3⟩⟩
    ·obtain⟨c1,c2⟩:=c;dsimp only at hr;subst hr;exact O0 ⟨S,r,O,hm⟩
    dsimp only;refine OY (rn (O0 ⟨S.g _,_,_,_,_,O,I,m,B,by lia⟩))
 ·intro c st' l;refine Kg l ?_;clear l;intro hs na nb out g D d;subst D;have I:=d.1;have m:=d.2.1;have B:=d.2.2.1;have hn:=d.2.2.2;clear d
  exfalso;have:=klen I;lia
 ·rintro c st' ⟨hs,r,hr,hm⟩;obtain⟨c1,c2⟩:=c;dsimp only at hr;subst hr;exact O0 (q r _ hs hm)
end
theorem sU(c:Nat):∀ (m:List OS) (k:Nat) (arr:Array OS) (pre old b:List OS),arr.toList=pre++(old++b)->pre.length=c+k->old.length=m.length ->
  ((m.zipIdx k).foldl (λa (x:OS×Nat)=>a.setIfInBounds (c+x.2) x.1) arr).toList=pre++(m++b)
 |[],k,arr,pre,old,b,h1,h2,h3=>by
  have:old=[]:=cs.mp h3;subst this;exact h1
 |x::m,k,arr,pre,[],b,h1,h2,h3=>by simp at h3
 |x::m,k,arr,pre,o::old,b,h1,h2,h3=>by
  rw[bN,ca];have:=sU c m (k+1) (arr.setIfInBounds (c+k) x) (pre++[x]) old b (by
   rw[Array.toList_setIfInBounds,h1,<- h2,cY _ _ (nR1 _),cZ];simp) (by rw[lA1,h2];rfl) (by simpa using h3)
  rw[this];simp
def ga:Nat->List (List OS)->List (Nat×Nat×Nat)->Prop
 |_,[],[]=>True
 |s,r::rs,(t,n,_)::p=>t=s/\n=r.length/\ga (s+r.length) rs p
 |_,_,_=>False
theorem wH:∀ {s:Nat} {rs:List (List OS)} {p:List (Nat×Nat×Nat)},ga s rs p -> ∀ {i:Nat} {r1 r2:List OS},rs[i]? = some r1->rs[i+1]? = some r2 ->
  ∃d c,p[i]?=Z (s+(rs.take i).flatten.length,r1.length,d)/\p[i+1]?=Z (s+(rs.take i).flatten.length+r1.length,r2.length,c) /\
   ga s (rs.take i++(r1++r2)::rs.drop (i+2)) ((p.set i (s+(rs.take i).flatten.length,r1.length+r2.length,d)).eraseIdx (i+1))
 |s,[],p,h,i,r1,r2,h1,_=>by simp at h1
 |s,r::rs,[],h,i,r1,r2,_,_=>by cases h
 |s,r::rs,(t,n,d)::p,⟨e1,e2,h⟩,0,r1,r2,h1,h2=>by
  have j:r=r1:=by simpa using h1
  subst j
  match rs,p,h,h2 with
  |r2'::rs,(t2,n2,c)::p,⟨f,e,h⟩,h2=>
   have k:r2'=r2:=by simpa using h2
   subst k;subst e1;subst e2;subst f;subst e;refine⟨d,c,by simp,by simp,?_⟩;simp only[cK,List.flatten_nil,bg,c0,cW,List.drop_succ_cons,bZ,c5,c6,List.eraseIdx_cons_zero];exact⟨O,by rw[lA1],by rw[lA1,<- bn];exact h⟩
 |s,r::rs,(t,n,d)::p,⟨e1,e2,h⟩,i+1,r1,r2,h1,h2=>by
  obtain⟨a,b,f,e,g⟩:=wH h (i:=i) (by simpa using h1) (by simpa using h2);have el:s+((r::rs).take (i+1)).flatten.length=s+r.length+(rs.take i).flatten.length:=by rw[cJ,c7,lA1,bn]
  refine⟨a,b,by rw[el,gC1];exact f,by rw[el,gC1];exact e,?_⟩;rw[el,cJ,bm,c8,c6,List.drop_succ_cons];exact⟨e1,e2,g⟩
structure SR (ws:List dM)(κ:OT)(a₀:Array OS)(rs:List (List OS))(rest:List OS)(st:OU):Prop where
 k:kindOf st=κ
 f:OW st=none
 pm:(OV st).Perm a₀
 ar:(OV st).toList=rs.flatten++rest
 so:∀r∈rs,Srt ws r/\r≠[]
 pe:ga 0 rs (OX st).toList
section
variable{κ:OT}{ws:List dM}{a₀:Array OS}
theorem ju.unlike(C:ju prog w A s κ ws a₀){xs:Array OS}(p:xs.Perm a₀):xs.toList.Pairwise λu v=>rk ws u≠rk ws v:=by
 refine cC.mpr λi j hi a b e=>?_;rw[aK]at hi a;have:=C.inj p (i:=i) (j:=j) (by rw[<- p.size_eq];exact hi) (by rw[<- p.size_eq];exact a) (by unfold kR;rw[aG1 hi,aG1 a];simpa using e);lia
theorem Ft{σ:Type}{ao:Model}{st a:σ}{Q:Unit->σ->Prop}(h:Q () a):wpS ao A E s (set a:StateT σ Sem PUnit) Q st:=O6 (f:=λ_=>a) h
theorem Bx(xs:Array (Nat×Nat×Nat))(i:Nat):(xs.eraseIdxIfInBounds i).toList=xs.toList.eraseIdx i:=by
 unfold Array.eraseIdxIfInBounds;split
 ·rw[Array.toList_eraseIdx]
 ·rename_i h;rw[List.eraseIdx_of_length_le (by rw[aK];lia)]
theorem p0:∀{A B:List (List OS)} {r b:List OS} {s:Nat} {p:List (Nat×Nat×Nat)},ga s (A++r::B) p->r.length=b.length->ga s (A++b::B) p
 |[],B,r,b,s,[],h,_=>by cases h
 |[],B,r,b,s,(t,n,pw)::p,h,e=>by
  obtain⟨h1,h2,c⟩:=(show t=s/\n=r.length/\ga (s+r.length) B p from h);exact⟨h1,by rw[<- e];exact h2,by rw[<- e];exact c⟩
 |a::A,B,r,b,s,[],h,_=>by cases h
 |a::A,B,r,b,s,(t,n,pw)::p,h,e=>by
  obtain⟨h1,h2,c⟩:=(show t=s/\n=a.length/\ga (s+a.length) (A++r::B) p from h);exact⟨h1,h2,p0 c e⟩
theorem Fh{rs:List (List OS)}{i:Nat}{a r2:List OS}(h1:rs[i]?=Z a)(h2:rs[i+1]?=Z r2):rs=rs.take i++a::r2::rs.drop (i+2):=by
 have b:=(PB h1);have c:=(PB h2);have:=(cF i rs).symm;rw[bX b.1,bX c.1,b.2,c.2]at this;exact this
theorem Jo(C:ju prog w A s κ ws a₀){st:OU}{l:Bool}{key:OS}{X:Array OS}{pre r a:List OS}{h:Nat}{Q:Option Nat->OU->Prop}(hk:kindOf st=κ)(t:X.toList=pre++(r++a))(hm:∀ x∈X,x∈a₀)(c:key∈a₀)(n:Srt ws r)(f:∀ x∈r,rk ws x≠rk ws key)(o:h<r.length)(q:∀k,k<=r.length->(∀x∈r.take k,rk ws x<rk ws key)->(∀x∈r.drop k,rk ws key<rk ws x)->Q (Z k) st):wpS (Mw prog w) A E s (HQ l key X pre.length r.length h) Q st:=by
 have at_:∀i,i<r.length->X[pre.length+i]?=r[i]?:=λi hi=>by
  rw[<- aT1,t,gR1 (br _ _),bu,gL1 hi]
 refine xb (R:=λi=>(r[i]?.map (rk ws)).getD 0) C hk c o (λi hi=>?_) (λi j d m=>?_) λk h1 h2 p=>q k h1 (λx g=>?_) λx g=>?_
 ·have e:=at_ i hi;rw[gG1 hi]at e;refine⟨r[i],e,hm _ (cj e),by rw[gG1 hi];rfl,?_⟩;rw[gG1 hi];exact f _ (bV hi)
 ·rw[gG1 (show i<r.length by lia),gG1 m];exact cC.mp n i j (by lia) m d
 ·obtain⟨i,hi⟩:=bq g;have b:i<k:=by have:=(PB hi).1;rw[aT]at this;lia
  rw[aV b]at hi;have:=h2 i b;rw[hi]at this;exact this
 ·obtain⟨i,hi⟩:=bq g;rw[cN]at hi;have:=p (k+i) (by lia) (PB hi).1;rw[hi]at this;exact this
theorem SR.merge(C:ju prog w A s κ ws a₀){rs:List (List OS)}{rest:List OS}{st:OU}{i:Nat}{a r2:List OS}{Q:Bool->OU->Prop}(h:SR ws κ a₀ rs rest st)(h1:rs[i]? = Z a)(h2:rs[i+1]? = Z r2)(q:∀r st',SR ws κ a₀ (rs.take i++r::rs.drop (i+2)) rest st'->Q M st'):wpS (Mw prog w) A E s (mergeAt' i) Q st:=by
 obtain⟨U,pw2,p1,p2,p3⟩:=wH h.pe h1 h2;rw[aT1,bQ]at p1 p2;rw[bQ]at p3;have aq:=Fh h1 h2;obtain⟨K,n1⟩:=h.so a (gM1 h1);obtain⟨am,n2⟩:=h.so r2 (gM1 h2);have others:∀r∈rs.take i,Srt ws r/\r≠[]:=λr g=>h.so r (cH g);have others2:∀r∈rs.drop (i+2),Srt ws r/\r≠[]:=λr g=>h.so r (cT g);have l1:0<a.length:=c9.mpr n1;have l2:0<r2.length:=c9.mpr n2;have l:(OV st).toList=(rs.take i).flatten++(a++(r2++((rs.drop (i+2)).flatten++rest))):=by
  rw[h.ar]
  conv=>lhs;rw[aq]
  simp
 generalize S:(rs.take i).flatten=pre at *
 generalize H:(rs.drop (i+2)).flatten++rest=post at *
 have f:∀x∈OV st,x∈a₀:=λx c=>h.pm.mem_iff.mp c;have un:=C.unlike h.pm;have P:∀x∈a,x∈OV st:=λx c=>by rw[<- aO,l];simp[c]
 have N:∀x∈r2,x∈OV st:=λx c=>by rw[<- aO,l];simp[c]
 have o:∀x∈a,∀y∈r2,rk ws x≠rk ws y:=λx c y D=>by
  rw[l]at un;exact(cE.mp (cE.mp un).2.1).2.2 x c y (aH _ D)
 have hs:∀{st':OU} {r:List OS},kindOf st'=kindOf st->OW st'=OW st->(OX st').toList=((OX st).toList.set i (pre.length,a.length+r2.length,U)).eraseIdx (i+1)->(OV st').toList=pre++(r++post)->r.Perm (a++r2)->Srt ws r->Q M st':=λ{st' r} t j g3 g4 W g6=>by
  refine q r st' ⟨t.trans h.k,j.trans h.f,?_,?_,?_,?_⟩
  ·refine Array.Perm.trans ?_ h.pm;rw[cf,g4,l,<- bJ a];exact Ps _ (W.append_right _)
  ·rw[g4,da,c7,S,bJ,bJ,H]
  ·intro x c;rcases aG.mp c with c|c
   ·exact others x c
   ·rcases aF.mp c with rfl|c
    ·exact⟨g6,λe=>by rw[e]at W;have:=W.length_eq;rw[lA1,bg]at this;lia⟩
    ·exact others2 x c
  ·rw[g3];exact p0 p3 (by rw[lA1,W.length_eq,lA1])
 obtain⟨u,V⟩:∃u,r2[0]?=some u:=⟨_,gG1 l2⟩;have mu:=gM1 V;obtain⟨v,au⟩:∃v,a[a.length-1]?=some v:=⟨_,gG1 (by lia)⟩;have mv:=gM1 au;have X:(OV st)[pre.length+a.length]?=Z u:=by
  rw[<- aT1,l,gR1 (br _ _),bu,gR1 (nR1 _),cZ,gL1 l2];exact V
 have wq:(OV st)[pre.length+a.length-1]?=Z v:=by
  rw[<- aT1,l,gR1 (by lia),show pre.length+a.length-1-pre.length=a.length-1 by lia,gL1 (by lia)];exact au
 have L:(OV st).toList=(pre++a)++(r2++post):=by rw[l,bJ]
 unfold mergeAt';refine OY (OZ ?_);dsimp only;rw[show(OX st)[i]?=_ from p1,show(OX st)[i+1]?=_ from p2];dsimp only;refine OY (Ft ?_);refine OY (fF X ?_);refine OY (Jo (pre:=pre) (r:=a) C h.k l f (f u (N u mu)) K (λx c=>o x c u mu) l1 λk e1 T e3=>?_);dsimp only;have n:(((OX st).setIfInBounds i (pre.length,a.length+r2.length,U)).eraseIdxIfInBounds (i+1)).toList=((OX st).toList.set i (pre.length,a.length+r2.length,U)).eraseIdx (i+1):=by rw[Bx,Array.toList_setIfInBounds]
 generalize ((OX st).setIfInBounds i (pre.length,a.length+r2.length,U)).eraseIdxIfInBounds (i+1)=R at *
 have G:∀x∈r2,rk ws u<=rk ws x:=λx c=>am.drop_gt (i:=0) V x (by rw[bZ];exact c);by_cases z:a.length-k=0
 ·rw[ak (by simpa using z)];have ek:k=a.length:=by lia
  subst ek;rw[b4]at T;exact O0 (hs (r:=a++r2) O O n (by rw[bJ];exact l) (.refl _) (K.app am λx c y D=>nL1 (T x c) (G y D)))
 rw[aj (by simpa using z),show pre.length+k+(a.length-k)-1=pre.length+a.length-1 by lia];refine OY (fF wq ?_);rw[show pre.length+a.length=(pre++a).length by rw[lA1]];refine OY (Jo (pre:=pre++a) (r:=r2) C h.k L f (f v (P v mv)) am (λx c=>(o v mv x c).symm) (show r2.length-1<r2.length by lia) λk2 f1 f2 f3=>?_);dsimp only;have huv:rk ws u<rk ws v:=e3 v (gM1 (i:=a.length-1-k) (by rw[cN,show k+(a.length-1-k)=a.length-1 by lia];exact au));have hk2:k2≠0:=λe=>by
  subst e;have:=f3 u (by rw[bZ];exact mu);lia
 rw[aj (by simpa using hk2)];have ex:((OV st).extract (pre.length+k) (pre++a).length).toList=a.drop k:=by
  rw[cO,cP,l,<- bF,List.drop_left,cV e1,lA1,show pre.length+a.length-(pre.length+k)=(a.drop k).length by rw[aX];lia,db]
 have F:((OV st).extract (pre++a).length ((pre++a).length+k2)).toList=r2.take k2:=by
  rw[cO,cP,L,List.drop_left,bu,List.take_append_of_le_length f1]
 generalize c:(OV st).extract (pre.length+k) (pre++a).length=x at *
 generalize D:(OV st).extract (pre++a).length ((pre++a).length+k2)=y at *
 have lx:x.size=a.length-k:=by rw[<- aK,ex,aX]
 have ly:y.size=k2:=by rw[<- aK,F,aT];lia
 have ao:MC ws a₀ x y:=by
  refine⟨λp d=>?_,λp d=>?_,?_,?_,λp d r g=>?_,by lia,by lia,λp d r g=>?_,λp d r g=>?_⟩
  ·rw[<- aO,ex]at d;exact f p (P p (cT d))
  ·rw[<- aO,F]at d;exact f p (N p (cH d))
  ·rw[ex];exact K.sublist (cG _ _)
  ·rw[F];exact am.sublist (aW _ _)
  ·rw[<- aO,ex]at d;rw[<- aO,F]at g;exact o p (cT d) r (cH g)
  ·rw[<- aO,F]at g;rw[<- aT1,ex,cN,lx,show k+(a.length-k-1)=a.length-1 by lia,au]at d;cases d;exact f2 r g
  ·rw[<- aO,ex]at g;rw[<- aT1,F,aV (by lia),V]at d;cases d;exact e3 r g
 refine(λ(B:∀(m:Array OS) (b:OU),Sm (Ph (kindOf st) (OV st) R (gallopOf st) (OW st)) b->Mgd ws x.toList y.toList m.toList->(?T:Array OS->OU->Prop) m b)=>?go) ?mn
 case go=>
  by_cases z2:a.length-k<=k2
  ·rw[ak z2];refine OY (IZ C ao h.k λm b t j=>?_);exact B m b t j
  ·rw[aj z2];refine OY (I1 C ao h.k λm b t j=>?_);exact B m b t j
 intro m b t j;refine OY (O6 (OY (OZ ?_)));dsimp only;have hf:OW b=Y:=t.f.trans h.f;rw[show(OW b).isNone=M by rw[hf];rfl];rw[ex,F]at j;have ml:m.toList.length=(a.drop k++r2.take k2).length:=j.1.length_eq;have wr:=sU (pre.length+k) m.toList 0 (OV b) (pre++a.take k) (a.drop k++r2.take k2) (r2.drop k2++post) (by
  rw[t.a];show(OV st).toList=_;rw[l]
  conv=>lhs;rw[<- cF k a,<- cF k2 r2]
  simp only[bJ]) (by rw[lA1,aT,c0];lia) ml.symm
 have bx:∀y∈m.toList,y∈a.drop k\/y∈r2.take k2:=λy D=>aG.mp (j.1.mem_iff.mp D);have sp1:=K.split k;have sp2:=am.split k2;have upv:∀y∈a,rk ws y<=rk ws v:=λy D=>K.take_lt au y (by rw[show a.length-1+1=a.length by lia,b4];exact D);refine O0 (hs (r:=a.take k++(m.toList++r2.drop k2)) t.k t.f (by rw[show OX (Ph (kindOf b) _ (OX b) (gallopOf b) (OW b))=OX b from rfl,t.p];exact n) ?_ ?_ ?_)
 ·refine wr.trans ?_;simp only[bJ]
 ·conv=>rhs;rw[<- cF k a,<- cF k2 r2]
  rw[bJ];refine Ps _ ?_;rw[<- bJ];exact j.1.append_right _
 ·refine Srt.app (K.sublist (aW _ _)) (Srt.app j.2 (am.sublist (cG _ _)) λp d r g=>?_) (nz.to (λp d r g=>?_) λp d r g=>?_)
  ·rcases bx p d with I|I
   ·exact bK (upv p (cT I)) (f3 r g)
   ·exact sp2 p I r g
  ·rcases bx r g with I|I
   ·exact sp1 p d r I
   ·exact nL1 (T p d) (G r (cH I))
  ·exact nL1 (T p d) (G r (cT g))
end
def kO(ws:List dM)(lo:Nat)(xs:Array OS)(i:Nat):Nat:=kR ws xs (lo+i)
def xJ(ws:List dM)(lo:Nat)(xs:Array OS)(k:Nat):Prop:=∀i j,i<j->j<k->kO ws lo xs i<kO ws lo xs j
def JU(ws:List dM)(lo:Nat)(xs:Array OS)(k:Nat):Prop:=∀i j,i<j->j<k->kO ws lo xs j<kO ws lo xs i
structure SoL (κ:OT)(a₀:Array OS)(lo:Nat)(st0 st:OU):Prop where
 perm:(OV st).Perm a₀
 kind:kindOf st=κ
 failed:OW st=OW st0
 pend:OX st=OX st0
 pre:∀i,i<lo->(OV st)[i]?=(OV st0)[i]?
theorem SoL.arr{κ:OT}{a₀:Array OS}{lo:Nat}{st0 st:OU}(b:SoL κ a₀ lo st0 st){xs:Array OS}(p:xs.Perm (OV st))(hp:∀i,i<lo->xs[i]?=(OV st)[i]?):SoL κ a₀ lo st0 (setArr st xs):=⟨p.trans b.perm,b.kind,b.failed,b.pend,λi hi=>(hp i hi).trans (b.pre i hi)⟩
section
variable{κ:OT}{ws:List dM}{a₀:Array OS}{lo:Nat}{st0:OU}
theorem ju.cmpL(C:ju prog w A s κ ws a₀){st:OU}{i j:Nat}{Q:Option Bool->OU->Prop}(b:SoL κ a₀ lo st0 st)(hi:i<a₀.size)(d:j<a₀.size)(a:i≠j)(h:Q (Z (decide (kR ws (OV st) i<kR ws (OV st) j))) st):wpS (Mw prog w) A E s (ltAt' i j) Q st:=by
 obtain⟨x,q,k,e⟩:=C.at_ b.perm hi;obtain⟨y,r,g,f⟩:=C.at_ b.perm d;have c:kR ws (OV st) i≠kR ws (OV st) j:=λz=>a (C.inj b.perm hi d z);rw[ltAt'_eq];refine OY (OZ ?_);show wpS _ _ _ _ (do let x<-elem' (OV st) i;let y<-elem' (OV st) j;lt' x y) Q st;rw[elem'_eq,elem'_eq,k,g];refine OY (O0 (OY (O0 ?_)));rw[lt'_eq];refine OY (OZ ?_);rw[b.kind];exact OY (O1 (On (C.lt x y _ _ e f c _ _ ⟨O,O0 h⟩)))
theorem xJ.one{xs:Array OS}:xJ ws lo xs 1:=λi j h1 h2=>by lia
theorem xJ.snoc{xs:Array OS}{n:Nat}(u:xJ ws lo xs n)(h:kO ws lo xs (n-1)<kO ws lo xs n):xJ ws lo xs (n+1):=λi j h1 h2=>by
 by_cases z:j<n
 ·exact u i j h1 z
 ·have b:j=n:=by lia
  subst b;by_cases a:i=j-1
  ·rw[a];exact h
  ·exact bi (u i (j-1) (by lia) (by lia)) h
theorem JU.snoc{xs:Array OS}{n:Nat}(u:JU ws lo xs n)(h:kO ws lo xs n<kO ws lo xs (n-1)):JU ws lo xs (n+1):=λi j h1 h2=>by
 by_cases z:j<n
 ·exact u i j h1 z
 ·have b:j=n:=by lia
  subst b;by_cases a:i=j-1
  ·rw[a];exact h
  ·exact bi h (u i (j-1) (by lia) (by lia))
theorem Bc(C:ju prog w A s κ ws a₀){xs:Array OS}(p:xs.Perm a₀){i j:Nat}(hi:lo+i<a₀.size)(b:lo+j<a₀.size)(a:i≠j):kO ws lo xs i≠kO ws lo xs j:=λe=>by
 have:=C.inj p hi b e;lia
theorem Ip(C:ju prog w A s κ ws a₀){st:OU}{l:Nat}{Q:Option Nat->OU->Prop}(hn:lo+l<=a₀.size)(h1:1<=l)(b:SoL κ a₀ lo st0 st)(h:∀m st',SoL κ a₀ lo st0 st'->1<=m->m<=l->xJ ws lo (OV st') m->Q (Z m) st'):wpS (Mw prog w) A E s (countRun' lo l) Q st:=by
 have t:∀ {st:OU} {a:Nat} {f:Nat->Option (Option Nat)×Nat->StateT OU Sem (ForInStep (Option (Option Nat)×Nat))} {Q:Option (Option Nat)×Nat->OU->Prop},SoL κ a₀ lo st0 st->1<=a->a<=l->xJ ws lo (OV st) a ->
   (∀x c,f x c=(ltAt' (lo+c.2) (lo+c.2-1) >>= λr=>match r with
    |some z=>if z=M then pure (Pr (Y,c.2))else pure (Of (Y,c.2+1))
    |_=>pure (Pr (Z Y,c.2)))) ->
   (∀n,a<=n->n<=l->xJ ws lo (OV st) n->(n=l\/kO ws lo (OV st) n<kO ws lo (OV st) (n-1))->Q (Y,n) st)->wpS (Mw prog w) A E s (forIn [a:l] (Y,a) f) Q st:=λ{st a f Q} b R p u am G=>by
  refine O2 (λx c st'=>st'=st/\c=(Y,x)/\xJ ws lo (OV st) x) ?_ ?_ ⟨O,O,u⟩
  ·rintro x c st' y v ⟨rfl,rfl,o⟩;rw[am];dsimp only;refine OY (C.cmpL b (by lia) (by lia) (by lia) ?_);have e:kR ws (OV st') (lo+x-1)=kO ws lo (OV st') (x-1):=by unfold kO;congr 1;lia
   rw[e];by_cases z:kO ws lo (OV st') x<kO ws lo (OV st') (x-1)
   ·rw[show decide (kR ws (OV st') (lo+x)<kO ws lo (OV st') (x-1))=M from ah z];exact O0 (G x y (by lia) o (.inr z))
   ·rw[show decide (kR ws (OV st') (lo+x)<kO ws lo (OV st') (x-1))=J from ai z];have:=Bc C b.perm (lo:=lo) (i:=x) (j:=x-1) (by lia) (by lia) (by lia);exact O0 ⟨O,O,o.snoc (by lia)⟩
  ·rintro c st' ⟨rfl,rfl,o⟩;rw[ci p]at o ⊢;exact G l p (nR1 _) o (.inl O)
 rw[countRun'_eq];refine OY (t b (nR1 1) h1 .one (λx c=>rfl) λn h2 D u or=>?_);dsimp only;by_cases z:n=l
 ·rw[ak (by simpa using z)];exact O0 (h n st b h2 D u)
 rw[aj (by simpa using z)];have P:=or.resolve_left z;by_cases H:n>1
 ·rw[ak H];have ao:=u 0 (n-1) (by lia) (by lia);refine OY (C.cmpL b (by lia) (by lia) (by lia) ?_);have e:kR ws (OV st) (lo+n-1)=kO ws lo (OV st) (n-1):=by unfold kO;congr 1;lia
  rw[e,show decide (kR ws (OV st) lo<kO ws lo (OV st) (n-1))=M from ah ao];exact O0 (h n st b h2 D u)
 rw[aj H];have e:n=1:=by lia
 subst e;refine OY (O1 (Nb ⟨O,?_⟩));refine OY (O5 (O2 (λx c st'=>st'=st/\c=(Y,x,0)/\JU ws lo (OV st) x) (Q:=λc st'=>st'=st /\ ∃m,c=(Y,m,0)/\2<=m/\m<=l/\JU ws lo (OV st) m) ?_ ?_ ⟨O,O,λi j y v=>?_⟩) ?_)
 ·rintro x c st' y v ⟨rfl,rfl,q⟩;dsimp only;have e:kR ws (OV st') (lo+x-1)=kO ws lo (OV st') (x-1):=by unfold kO;congr 1;lia
  have ne:=Bc C b.perm (lo:=lo) (i:=x) (j:=x-1) (by lia) (by lia) (by lia);refine OY (C.cmpL b (by lia) (by lia) (by lia) ?_);rw[e];by_cases z:kO ws lo (OV st') x<kO ws lo (OV st') (x-1)
  ·rw[show decide (kR ws (OV st') (lo+x)<kO ws lo (OV st') (x-1))=M from ah z];exact O0 ⟨O,O,q.snoc z⟩
  ·rw[show decide (kR ws (OV st') (lo+x)<kO ws lo (OV st') (x-1))=J from ai z];refine OY (C.cmpL b (by lia) (by lia) (by lia) ?_);rw[e,show decide (kO ws lo (OV st') (x-1)<kR ws (OV st') (lo+x))=M from ah (by show kO ws lo (OV st') (x-1)<kO ws lo (OV st') x;lia)];exact O0 ⟨O,x,O,by lia,by lia,q⟩
 ·rintro c st' ⟨rfl,rfl,q⟩;rw[ci (by lia)]at q ⊢;exact⟨O,l,O,by lia,nR1 _,q⟩
 ·have L:i=0:=by lia
  have N:j=1:=by lia
  subst L;subst N;exact P
 ·rintro c st' ⟨rfl,m,rfl,m1,m2,d⟩;dsimp only;rw[aj (by lia)];have B:lo+m<=(OV st').size:=by rw[b.perm.size_eq];lia
  have I:∀k,(mirror (OV st') lo (lo+m) ((lo+m-lo)/2))[k]?=if lo<=k/\k<lo+m then(OV st')[lo+(lo+m)-1-k]? else(OV st')[k]?:=λk=>getElem?_mirror_all B k
  have F:SoL κ a₀ lo st0 (setArr st' (mirror (OV st') lo (lo+m) ((lo+m-lo)/2))):=b.arr (mirror_perm _ _ _ _) λk K=>by rw[I,aj (by lia)]
  have g:∀k,k<m->kO ws lo (mirror (OV st') lo (lo+m) ((lo+m-lo)/2)) k=kO ws lo (OV st') (m-1-k):=λk K=>gX (by
   rw[I,ak (by lia)]
   congr 1;lia)
  refine OY (wpS_reverse (OY (t F (by lia) m2 (λi j D au=>?_) (λx c=>rfl) λn y v u _=>O0 (h n _ F (by lia) v u))));show kO ws lo (mirror (OV st') lo (lo+m) ((lo+m-lo)/2)) i<kO ws lo (mirror (OV st') lo (lo+m) ((lo+m-lo)/2)) j;rw[g i (by lia),g j au];exact d _ _ (by lia) (by lia)
theorem Jc(C:ju prog w A s κ ws a₀){st:OU}{n ok:Nat}{Q:Bool->OU->Prop}(hn:lo+n<=a₀.size)(I:ok<=n)(b:SoL κ a₀ lo st0 st)(u:xJ ws lo (OV st) ok)(h:∀st',SoL κ a₀ lo st0 st'->xJ ws lo (OV st') n->Q M st'):wpS (Mw prog w) A E s (binarySort' lo n ok) Q st:=by
 rw[binarySort'_eq];refine OY (O5 (O2 (λk c st'=>c=(Y,())/\SoL κ a₀ lo st0 st'/\xJ ws lo (OV st') (min k n)) (Q:=λc st'=>c=(Y,())/\SoL κ a₀ lo st0 st'/\xJ ws lo (OV st') n) ?_ ?_ ⟨O,b,λi j h1 h2=>?_⟩) ?_)
 ·rintro k c st' am F ⟨rfl,d,f⟩;rw[bC (by lia)]at f;have v:lo+k<(OV st').size:=by rw[d.perm.size_eq];lia
  refine OY (O5 (O2 (λx c a=>a=st' /\ ∃l r,c=(Y,l,r)/\l<=r/\r<=k/\r-l<=k-x/\(∀i,i<l->kO ws lo (OV st') i<kO ws lo (OV st') k) /\ ∀i,r<=i->i<k->kO ws lo (OV st') k<kO ws lo (OV st') i)
   (Q:=λc a=>a=st' /\ ∃l r,c=(Y,l,r)/\l<=k/\(∀i,i<l->kO ws lo (OV st') i<kO ws lo (OV st') k) /\ ∀i,l<=i->i<k->kO ws lo (OV st') k<kO ws lo (OV st') i) ?_ ?_ ⟨O,0,k,O,by lia,by lia,by lia,λi h1=>by lia,λi h1 h2=>by lia⟩) ?_)
  ·rintro x c a _ L ⟨rfl,l,r,rfl,h1,h2,q,p,o⟩;dsimp only;by_cases z:l>=r
   ·rw[ak z];have e:l=r:=by lia
    subst e;exact O0 ⟨O,l,l,O,h2,p,o⟩
   ·rw[aj z];have K:(l+r)/2<k:=by lia
    refine OY (C.cmpL d (by lia) (by lia) (by lia) ?_);by_cases m:kO ws lo (OV a) k<kO ws lo (OV a) ((l+r)/2)
    ·rw[show decide (kR ws (OV a) (lo+k)<kR ws (OV a) (lo+(l+r)/2))=M from ah m];refine O0 ⟨O,l,(l+r)/2,O,by lia,by lia,by lia,p,λi H G=>?_⟩;by_cases t:(l+r)/2=i
     ·rw[<- t];exact m
     ·exact bi m (f _ i (by lia) G)
    ·rw [show decide (kR ws (OV a) (lo+k)<kR ws (OV a) (lo+(l+r)/2))=false from decide_eq_false m];refine O0 ⟨rfl,(l+r)/2+1,r,rfl,by lia,by lia,by lia,fun i H=>?_,o⟩;have y:kO ws lo (OV a) ((l+r)/2)<kO ws lo (OV a) k:=by
      have:=Bc C d.perm (lo:=lo) (i:=k) (j:=(l+r)/2) (by lia) (by lia) (by lia);lia
     by_cases t:i=(l+r)/2
     ·rw[t];exact y
     ·exact bi (f i _ (by lia) (by lia)) y
  ·rintro c a ⟨rfl,l,r,rfl,h1,h2,q,p,o⟩;have e:l=r:=by lia
   subst e;exact⟨O,l,l,O,h2,p,o⟩
  ·rintro c a ⟨rfl,l,r,rfl,h1,h2,q⟩;show wpS _ _ _ _ (do moveDown' (lo+k) (lo+l);pure (Of (none,()))) _ _;rw [moveDown'_eq];have D:∀ i,(bubble (OV a) (lo+k) (lo+k-(lo+l)))[i]? = if i=lo+l then (OV a)[lo+k]? else if lo+l<i/\i<=lo+k then (OV a)[i-1]? else (OV a)[i]?:=fun i=>by
    have e:=getElem?_bubble v (lo+k-(lo+l)) (by lia) i;rw[show lo+k-(lo+k-(lo+l))=lo+l by lia]at e;exact e
   refine OY (O6 (O0 ⟨O,d.arr (bubble_perm _ _ _) λi hi=>by rw[D,aj (by lia),aj (by lia)],?_⟩));rw[bC (by lia)];have g:∀i,kO ws lo (bubble (OV a) (lo+k) (lo+k-(lo+l))) i=if i=l then kO ws lo (OV a) k else if l<i/\i<=k then kO ws lo (OV a) (i-1)else kO ws lo (OV a) i:=λi=>by
    have e:=D (lo+i);by_cases B:i=l
    ·rw[ak (by lia)]at e;rw[ak B];exact gX e
    ·rw[aj (by lia)]at e;rw[aj B];by_cases m:l<i/\i<=k
     ·rw[ak (by lia)]at e;rw[ak m];refine gX (e.trans ?_)
      congr 1;lia
     ·rw[aj (by lia)]at e;rw[aj m];exact gX e
   intro i j p o;show kO ws lo (bubble (OV a) (lo+k) (lo+k-(lo+l))) i<kO ws lo (bubble (OV a) (lo+k) (lo+k-(lo+l))) j;rw[g,g]
   repeat' split
   all_goals first
    |(exfalso;lia)
    |exact h2 _ (by lia)
    |exact q _ (by lia) (by lia)
    |exact f _ _ (by lia) (by lia)
 ·rintro c st' ⟨hc,d,f⟩;refine⟨hc,d,?_⟩
  rwa [show min (max (max ok 1) n) n=n by lia]at f
 ·by_cases z:ok=0
  ·lia
  ·exact u i j h1 (by lia)
 ·rintro c st' ⟨rfl,d,f⟩;exact O0 (h st' d f)
end
theorem ow:∀{s:Nat} {rs:List (List OS)} {p:List (Nat×Nat×Nat)},ga s rs p->p.length=rs.length
 |_,[],[],_=>rfl
 |_,[],_::_,h=>by cases h
 |_,_::_,[],h=>by cases h
 |s,r::rs,(t,n,pw)::p,⟨_,_,h⟩=>by rw[lC1,lC1,ow h]
theorem pZ:∀{s:Nat} {rs:List (List OS)} {p:List (Nat×Nat×Nat)} {r:List OS} {pw:Nat},ga s rs p->ga s (rs++[r]) (p++[(s+rs.flatten.length,r.length,pw)])
 |_,[],[],_,_,_=>⟨by simp,O,trivial⟩
 |_,[],_::_,_,_,h=>by cases h
 |_,_::_,[],_,_,h=>by cases h
 |s,r::rs,(t,n,pw)::p,r',pw',⟨e1,e2,h⟩=>by
  refine⟨e1,e2,?_⟩;have:=pZ (r:=r') (pw:=pw') h
  rwa [bn,<- lA1,<- c7]at this
theorem tN{g:Nat×Nat×Nat->Nat×Nat×Nat}(hg:∀x,(g x).1=x.1/\(g x).2.1=x.2.1):∀{s:Nat} {rs:List (List OS)} {p:List (Nat×Nat×Nat)} {k:Nat},ga s rs p->ga s rs (p.modify k g)
 |_,[],[],k,_=>by cases k<;>exact trivial
 |_,[],_::_,_,h=>by cases h
 |_,_::_,[],_,h=>by cases h
 |s,r::rs,(t,n,pw)::p,0,⟨e1,e2,h⟩=>by
  obtain⟨b,a⟩:=hg (t,n,pw);show ga s (r::rs) (g (t,n,pw)::p);exact⟨b.trans e1,a.trans e2,h⟩
 |s,r::rs,(t,n,pw)::p,k+1,⟨e1,e2,h⟩=>⟨e1,e2,tN hg h⟩
section
variable{κ:OT}{ws:List dM}{a₀:Array OS}{rs:List (List OS)}{rest:List OS}{st st':OU}
theorem SR.size(h:SR ws κ a₀ rs rest st):rs.flatten.length+rest.length=a₀.size:=by
 have:=congrArg List.length h.ar;rw[aK,h.pm.size_eq,lA1]at this;exact this.symm
theorem SR.many(h:SR ws κ a₀ rs rest st):rs.length<=rs.flatten.length:=by
 have:∀{l:List (List OS)},(∀r∈l,r≠[])->l.length<=l.flatten.length:=by
  intro l
  induction l with
  |nil=>intro _;exact nR1 _
  |cons r l ih=>
   intro a;have h1:=ih λx b=>a x (mC1 _ b);have h2:0<r.length:=c9.mpr (a r mS1);rw[lC1,c7,lA1];lia
 exact this λr a=>(h.so r a).2
theorem SoL.sr(h:SR ws κ a₀ rs rest st)(b:SoL κ a₀ rs.flatten.length st st'):SR ws κ a₀ rs ((OV st').toList.drop rs.flatten.length) st':=by
 refine⟨b.kind,b.failed.trans h.f,b.perm,?_,h.so,by rw[b.pend];exact h.pe⟩;have:(OV st').toList.take rs.flatten.length=rs.flatten:=by
  have e:(OV st).toList.take rs.flatten.length=rs.flatten:=by rw[h.ar,db]
  rw[<- e];refine b5 λi=>?_;by_cases hi:i<rs.flatten.length
  ·rw[e,aV hi,<- e,aV hi,aT1,aT1];exact b.pre i hi
  ·rw[e,b6 (by rw[aT];lia),b6 (by lia)]
 conv=>lhs;rw[<- cF rs.flatten.length (OV st').toList,this]
theorem wp{lo n:Nat}(hp:(OV st').Perm a₀)(hn:lo+n<=a₀.size)(u:xJ ws lo (OV st') n):Srt ws (((OV st').toList.drop lo).take n):=by
 refine cC.mpr λi j hi b a=>?_;rw[aT,aX]at hi b;have:=u i j a (by lia);have c:=hp.size_eq;rw[aK]at hi b;unfold kO kR at this;rw[aG1 (show lo+i<(OV st').size by lia),aG1 (show lo+j<(OV st').size by lia)]at this;simpa using this
theorem JF(C:ju prog w A s κ ws a₀){Q:Unit->OU->Prop}(S:SR ws κ a₀ [] a₀.toList st)(h2:2<=a₀.size)(q:∀st',(OV st').Perm a₀->OW st'=Y->Srt ws (OV st').toList->Q () st'):wpS (Mw prog w) A E s sortRuns' Q st:=by
 rw[sortRuns'_eq];refine OY (OZ ?_);dsimp only;generalize minRun' (OV st).size (OV st).size 0=mr;rw[S.pm.size_eq];refine OY (O5 (O2 (λx c st'=>∃rs rest,SR ws κ a₀ rs rest st'/\c=(Y,rs.flatten.length)/\x<=rs.flatten.length)
  (Q:=λc st'=>∃rs lo,SR ws κ a₀ rs [] st'/\c=(Y,lo)) ?_ ?_ ⟨[],a₀.toList,S,O,nR1 _⟩) ?_)
 ·rintro x c st' _ hx ⟨rs,rest,h,rfl,L⟩;have B:=h.size;dsimp only;by_cases z:rs.flatten.length>=a₀.size
  ·rw[ak z];have e:rest=[]:=cs.mp (by lia);subst e;exact O0 ⟨rs,_,h,O⟩
  rw[aj z];refine OY (Ip (lo:=rs.flatten.length) (st0:=st') C (by lia) (by lia) ⟨h.pm,h.k,O,O,λ_ _=>rfl⟩ λm st2 b m1 m2 u=>?_);dsimp only;have y:=b.sr h;have T:=y.size;refine(λ(t:∀(n:Nat) (j:OU) (a:List OS),SR ws κ a₀ rs a j->Srt ws (a.take n)->1<=n->n<=a.length->(?T:Nat->OU->Prop) n j)=>?go) ?mn
  case go=>
   by_cases aq:m<mr
   ·rw[ak aq];refine OY (O1 (Nb ⟨O,?_⟩));refine OY (Jc (lo:=rs.flatten.length) (st0:=st') C (n:=min (a₀.size-rs.flatten.length) mr) (by lia) (by lia) b u λj b3 u3=>?_);simp only[b7,bF1,NJ];have I:=b3.sr h;have V:=I.size;have o:=wp b3.perm (by lia) u3;have W:1<=min (a₀.size-rs.flatten.length) mr:=by lia
    have F:min (a₀.size-rs.flatten.length) mr<=((OV j).toList.drop rs.flatten.length).length:=by lia
    generalize min (a₀.size-rs.flatten.length) mr=n at o W F ⊢;exact t n j _ I o W F
   ·rw[aj aq];have o:=wp b.perm (by lia) u;have F:m<=((OV st2).toList.drop rs.flatten.length).length:=by lia
    generalize hst:st2=j at y o F ⊢;generalize hmn:m=n at o m1 F ⊢;exact t n j _ y o m1 F
  intro n j a K hs n1 au;refine OY (OZ ?_);have U:=K.size;refine(λ(p:∀(f:List (List OS)) (d:OU),SR ws κ a₀ f a d->(?T2:OU->Prop) d)=>?go2) ?mn2
  case go2=>
   cases hb:(OX j).back? with
   |none=>
    dsimp only;exact p rs j K
   |some q1=>
    obtain⟨wq,v,pw1⟩:=q1;dsimp only;generalize power' a₀.size (2*wq+v) (2*wq+v+v+n) a₀.size=pv;refine OY (O5 (O2 (λx c d=>c=(Y,()) /\ ∃f,SR ws κ a₀ f a d) (Q:=λc d=>c=(Y,()) /\ ∃f,SR ws κ a₀ f a d) ?_ (λ_ _ h=>h) ⟨O,rs,K⟩) ?_)
    ·rintro x c d _ hx ⟨rfl,f,k⟩;have D:=ow k.pe;rw[aK]at D;refine OY (OZ ?_);by_cases hz:(OX d).size>1
     ·rw[ak hz,aG1 (show(OX d).size-2<(OX d).size by lia)];generalize (OX d)[(OX d).size-2]'(by lia)=pq;obtain⟨pa,pb,pc⟩:=pq;dsimp only;by_cases X:pc<=pv
      ·rw[ak X];exact O0 ⟨O,f,k⟩
      ·rw[aj X];refine OY (k.merge C (i:=(OX d).size-2) (gG1 (by lia)) (gG1 (by lia)) λr l G=>?_);simp only[b7,bF1,NJ];exact O0 ⟨O,_,G⟩
     ·rw[aj hz];exact O0 ⟨O,f,k⟩
    ·rintro c d ⟨rfl,f,k⟩;dsimp only;refine OY (O6 ?_);refine p f _ ⟨k.k,k.f,k.pm,k.ar,k.so,?_⟩;show ga 0 f ((OX d).modify ((OX d).size-1) _).toList;rw[Array.toList_modify];exact tN (g:=λx=>(x.1,x.2.1,pv)) (λx=>⟨O,O⟩) k.pe
  intro f d k;have R:=k.size;have H:rs.flatten.length=f.flatten.length:=by lia
  refine OY (O6 (O0 ⟨f++[a.take n],a.drop n,⟨k.k,k.f,k.pm,?_,?_,?_⟩,?_,?_⟩))
  ·refine k.ar.trans ?_;rw[da,bJ];simp
  ·intro r am;rcases aG.mp am with N|N
   ·exact k.so r N
   ·rw[cA.mp N];exact⟨hs,λe=>by have:=congrArg List.length e;rw[aT,bg]at this;lia⟩
  ·show ga 0 _ ((OX d).push (rs.flatten.length,n,0)).toList;rw[cu,H];have:=pZ (r:=a.take n) (pw:=0) k.pe
   rwa [bQ,aT,bC au]at this
  ·rw[da,lA1,H,List.flatten_singleton,aT,bC au]
  ·rw[da,lA1,List.flatten_singleton,aT,bC au];lia
 ·rintro c st' ⟨rs,rest,h,rfl,L⟩;have B:=h.size;have e:rest=[]:=cs.mp (by lia);subst e;exact⟨rs,_,h,O⟩
 ·rintro c st' ⟨rs,lo,h,rfl⟩;dsimp only;have B:=h.size;rw[bg,c0]at B;have ao:=h.many;refine OY (O5 (O2 (λx c st2=>c=(Y,()) /\ ∃rs,SR ws κ a₀ rs [] st2/\rs.length+x<=a₀.size) (Q:=λc st2=>c=(Y,()) /\ ∃rs,SR ws κ a₀ rs [] st2/\rs.length<=1) ?_ ?_ ⟨O,rs,h,by lia⟩) ?_)
  ·rintro x c st2 _ hx ⟨rfl,rs,h,P⟩;have D:=ow h.pe;rw[aK]at D;refine OY (OZ ?_);by_cases z:(OX st2).size<=1
   ·rw[ak z];exact O0 ⟨O,rs,h,by lia⟩
   rw[aj z];have mg:∀i,i+1<rs.length -> ∀{Q:Bool->OU->Prop},(∀r l,SR ws κ a₀ r [] l->r.length+1=rs.length->Q M l)->wpS (Mw prog w) A E s (mergeAt' i) Q st2:=λi hi Q hq=>
    h.merge C (i:=i) (gG1 (by lia)) (gG1 hi) λr l G=>hq _ l G (by rw[lA1,lC1,aT,aX];lia)
   refine OY (mg _ ?_ λr l G hl5=>?_)
   ·split<;>lia
   ·simp only[b7,bF1,NJ];exact O0 ⟨O,r,G,by lia⟩
  ·rintro c st2 ⟨rfl,rs,h,P⟩;exact⟨O,rs,h,by lia⟩
  ·rintro c st2 ⟨rfl,rs,h,P⟩;refine O0 (q st2 h.pm h.f ?_);rw[h.ar,aP]
   match rs,P,h.so with
   |[],_,_=>exact .nil
   |[r],_,so=>simpa using(so r (by simp)).1
end
theorem Fg{ws:List dM}{xs a₀:Array OS}(p:xs.Perm a₀)(h:Srt ws xs.toList):Up ws xs a₀.size:=λi j a b=>by
 have c:=p.size_eq;have:=cC.mp h i j (by rw[aK];lia) (by rw[aK];lia) a;unfold kR;rw[aG1 (show i<xs.size by lia),aG1 (show j<xs.size by lia)];simpa using this
theorem zG {a:dP}{vs ws:List dM}{n:Nat}{κ:OT}{P:Fin->dN->Prop}(ho:s.heap.get? a=some (Pb "list" vs.toArray n))(hz:vs.length<=dW)(hp:vs.Perm ws)
  (t:∀h',(∀b o,b≠a->s.heap.get? b=Z o->h'.get? b=Z o)->2<=vs.length->ju prog w A {s with heap:=h'} κ ws (O7 vs) /\ ∀Q:OT->dN->Prop,Q κ {s with heap:=h'}->dX (Mw prog w) A (keyKind' vs.toArray) Q E {s with heap:=h'})
  (h:P (.done (.ret .none)) {s with heap:=Pc s.heap a vs ws.toArray}):dX (Mw prog w) A (Builtin.«list.sort» ⟨[.ref a],[]⟩) P E s:=by
 rw[list_sort_plain];have u:a<s.heap.objs.size:=hL1 ho;refine wB1 (Pa ho O ?_);refine wB1 (Pd ho O ?_);obtain⟨i,g⟩:∃i,(s.heap.update a (NV λ_=> #[])).get? a=some (Pb "list" #[] i):=⟨_,get?_update_seq ho (λ_=> #[])⟩;refine wB1 (Pe g O (wB1 (Op (wB1 (Pf (M7 ?_))))));have keep:∀b o,b≠a->s.heap.get? b=Z o->(((s.heap.update a (NV λ_=> #[])).push (Pb "tuple" vs.toArray 0)).push (Pb "list" #[] 0)).get? b=Z o:=λb o l e=>
  hP1 _ (hP1 _ (by rw[hU1 _ _ _ _ l];exact e))
 have c:(((s.heap.update a (NV λ_=> #[])).push (Pb "tuple" vs.toArray 0)).push (Pb "list" #[] 0)).get? a=Z (Pb "list" #[] i):=hP1 _ (hP1 _ g);show dX (Mw prog w) A _ P E {s with heap:=((s.heap.update a (NV λ_=> #[])).push (Pb "tuple" vs.toArray 0)).push (Pb "list" #[] 0)};dsimp only;have m:vs.toArray.size=vs.length:=by simp
 have f:=hp.length_eq;have d:∀xs:Array OS,xs.map (·.2)=ws.toArray->P (.done (.ret .none)) {s with heap:=Pc s.heap a vs (xs.map (·.2))}:=λxs e=>by rw[e];exact h
 by_cases h2:vs.toArray.size<2
 ·rw [if_pos h2,if_pos h2];refine wB1 (wP1 ?_);rw [StateT.run_pure];refine wB1 (wP1 (wB1 (Pe c rfl ?_)));have e:((vs.toArray.zip vs.toArray).map (·.2):Array dM)=ws.toArray:=by
   have:vs=ws:=by
    match vs,ws,hp,h2 with
    |[],ws,hp,_=>exact(List.nil_perm.mp hp).symm
    |[x],ws,hp,_=>exact(List.singleton_perm.mp hp).symm ▸ rfl
    |_::_::_,_,_,h2=>simp at h2;lia
   subst this;apply Array.ext';simp;exact List.map_snd_zip (nR1 _)
  refine wB1 (Pd c O ?_ (hsz2:=by
   show(Array.map (·.2) (vs.toArray.zip vs.toArray)).size<=_;rw[e,sT1,<- f];lia))
  simp only[Pg,bF1,NJ];exact wP1 (d _ e)
 ·rw [if_neg h2,if_neg h2];obtain ⟨C,K⟩:=t _ keep (by lia);refine wB1 (K _ ?_);refine wB1 (MU (JF C (st:=Ph κ (vs.toArray.zip vs.toArray) #[] 7 none)
   (Q:=λ_ st'=>(OV st').Perm (O7 vs)/\OW st'=Y/\Srt ws (OV st').toList) ⟨O,O,Array.Perm.refl _,O,(λr k=>by cases k),trivial⟩ (by rw[pairsOf_size];lia) λst' a1 a2 a3=>⟨a1,a2,a3⟩) ?_ λ_ _ e=>e)
  rintro⟨⟨⟩,st'⟩ s' ⟨rfl,j,p,q⟩;have e:=zI C j (Fg j q);refine wB1 (Pe c O ?_);refine wB1 (Pd c O ?_ (hsz2:=by
   show(Array.map (·.2) (OV st')).size<=_;rw[e,sT1,<- f];lia))
  rw[p];simp only[Pg,bF1,NJ];exact wP1 (d _ e)
theorem vm {v:dM}{vs ws:List dM}{κ:OT}{Q:dM->dN->Prop}(hz:vs.length<=dW)(f:vs.Perm ws)
  (d:∀(E:dM->dN->Prop) (Q:List dM->dN->Prop),(∀h',(∀b u,s.heap.get? b=Z u->h'.get? b=Z u)->s.heap.objs.size<=h'.objs.size->Q vs {s with heap:=h'})->dX (Mw prog w) A.in1 (collect v) Q E s)
  (l:∀a:dZ,(∀b u,s.heap.get? b=Z u->a.get? b=Z u)->ju prog w A.in1.in1 {s with heap:=a} κ ws (O7 vs) /\
   (vs≠[] -> ∀(E:dM->dN->Prop) (Q:OT->dN->Prop),Q κ {s with heap:=a}->dX (Mw prog w) A.in1.in1 (keyKind' vs.toArray) Q E {s with heap:=a}))
  (g:∀(a:dZ) (L:dP) (n:Nat),(∀b u,s.heap.get? b=Z u->a.get? b=Z u)->s.heap.objs.size<=L->a.get? L=Z (Pb "list" ws.toArray n)->Q (.ref L) {s with heap:=a}):
  dX (Mw prog w) A (call (.builtin "sorted") [v]) Q E s:=by
 refine Calls.call_function_entry kind_sorted plain_sorted entry_sorted (args_sorted1 _) ?_;unfold Builtin.«sorted»;refine wB1 (m:=checkCount "sorted" 1 1 _) (wP1 ?_);refine wB1 (d _ _ λh' keep h=>?_);refine wB1 (Pf (hsz:=hz) ?_);have c:(h'.push (Pb "list" vs.toArray 0)).get? h'.objs.size=Z (Pb "list" vs.toArray 0):=hS1 _ O;show dX _ _ _ _ _ {s with heap:=h'.push (Pb "list" vs.toArray 0)};refine wB1 (M7 (wE1 slot_list_sort ⟨_,c,O⟩ entry_list_sort (zG (s:={s with heap:=h'.push (Pb "list" vs.toArray 0)}) (κ:=κ) (ws:=ws) c hz f (λa k h2=>?_) ⟨_,O,?_⟩) (args_list_sort _)))
 ·have:=l a λb u e=>k b u (nN1 (hL1 (keep b u e))) (hP1 _ (keep b u e));exact⟨this.1,this.2 (λz=>by rw[z]at h2;simp at h2) _⟩
 ·obtain⟨n,i⟩:=sortedHeap_at (out:=ws.toArray) c;refine wP1 ⟨_,O,g _ h'.objs.size n (λb u e=>?_) h i⟩;have j:b<h'.objs.size:=hL1 (keep b u e);show(Pc (h'.push (Pb "list" vs.toArray 0)) h'.objs.size vs ws.toArray).get? b=Z u;rw[sortedHeap_old (nN1 j) (by rw[hZ1];exact cB j)];exact hP1 _ (keep b u e)
section
variable{P:dQ}{w:dS}{A:dR}{E:dM->dN->Prop}{s:dN}
variable{K:Type} [DecidableEq K] {knd:HeapKind P w K}
end
section
variable{ag:List (dP×Obj)}{σ:L2.St}{H:Hp}{s:dN}{mu:List dP}
end
section
variable{K:Fg1}{H:Hp}{mu nu:List dP}{a:dP}{h:Nat}
end
section
variable{ag:List (dP×Obj)}{σ:L2.St}{H:Hp}{s:dN}{mu:List dP}{S:d7}
end
open AutoSeq1 (wpAny_loadPart')
section
variable{P:dQ}{w:dS}{A:dR}{E:dM->dN->Prop}{s:dN}
end
section
variable{ag:List (dP×Obj)}{σ:L2.St}{H:Hp}{s:dN}{mu:List dP}
end
open PySem.SeqAt
open PySem.AutoSeq1 (wpAny_loadPart')
open PySem.MeetsSeq PySem.MeetsSeq2 PySem.MeetsSeq3
def En(A:dR)(s:dN)(y x:dM)(b:Bool):Prop:=∀(prog:dQ) (w:dS) (E:dM->dN->Prop) (Q:dM->dN->Prop),Q (.bool b) s->dX (Mw prog w) A (OD .GtE y x) Q E s
inductive Ca (A:dR)(s:dN):List dM->List dM->Bool->Prop
 |nn:Ca A s [] [] true
 |nc (y:dM) (ys:List dM):Ca A s [] (y::ys) false
 |cn (x:dM) (xs:List dM):Ca A s (x::xs) [] true
 |eq {x y:dM} {xs ys:List dM} {k:Bool} (e:EqAt A.in1 s x y true) (t:Ca A s xs ys k):Ca A s (x::xs) (y::ys) k
 |lt {x y:dM} {xs ys:List dM} {k:Bool} (e:EqAt A.in1 s x y false) (t:En A.in1 s x y k):Ca A s (x::xs) (y::ys) k
theorem E6(l b:dP)(items items2:Array dM)(n H:Nat)(z p:Option dP)(E o:Array (Option dM))(c:Bool):
  Meets (Builtin.«tuple.__ge__» ⟨[.ref l,.ref b],[]⟩) (fun A R s=>s.heap.get? l=some {cls:=.type "tuple",dict:=z,data:=.seq items n,slots:=E}/\s.heap.get? b=some {cls:=.type "tuple",dict:=p,data:=.seq items2 H,slots:=o} /\
    Ca A s items.toList items2.toList c/\R (.ok (.ret (.bool c))) s):=
 .of_wp λprog w A R s h=>by
  obtain⟨u,g,d,tk,v⟩:=s;obtain⟨G,B,D,h⟩:=h;have I:=AutoSeq1.sub_tuple_tuple
  wp_walk using wpAny_loadPart' G,wpAny_loadPart' B,OE _ (λrest b s'=>b.1=Y/\s'=⟨u,g,d,tk,v⟩ /\ ∃vs ws:List dM,rest=vs.zip ws/\Ca A ⟨u,g,d,tk,v⟩ vs ws c/\vs.length+items2.size=ws.length+items.size) _
  case turn=>
   rintro⟨y,x⟩ rest b s' ⟨k,rfl,vs,ws,f,q,a⟩;cases q with
   |nn=>cases f
   |nc _ _=>cases f
   |cn _ _=>cases f
   |eq e t=>
    rw[bW]at f;injection f with j i;injection j with m r;subst m r
    simp only[lC1]at a;refine wB1 (e prog w _ _ ?_)
    wp_walk
    exact⟨O,O,_,_,i,t,by lia⟩
   |lt e t=>
    rw[bW]at f;injection f with j i;injection j with m r;subst m r
    refine wB1 (e prog w _ _ ?_);have F:=t prog w
    wp_walk using F
    exact⟨_,O,by simpa using h⟩
  case fin=>
   rintro⟨b1,b2⟩ s' ⟨k,rfl,vs,ws,f,q,a⟩;simp only at k;subst k;have C:c=decide (items2.size<=items.size):=by
    cases q with
    |nn=>simp only[bg]at a;exact(ah (by lia)).symm
    |nc _ _=>simp only[bg,lC1]at a;exact(ai (by lia)).symm
    |cn _ _=>simp only[bg,lC1]at a;exact(ah (by lia)).symm
    |eq _ _=>rw[bW]at f;cases f
    |lt _ _=>rw[bW]at f;cases f
   rw[C]at h
   wp_walk
   exact⟨_,O,by simpa[Builtin.Tuple.tupleCompareSizes]using h⟩
  case h=>exact⟨O,O,items.toList,items2.toList,O,D,by simp;lia⟩
theorem Fv{A:dR}{s:dN}{l b:dP}{xs ys:Array dM}{c:Bool}(v:SCo false s.heap l xs)(z:SCo false s.heap b ys)(t:A.units<Nv)(h:Ca A s xs.toList ys.toList c):En A s (.ref l) (.ref b) c:=fun prog w E Q q=>by
  obtain⟨⟨y,p,k,r⟩,j,hc,n,m⟩:=id v;obtain⟨⟨o,i,f,g⟩,e,a,u,d⟩:=id z;simp only at hc m a d;subst hc m a d;exact OH (op:=.GtE) ⟨_,j,O⟩ ⟨_,e,O⟩ PySem.F.slot_tuple_ge PySem.F.entry_tuple_ge (PySem.F.args_tuple_ge_2 _ _) (E6 l b xs ys n u p i r g c) ⟨j,e,h,show ae c≠OI/\Q (.bool c) s from⟨(λx=>nomatch x),q⟩⟩ t
noncomputable def Ka:D->D->Option Bool
 | .int i,.int j=>Z (decide (j<=i))
 |_,_=>Y
def Hh(f:D->D->Option Bool):List D->List D->Option Bool
 |[],[]=>Z M
 |[],_::_=>Z J
 |_::_,[]=>Z M
 |x::xs,y::ys=>(f x y).bind λb=>if b=M then Hh f xs ys else Ka x y
def D9:G2:=λd e S=>match d,e with
 | .tup xs,.tup ys=>(Hh (hL S 59) xs ys).map λb=>(.bl b,S)
 |_,_=>(Ka d e).map λb=>(.bl b,S)
section
variable{ag:List (dP×Obj)}{σ:L2.St}{H:Hp}{s:dN}{mu:List dP}{S:d7}
theorem Bs{A:dR}{d e:D}{v w:V}{u z:dM}{b:Bool}(g:fc X.K H mu d v)(i:fc X.K H mu e w)(a:eu v u)(c:eu w z)(h:Ka d e=Z b):En A s u z b:=by
 unfold Ka at h;split at h
 ·cases h;cases g;cases i;obtain⟨t,rfl⟩:=a;obtain⟨f,rfl⟩:=c;exact λprog w E Q q=>(PyProof.Rows.ge_int q:dX (Mw prog w) A (Nn .GtE (.int _ t) (.int _ f)) Q E s)
 ·cases h
theorem Hg(I:Inv X ag σ H s)(hs:Sim X.K H mu S){n:Nat}{A:dR}(m:A.units+1+n<Nv):
  ∀{xs ys:List D} {vs ws:List V} {d zs:List dM} {b:Bool},ej X.K H mu xs vs->ej X.K H mu ys ws->eG vs d->eG ws zs->Hh (hL S n) xs ys=Z b->Ca A s d zs b
 :=by
 intro xs
 induction xs with
 |nil=>
  intro ys vs ws d zs b a r2 e c h;cases a;cases e;cases r2 with
  |nil=>cases c;cases h;exact .nn
  |cons _ _=>cases c;cases h;exact .nc _ _
 |cons x xs i=>
  intro ys vs ws d zs b a r2 e c h;cases a with
  |cons a j=>
   cases e with
   |cons f o=>
    cases r2 with
    |nil=>cases c;cases h;exact .cn _ _
    |cons r2 l=>
     cases c with
     |cons g p2=>
      rw[Hh]at h;obtain⟨k,p,h⟩:=PC h;have eq:=(k9 I hs n (A:=A.in1) m a r2 f g p).1;cases k with
      |true=>exact .eq eq (i j l o p2 h)
      |false=>exact .lt eq (Bs a r2 f g h)
theorem IN(am:X.A.units+64<Nv):gJ X (Nn .GtE) (r2 X.K (b2 D9)):=by
 intro ag s σ H x y u w Q I l p h;obtain⟨mu,S,d,e,r,E,m,r2,g,c,hc⟩:=u4 h;have f:∀b,En X.A s u w b->r = .bl b->E=S->dX (Mw X.prog X.w) X.A (Nn .GtE u w) (EP X ag σ Q) X.xe s:=λb h1 h2 G=>by
  subst h2;subst G;exact h1 X.prog X.w X.xe _ ⟨.bl b,H,I,O,hc.now (.bl b) g⟩
 unfold D9 at c;split at c
 ·rename_i xs ys;obtain⟨b,i,c⟩:=PD c;cases c;obtain⟨a,vs,rfl,D,v⟩:=er m g (show eg S (.tup xs)=Z (J,xs)from rfl);obtain⟨a2,z,rfl,F,q⟩:=er r2 g (show eg S (.tup ys)=Z (J,ys)from rfl);cases l;cases p;obtain⟨C,B,t,_⟩:=fg I D;obtain⟨o,k,j,_⟩:=fg I F;refine f b (Fv t j (by lia) ?_) O O;have:=Hg I g (A:=X.A) (n:=59) (by lia) v q B k i;simpa using this
 ·obtain⟨b,i,c⟩:=PD c;cases c;exact f b (Bs m r2 l p i) O O
end
def me:G1:=λd S=>match d with
 | .ref n=>(S[n]?).bind fun ob=>(A9 ob).bind fun kvs=>(sm (kvs.map fun p=>lA p.1)).bind fun _=>
   if(m9 (lC (kvs.map λp=>lA p.1))&&decide (kvs.length<=100000))=M then Z (.ref S.length,S++[.lst (lC (kvs.map λp=>lA p.1))])else Y
 |_=>Y
theorem BK(j:X.calm=M)(hu:X.A.units+64<Nv):fi X (.builtin "sorted") (rN X.K (b1 me)):=by
 intro ag s σ H xs us Q I r h;obtain⟨x,mu,S,d,r',S',rfl,C,i,b,hc⟩:=xZ h;unfold me at b;split at b
 ·rename_i n;obtain⟨ob,G,b⟩:=PC b;obtain⟨kvs,wq,b⟩:=PC b;obtain⟨f,y,b⟩:=PC b;split at b
  ·rename_i c;cases b;rw[bA1,al]at c;obtain⟨u,rfl,r2⟩:=iO r;cases C with
   | @ref _ a B=>
   cases r2;obtain⟨ws,w,K,W,m,hz,_⟩:=DT i G wq B;obtain⟨o,N,au⟩:=Hn I K W;obtain⟨am,g2,v,es,ep,P,p⟩:=au;have e:kvs.length=ws.length:=by have:=m.keys.length;simpa using this
   have U:es.size=ws.length:=by rw[<- aK,p,lM1]
   have F:eG (ws.map λx=>V.ref x.2.1) (es.toList.map (·.key)):=by
    rw[p,bv];exact pS ws
   obtain⟨k,zs,R,aq,D,z,T⟩:=Fj I i (A:=X.A.in1.in1) (by show X.A.units+1+1+60<Nv;lia) (f:=f) m.keys F (tK kvs) (vQ y) c.1;have hl:(es.toList.map (·.key)).length<=dW:=by rw[lM1,aK,Nq];lia
   refine vm hl D (λE Q q=>vK (A:=X.A.in1) (I.ok.hd j) am N v.1 P (by rw[Nq];lia) q) T (λao L n keep t l=>?_);have g:H L=Y:=I.hok.fresh t;refine⟨.ref L,_,I.laid (t':=s.toks) (o:=.lst k) keep t ⟨?_,zs,n,aq,l⟩,O,hc _ _ (mu++[L]) (Ext.new_ g) (.ref (gA i.len _)) (i.newL R g)⟩;rw[z,lM1,<- e,Nq];lia
  ·cases b
 ·cases b
section
variable{prog:dQ}{w:dS}{A:dR}{R:Result->dN->Prop}{I S:dP}{fp wr:List dP}{n:Nat}{P:Nat->dM->Prop}{St:Nat->dZ->Prop}{bt:Nat->Nat->Bool}{Kp:dN->Prop}
theorem sg {E:dM->dN->Prop}{s:dN}{xs:Array dM}{c:Nat}{Q:Option (Array dM)->dN->Prop}(a:s.heap.get? S=Z {cls:=.type "list",data:=.seq xs c})(q:Q (Z xs) s):dX (Mw prog w) A (seqItems? (.ref S)) Q E s:=by
 unfold seqItems?
 wp_walk using PySem.AutoSeq1.wpAny_loadPart' a
 exact q
theorem yg(hw:Walks prog w A.in1 I fp wr n P St)(p:S∉fp)(am:∀ (s:dN) h' tk,Kp s->(∀ b o,b∉wr->b≠S->s.heap.get? b=some o->h'.get? b=some o)->Kp {s with heap:=h',toks:=tk})(cmp:∀i j K H (s:dN),Kp s->P i K->P j H -> ∀Q E,Q (.bool (bt i j)) s->dX (Mw prog w) A.in1 (OD .Lt K H) Q E s):
  ∀(k j:Nat) (s:dN) (vb:dM) (c:Nat),n-(j+1)=k->j+1<=n->St (j+1) s.heap->P (Pu bt j) vb->Kp s->s.heap.get? S=Z {cls:=.type "list",data:=.seq #[vb,vb] c} ->
   (∀(v:dM) (h':dZ) (tk:Nat),P (Pu bt (n-1)) v->(∀b o,b∉wr->b≠S->s.heap.get? b=Z o->h'.get? b=Z o)->R (.ok (.ret v)) {s with heap:=h',toks:=tk}) ->
   dY (Mw prog w) A (.builtin "min.loop" ⟨[.ref I,.none,.ref S],[]⟩) R s:=by
 intro k
 induction k with
 |zero=>
  intro j s vb c ao U m u r t f;refine wD1 F.entry_min_loop ?_;rw[OG Pv _];unfold Builtin.«min.loop»;refine wB1 (sg t ?_);refine wB1 (Pw ?_);have au:n=j+1:=by lia
  refine hw.done s _ _ (by rw[au];exact m) λh' tk keep=>?_;have g:h'.get? S=Z {cls:=.type "list",data:=.seq #[vb,vb] c}:=keep S _ (λz=>p (hw.sub S z)) t;dsimp only;refine wB1 (Pm (s:={s with heap:=h',toks:=tk}) g O ?_);refine wB1 (Ot ?_);refine wP1 ?_;rw[show n-1=j by lia]at f;exact f _ _ _ u λb o d a e=>by
   show(h'.update S _).get? b=Z o;rw[hU1 _ _ _ _ a];exact keep b o d e
 |succ k ih=>
  intro j s vb c ao U m u r t f;refine wD1 F.entry_min_loop ?_;rw[OG Pv _];unfold Builtin.«min.loop»;refine wB1 (sg t ?_);refine wB1 (Pw ?_);refine hw.item (j+1) s _ _ (by lia) m λv h' tk L h keep=>?_;have g:h'.get? S=Z {cls:=.type "list",data:=.seq #[vb,vb] c}:=keep S _ (λz=>p (hw.sub S z)) t;have l:Kp {s with heap:=h',toks:=tk}:=am _ _ _ r λb o d _ e=>keep b o d e;dsimp only;refine wB1 (wP1 ?_);refine wB1 (Pw (M7 ?_));refine wB1 (cmp (j+1) (Pu bt j) v vb {s with heap:=h',toks:=tk} l L u _ _ ?_);refine wB1 (M7 (MV ?_));refine wB1 (Ot ?_);refine wP1 ?_;have T:∀(h2:dZ),(∀b o,b≠S->h'.get? b=Z o->h2.get? b=Z o) -> ∀b o,b∉wr->b≠S->s.heap.get? b=Z o->h2.get? b=Z o:=λh2 e b o d a N=>e b o a (keep b o d N);cases d:bt (j+1) (Pu bt j)with
  |true=>
   rw[ak O];have G:P (Pu bt (j+1)) v:=by rw[Pu,d];exact L
   refine wB1 (Pm (s:={s with heap:=h',toks:=tk}) g O ?_);refine wB1 (Ot ?_);have C:=hW1 (NV λ_=> #[v,v]) g O;have B:∀b o,b≠S->h'.get? b=Z o->(h'.update S (NV λ_=> #[v,v])).get? b=Z o:=λb o a e=>by rw[hU1 _ _ _ _ a];exact e
   refine wP1 ⟨OF Pv _,ih (j+1) {s with heap:=h'.update S (NV λ_=> #[v,v]),toks:=tk} v _ (by lia) (by lia) (hw.frame _ _ _ h λb d o e=>B b o (λz=>p (z ▸ d)) e) G (am _ _ _ r (T _ B)) C λy h2 q D x=>f y h2 q D λb o d a e=>x b o d a (B b o a (keep b o d e))⟩
  |false=>
   rw[aj (by decide)];have G:P (Pu bt (j+1)) vb:=by rw[Pu,d];exact u
   refine wB1 (Ot ?_);refine wP1 ⟨OF Pv _,ih (j+1) {s with heap:=h',toks:=tk} vb c (by lia) (by lia) h G l g λy h2 q D x=>f y h2 q D λb o d a e=>x b o d a (keep b o d e)⟩
theorem vF (hw:Walks prog w A.in1 I fp wr n P St)(d:S∉fp)(x:0<n)(u:∀ (s:dN) h' tk,Kp s->(∀ b o,b∉wr->b≠S->s.heap.get? b=some o->h'.get? b=some o)->Kp {s with heap:=h',toks:=tk})
  (cmp:∀i j y t (s:dN),Kp s->P i y->P j t -> ∀Q E,Q (.bool (bt i j)) s->dX (Mw prog w) A.in1 (OD .Lt y t) Q E s) {s:dN} {c:Nat} (k:St 0 s.heap) (r:Kp s)
  (B:s.heap.get? S=Z {cls:=.type "list",data:=.seq #[] c})
  (m:∀(v:dM) (h':dZ) (tk:Nat),P (Pu bt (n-1)) v->(∀b o,b∉wr->b≠S->s.heap.get? b=Z o->h'.get? b=Z o)->R (.ok (.ret v)) {s with heap:=h',toks:=tk}):
  dY (Mw prog w) A (.builtin "min.loop" ⟨[.ref I,.none,.ref S],[]⟩) R s:=by
 refine wD1 F.entry_min_loop ?_;rw[OG Pv _];unfold Builtin.«min.loop»;refine wB1 (sg B ?_);refine wB1 (Pw ?_);refine hw.item 0 s _ _ x k λv h' tk G g keep=>?_;have h:h'.get? S=Z {cls:=.type "list",data:=.seq #[] c}:=keep S _ (λz=>d (hw.sub S z)) B;dsimp only;refine wB1 (wP1 ?_);refine wB1 (Pm (s:={s with heap:=h',toks:=tk}) h O ?_);have p:=hW1 (NV λ_=> #[v,v]) h O;have l:∀b o,b≠S->h'.get? b=Z o->(h'.update S (NV λ_=> #[v,v])).get? b=Z o:=λb o a e=>by rw[hU1 _ _ _ _ a];exact e
 refine wP1 ⟨OF Pv _,yg hw d u cmp (n-1) 0 {s with heap:=h'.update S (NV λ_=> #[v,v]),toks:=tk} v _ O x (hw.frame _ _ _ g λb f o e=>l b o (λz=>d (z ▸ f)) e) G (u _ _ _ r λb o f a e=>l b o a (keep b o f e)) p λD h2 q H C=>m D h2 q H λb o f a e=>C b o f a (l b o a (keep b o f e))⟩
theorem yh{E:dM->dN->Prop}{s:dN}{l:dP}{items:Array dM}{Q:dM->dN->Prop}(x:A.handled=none)(q:s.heap.IsList l items)(z:0<items.size)(cmp:∀i j g f h' tk,(∀b o,s.heap.get? b=some o->h'.get? b=some o)->items[i]?=some g->items[j]?=some f -> ∀Q E,Q (.bool (bt i j)) {s with heap:=h',toks:=tk}->dX (Mw prog w) A.in1 (OD .Lt g f) Q E {s with heap:=h',toks:=tk})(p:∀(v:dM) (h':dZ) (tk:Nat),items[Pu bt (items.size-1)]?=some v->(∀b o,s.heap.get? b=some o->h'.get? b=some o)->Q v {s with heap:=h',toks:=tk}):
  dX (Mw prog w) A (call (.builtin "min") [.ref l]) Q E s:=by
 have n:l<s.heap.objs.size:=by
  obtain⟨o,m,_⟩:=id q;exact hL1 m
 refine call_function_any F.kind_min F.plain_min F.entry_min (F.args_min1 _) ?_;unfold Builtin.«min»;refine wB1 ?_;refine wP1 (a:=[Y,Y]) ?_;dsimp only;refine wB1 (wP1 ?_);refine wB1 (wpAny_pyIter_list q ?_);refine wB1 (Pf ?_);have t:∀b o,s.heap.get? b=Z o->(s.heap.push {cls:=.type "list_iterator",data:=.fields #[.ref l,.int 0 0]}).get? b=Z o:=λb o e=>hP1 _ e;have u:(s.heap.push {cls:=.type "list_iterator",data:=.fields #[.ref l,.int 0 0]}).get? s.heap.objs.size=Z {cls:=.type "list_iterator",data:=.fields #[.ref l,.int 0 0]}:=hS1 _ O;have D:(s.heap.push {cls:=.type "list_iterator",data:=.fields #[.ref l,.int 0 0]}).objs.size=s.heap.objs.size+1:=hZ1 _ _;generalize s.heap.push {cls:=.type "list_iterator",data:=.fields #[.ref l,.int 0 0]}=h1 at *
 have k:∀b o,h1.get? b=Z o->(h1.push {cls:=.type "list",data:=.seq ([]:List dM).toArray}).get? b=Z o:=λb o e=>hP1 _ e;have C:(h1.push {cls:=.type "list",data:=.seq ([]:List dM).toArray}).get? h1.objs.size=Z {cls:=.type "list",data:=.seq ([]:List dM).toArray}:=hS1 _ O;dsimp only;generalize h1.push {cls:=.type "list",data:=.seq ([]:List dM).toArray}=h2 at *
 have old:∀b o,s.heap.get? b=Z o->b∉[s.heap.objs.size]/\b≠h1.objs.size:=λb o e=>by
  have:=hL1 e;exact⟨by simp;lia,by lia⟩
 refine wP1 ⟨OF Pv _,vF (Walks.list (w:=w) (prog:=prog) (A:=A.in1) x s.heap.objs.size l (nN1 n) items) (by simp;lia) z (Kp:=λs'=>∃h tk,s'={s with heap:=h,toks:=tk} /\ ∀b o,s.heap.get? b=Z o->h.get? b=Z o) (λs' h' tk a b=>by
  obtain⟨h,d,rfl,a⟩:=a;exact⟨h',tk,O,λc o e=>b c o (old c o e).1 (old c o e).2 (a c o e)⟩) (λi j g f s' a b c=>by
  obtain⟨h,d,rfl,a⟩:=a;exact cmp i j g f h d a b c) ⟨⟨_,k _ _ u,O,O⟩,?_⟩ ⟨_,_,O,λb o e=>k b o (t b o e)⟩ C λv h' tk B y=>p v h' tk B λb o e=>y b o (old b o e).1 (old b o e).2 (k b o (t b o e))⟩
 obtain⟨o,m,r⟩:=id q;exact⟨o,k _ _ (t _ _ m),r⟩
end
def uu:G1:=λd S=>match eg S d with
 | some (true,xs)=>if (decide (0<xs.length)&&xs.all fun a=>xs.all fun b=>(k7 S 51 a b).isSome)=true then
   Z (xs.getD (Pu (λi j=>k7 S 51 (xs.getD i .non) (xs.getD j .non) == Z M) (xs.length-1)) .non,S)else Y
 |_=>Y
theorem Io{K:Fg1}{H:Hp}{mu:List dP}:∀{ds:List D} {vs:List V} {a:List dM} {i:Nat} {v:dM},ej K H mu ds vs->eG vs a->a[i]?=Z v -> ∃d w,ds[i]?=Z d/\fc K H mu d w/\eu w v:=by
 intro ds
 induction ds with
 |nil=>
  intro vs a i v t r h;cases t;cases r;cases h
 |cons x xs ih=>
  intro vs a i v t r h;cases t with
  |cons b e=>
   cases r with
   |cons c r2=>
    cases i with
    |zero=>cases h;exact⟨x,_,O,b,c⟩
    |succ i=>
     rw[gC1]at h ⊢;exact ih e r2 h
theorem Hw(C:X.calm=M)(aq:X.A.units+64<Nv):fi X (.builtin "min") (rN X.K (b1 uu)):=by
 intro ag s σ H xs wq Q I r h;obtain⟨x,mu,S,d,r',S',rfl,U,y,g,hc⟩:=xZ h;unfold uu at g;split at g
 ·rename_i ds W;split at g
  ·rename_i c;cases g;rw[bA1,al,bD]at c;obtain⟨P,m⟩:=c;obtain⟨a,vs,rfl,q,t⟩:=er U y W;obtain⟨u,rfl,r2⟩:=iO r;cases r2;obtain⟨f,L,T,hz⟩:=I.list q;have l:f.length=ds.length:=by rw[<- L.length,<- t.length]
   have at_:∀(i:Nat) (v:dM),f[i]?=Z v -> ∃d w,ds[i]?=Z d/\d∈ds/\ds.getD i .non=d/\fc X.K H mu d w/\eu w v:=λi v e=>by
    obtain⟨d,w,k,p,q⟩:=Io t L e;exact⟨d,w,k,gM1 k,by rw[bM,k];rfl,p,q⟩
   have n:f.toArray.size=ds.length:=by rw[sT1,l]
   refine yh (bt:=λi j=>k7 S 51 (ds.getD i .non) (ds.getD j .non) == Z M) (I.ok.hd C) T.isList (by rw[n];exact P) (λi j R ao h' tk keep k F Q E G=>?_) λv h' tk e keep=>?_
   ·rw[ck]at k F;obtain⟨K,am,_,m1,z,o,B⟩:=at_ i R k;obtain⟨N,w2,_,m2,au,p2,V⟩:=at_ j ao F;have hc:=bD.mp (m K m1) N m2;obtain⟨b,D⟩:=aS.mp hc;refine r0 (I.kept keep) y 51 (A:=X.A.in1) (by show X.A.units+1+51<Nv;lia) o p2 B V D X.prog X.w E Q ?_;rw[z,au,D]at G;cases b<;>exact G
   ·rw[ck,n]at e;obtain⟨K,am,_,m1,z,o,B⟩:=at_ _ v e;rw[z]at hc;exact⟨am,H,I.kept keep,B,hc.now o y⟩
  ·cases g
 ·cases g
section
open PySem.MeetsSeq PySem.MeetsSeq2 PySem.MeetsSeq3 PySem.SeqRoads2
end
def W{α:Type}(o:Option α)(Q:α->Prop):Prop:=∃x,o=Z x/\Q x
section
variable{α β:Type}{Q:α->Prop}
theorem ew{x:α}:W (Z x) Q↔Q x:=⟨λ⟨_,e,h⟩=>(by cases e;exact h),λh=>⟨x,O,h⟩⟩
theorem lf:W (Y:Option α) Q↔False:=⟨λ⟨_,e,_⟩=>(by cases e),MX⟩
theorem d9{o:Option β}{f:β->Option α}:W (o.bind f) Q↔W o λx=>W (f x) Q:=by
 cases o with
 |none=>exact⟨λ⟨_,e,_⟩=>(by cases e),λ⟨_,e,_⟩=>(by cases e)⟩
 |some x=>exact⟨λh=>⟨x,O,h⟩,λ⟨_,e,h⟩=>by cases e;exact h⟩
theorem j9{o:Option β}{f:β->α}:W (o.map f) Q↔W o λx=>Q (f x):=by
 cases o with
 |none=>exact⟨λ⟨_,e,_⟩=>(by cases e),λ⟨_,e,_⟩=>(by cases e)⟩
 |some x=>exact⟨λ⟨_,e,h⟩=>(by cases e;exact⟨x,O,h⟩),λ⟨_,e,h⟩=>(by cases e;exact⟨_,O,h⟩)⟩
theorem uT{c:Prop}[Decidable c]{a b:Option α}:W (if c then a else b) Q↔if c then W a Q else W b Q:=by split<;>exact Iff.rfl
theorem W.mono{o:Option α}{Q':α->Prop}(h:W o Q)(k:∀x,Q x->Q' x):W o Q':=let ⟨x,e,q⟩:=h;⟨x,e,k x q⟩
theorem W.of{o:Option α}{x:α}(e:o=Z x)(h:Q x):W o Q:=⟨x,e,h⟩
end
theorem eU{a b:FS}{r:Ev}{S:d7}{Q:Fl×Ev×d7->Prop}(R:Ev->d7->Prop)(h1:W (a r S) λp=>p.1 = .nx/\R p.2.1 p.2.2)(h2:∀r S,R r S->W (b r S) Q):W (et a b r S) Q:=by
 obtain⟨⟨f,g,h⟩,e,c,d⟩:=h1;dsimp only at c d;subst c;unfold et;rw[e];exact h2 g h d
theorem lh{n:Nat}{b:FS}{ds:List D}{S:d7}{Q:D×d7->Prop}(h:W (b (il n ds) S) fun p=>match p.1 with
  | .rt d=>Q (d,p.2.2)
  | .nx=>Q (.non,p.2.2)
  |_=>False):W (iC n b ds S) Q:=by
 obtain⟨⟨f,a,c⟩,e,q⟩:=h;unfold iC;rw[e];cases f with
 |rt d=>exact⟨_,O,q⟩
 |nx=>exact⟨_,O,q⟩
 |bk=>exact q.elim
 |ct=>exact q.elim
theorem xy{n:Nat}{f:FN}{ds:List D}{S:d7}{Q:D×d7->Prop}(hn:ds.length=n)(a:D.unds 0 ds=J)(h:W (f ds S) λp=>Q (gc S.length p)):W (ea n f ds S) Q:=by
 obtain⟨⟨d,b⟩,e,q⟩:=h;exact⟨_,qv e hn a,q⟩
theorem g0{n:Nat}{f:FN}{ds:List D}{S:d7}{Q:D×d7->Prop}(hn:ds.length=n)(c:D.unds 0 ds=M)(h:W (f ds []) λp=>p.1.und 0=M/\Q (p.1,S)):W (ea n f ds S) Q:=by
 obtain⟨⟨d,g⟩,e,b,a⟩:=h;exact⟨_,qu e hn c b,a⟩
mutual
theorem n0{n:Nat}:∀{d:D},d.und 0=M->d.und n=M
 | .non,_=>rfl
 | .bl _,_=>rfl
 | .int _,_=>rfl
 | .str _,_=>rfl
 | .tup xs,h=>by rw[D.und]at h ⊢;exact iP h
 | .rol xs,h=>by rw[D.und]at h ⊢;exact iP h
 | .fn _,_=>rfl
 | .ref k,h=>by simp[D.und]at h
theorem iP{n:Nat}:∀{ds:List D},D.unds 0 ds=M->D.unds n ds=M
 |[],_=>rfl
 |d::ds,h=>by
  rw[D.unds,bA1]at h ⊢;exact⟨n0 h.1,iP h.2⟩
end
theorem xA{n:Nat}{f:FN}{ds:List D}{o:Ob}{T:d7}{Q:D×d7->Prop}(hn:ds.length=n)(c:D.unds 0 ds=J)(a:T.all (Ob.und (T.length+1))=M)(h:W (f ds (o::T)) λp=>∃d o' G,p=(d,o'::(T++G))/\d.und 0=M/\o'.und (T.length+1)=M/\Q (d,o'::T)):W (ea n f ds (o::T)) Q:=by
 refine xy hn c (h.mono ?_);rintro p ⟨d,o',G,rfl,g,b,q⟩;have e:(o'::(T++G)).take (T.length+1)=o'::T:=by simp
 unfold gc;dsimp only[lC1];rw[ak (by rw[e,n0 g,bS,b,a];rfl),e];exact q
theorem e6{c:List (Nat×List D)}{g:FG}{b:FS}{Q:Fl×Ev×d7->Prop}(I:Nat->Ev->d7->Prop):∀ (items:List D) (k:Nat) (r:Ev) (S:d7),I k r S ->
  (∀i r S,I i r S->pC S c=M) ->
  (∀i d,items[i]?=Z d -> ∀r S,I (k+i) r S->W (g d r S) λp=>W (b p.1 p.2) λq=>q.1 = .nx/\I (k+i+1) q.2.1 q.2.2) ->
  (∀r S,I (k+items.length) r S->Q (.nx,r,S))->W (jm c g b items r S) Q
 |[],k,r,S,hi,hok,_,hq=>by rw[jm];dsimp only;rw[ak (hok _ _ _ hi),ew];exact hq r S (by simpa using hi)
 |d::ds,k,r,S,hi,hok,hs,hq=>by
  rw[jm];dsimp only;rw[ak (hok _ _ _ hi),d9];obtain⟨p,o,h1⟩:=hs 0 d O r S (by simpa using hi);refine⟨p,o,?_⟩;dsimp only;rw[d9];obtain⟨⟨f,n,h⟩,l,h2,e⟩:=h1;refine⟨_,l,?_⟩;dsimp only at h2 e ⊢;subst h2;refine e6 I ds (k+1) n h (by simpa using e) hok (λi m j r S a=>?_) λr S a=>hq r S (by rw[lC1,show k+(ds.length+1)=k+1+ds.length by lia];exact a);have:=hs (i+1) m (by simpa using j) r S (by rw[show k+(i+1)=k+1+i by lia];exact a);rw[show k+(i+1)+1=k+1+i+1 by lia]at this;exact this
theorem gm{c:List (Nat×List D)}{g:FG}{t:FT}{e:FE}{Q:List D×Ev×d7->Prop}(I:Nat->List D->Ev->d7->Prop):∀ (items:List D) (k:Nat) (acc:List D) (r:Ev) (S:d7),I k acc r S ->
  (∀i acc r S,I i acc r S->pC S c=M) ->
  (∀i d,items[i]?=Z d -> ∀acc r S,I (k+i) acc r S->W (g d r S) λp=>W (t p.1 p.2) λb=>if b.1=M then W (e p.1 b.2) λx=>I (k+i+1) (acc++[x.1]) p.1 x.2 else I (k+i+1) acc p.1 b.2) ->
  (∀xs r S,I (k+items.length) (acc++xs) r S->Q (xs,r,S))->W (fM c g t (eR e) items r S) Q
 |[],k,acc,r,S,hi,hok,_,hq=>by rw[fM];dsimp only;rw[ak (hok _ _ _ _ hi),ew];exact hq [] r S (by simpa using hi)
 |d::ds,k,acc,r,S,hi,hok,hs,hq=>by
  rw[fM];dsimp only;rw[ak (hok _ _ _ _ hi),d9];obtain⟨p,q,h1⟩:=hs 0 d O acc r S (by simpa using hi);refine⟨p,q,?_⟩;dsimp only;rw[d9];obtain⟨⟨b,m⟩,o,h2⟩:=h1;refine⟨_,o,?_⟩;have step:∀i f,ds[i]?=Z f -> ∀acc r S,I (k+1+i) acc r S->W (g f r S) λp=>W (t p.1 p.2) λb=>if b.1=M then W (e p.1 b.2) λx=>I (k+1+i+1) (acc++[x.1]) p.1 x.2 else I (k+1+i+1) acc p.1 b.2:=λi f n acc r S a=>by
   have:=hs (i+1) f (by simpa using n) acc r S (by rw[show k+(i+1)=k+1+i by lia];exact a);rw[show k+(i+1)+1=k+1+i+1 by lia]at this;exact this
  dsimp only at h2 ⊢;cases b with
  |true=>
   rw[ak O]at h2 ⊢;rw[d9,eR,j9];obtain⟨⟨x,j⟩,l,h⟩:=h2;refine⟨_,l,?_⟩;dsimp only at h ⊢;rw[j9];refine gm I ds (k+1) (acc++[x]) p.1 j (by simpa using h) hok step λxs r S a=>?_;refine hq _ r S ?_;rw[lC1,show k+(ds.length+1)=k+1+ds.length by lia];simpa using a
  |false=>
   rw[aj (by decide)]at h2 ⊢;refine gm I ds (k+1) acc p.1 m (by simpa using h2) hok step λxs r S a=>?_;refine hq _ r S ?_;rw[lC1,show k+(ds.length+1)=k+1+ds.length by lia];exact a
theorem E8{S:d7}{b:Bool}:mH S (.bl b)=Z b:=rfl
theorem JX{S:d7}:mH S .non=Z J:=rfl
theorem JY{S:d7}{i:Int}:mH S (.int i)=Z (i != 0):=rfl
theorem Ea{x y:Int}{S:d7}:gEq (.int x) (.int y) S=Z (.bl (x == y),S):=rfl
theorem D7{x y:Int}{S:d7}:gLt (.int x) (.int y) S=Z (.bl (decide (x<y)),S):=rfl
theorem Kc{x y:Str}{S:d7}:gEq (.str x) (.str y) S=Z (.bl (x == y),S):=rfl
theorem Kb{x y:Str}{S:d7}:gNe (.str x) (.str y) S=Z (.bl (!(x == y)),S):=rfl
theorem ite_and'{c p:Prop}[Decidable c]:(if c then p else False)↔c/\p:=by split<;>simp[*]
noncomputable def yT(j:Int):Bool:=decide (-(2^62)<=j)&&decide (j<2^62)
theorem eV{n:Nat}(h:n<2^60):yT n=M:=by
 unfold yT;rw[bA1,al,al];lia
theorem Hz{j:Int}(h: -(2^60)<=j)(h':j<2^60):yT j=M:=by
 unfold yT;rw[bA1,al,al];lia
def Iq(p:List D×d7)(Q:yQ×d7->Prop):Prop:=match p.1 with
 |[.int j]=>yT j=M/\Q (⟨gb 0 j.toNat,[]⟩,p.2)
 |_=>False
def J1(p:List D×d7)(Q:yQ×d7->Prop):Prop:=match p.1 with
 |[.int i,.int j]=>yT i=M/\yT j=M/\Q (⟨gb i (j-i).toNat,[]⟩,p.2)
 |_=>False
theorem ES{m:FA}{r:Ev}{S:d7}{Q:yQ×d7->Prop}:W (pN m r S) Q↔W (m r S) λp=>Iq p Q:=by
 unfold pN;rw[d9];constructor
 ·refine λh=>h.mono λp q=>?_;unfold Iq;split at q
  ·rename_i j e
   try rw[e]
   rw[uT]at q;split at q
   ·rename_i hc;exact⟨by unfold yT;rw[bA1,al,al];exact hc,ew.mp q⟩
   ·exact(lf.mp q).elim
  ·exact(lf.mp q).elim
 ·refine λh=>h.mono λp q=>?_;unfold Iq at q;split at q
  ·rename_i j e;obtain⟨a,b⟩:=q;unfold yT at a;rw[bA1,al,al]at a
   try rw[e]
   try dsimp only
   rw[ak a];exact ew.mpr b
  ·exact q.elim
theorem JJ{m:FA}{r:Ev}{S:d7}{Q:yQ×d7->Prop}:W (Hf m r S) Q↔W (m r S) λp=>J1 p Q:=by
 unfold Hf;rw[d9];constructor
 ·refine λh=>h.mono λp q=>?_;unfold J1;split at q
  ·rename_i i j e
   try rw[e]
   rw[uT]at q;split at q
   ·rename_i hc;refine⟨?_,?_,ew.mp q⟩
    ·unfold yT;rw[bA1,al,al];exact⟨hc.1,hc.2.1⟩
    ·unfold yT;rw[bA1,al,al];exact hc.2.2
   ·exact(lf.mp q).elim
  ·exact(lf.mp q).elim
 ·refine λh=>h.mono λp q=>?_;unfold J1 at q;split at q
  ·rename_i i j e;obtain⟨a,b,c⟩:=q;unfold yT at a b;rw[bA1,al,al]at a b
   try rw[e]
   try dsimp only
   rw[ak ⟨a.1,a.2,b⟩];exact ew.mpr c
  ·exact q.elim
noncomputable def fits(n:Nat):Bool:=decide (n<=dW)
theorem ed{n:Nat}(h:n<=100000):fits n=M:=by unfold fits;rw[al];exact aC h (by decide)
theorem ux{n:Nat}:fits n=M↔n<=dW:=by unfold fits;rw[al]
theorem LA:fits 2=M:=ed (by decide)
theorem MJ:fits 4=M:=ed (by decide)
theorem MH:fits 5=M:=ed (by decide)
theorem MF:fits 7=M:=ed (by decide)
theorem MD:fits 8=M:=ed (by decide)
theorem iM{α:Type}{n:Nat}{o:Option α}{Q:α->Prop}:W (if n<=dW then o else Y) Q↔fits n=M/\W o Q:=by
 rw[ux,uT];split
 ·rename_i h;exact⟨λq=>⟨h,q⟩,λq=>q.2⟩
 ·rename_i h;exact⟨λq=>(lf.mp q).elim,λq=>absurd q.1 h⟩
theorem BZ{a:FA}{r:Ev}{S:d7}{Q:D×d7->Prop}:W (fw a r S) Q↔W (a r S) λp=>fits p.1.length=M/\Q (.tup p.1,p.2):=by
 unfold fw;rw[d9];exact⟨λh=>h.mono λp q=>(iM.mp q).imp_right ew.mp,λh=>h.mono λp q=>iM.mpr (q.imp_right ew.mpr)⟩
theorem HD{a:FA}{r:Ev}{S:d7}{Q:D×d7->Prop}:W (ic a r S) Q↔W (a r S) λp=>fits p.1.length=M/\Q (.ref p.2.length,p.2++[.lst p.1]):=by
 unfold ic;rw[d9];exact⟨λh=>h.mono λp q=>(iM.mp q).imp_right ew.mp,λh=>h.mono λp q=>iM.mpr (q.imp_right ew.mpr)⟩
theorem xH{k:Nat}{keep:List Nat}{m:FI}{g:FG}{t:FT}{b:FV}{r:Ev}{S:d7}{Q:D×d7->Prop}:W (eZ k keep m g t b r S) Q↔W (m r S) λp=>W (fM p.1.chk g t b p.1.items (vP k keep r) p.2) λq=>fits q.1.length=M/\Q (.ref q.2.2.length,q.2.2++[.lst q.1]):=by
 unfold eZ;rw[d9];refine⟨λh=>h.mono λp q=>?_,λh=>h.mono λp q=>?_⟩
 ·rw[d9]at q;exact q.mono λz w=>(iM.mp w).imp_right ew.mp
 ·rw[d9];exact q.mono λz w=>iM.mpr (w.imp_right ew.mpr)
theorem HH{xs ys:List D}{S:d7}{Q:D×d7->Prop}:W (gj (.tup xs) (.tup ys) S) Q↔fits (xs.length+ys.length)=M/\Q (.tup (xs++ys),S):=
 ⟨λq=>(iM.mp q).imp_right ew.mp,λq=>iM.mpr (q.imp_right ew.mpr)⟩
theorem B2{x y:Int}{S:d7}{Q:D×d7->Prop}:W (gj (.int x) (.int y) S) Q↔Q (.int (x+y),S):=ew
theorem B1{a b:Nat}{xs ys:List D}{S:d7}{Q:D×d7->Prop}(h1:S[a]?=Z (.lst xs))(h2:S[b]?=Z (.lst ys)):W (gj (.ref a) (.ref b) S) Q↔fits (xs.length+ys.length)=M/\Q (.ref S.length,S++[.lst (xs++ys)]):=by
 rw[gj];simp only[h1,h2];exact⟨λq=>(iM.mp q).imp_right ew.mp,λq=>iM.mpr (q.imp_right ew.mpr)⟩
theorem kY{n:Nat}{v:D}{xs:List D}{S:d7}{Q:D×d7->Prop}(h:S[n]?=Z (.lst xs)):W (iF (.ref n) v S) Q↔fits (xs.length+1)=M/\Q (.non,S.set n (.lst (xs++[v]))):=by
 rw[iF];simp only[h];rw[uT,ux];split
 ·rename_i a;exact⟨λq=>⟨a,ew.mp q⟩,λq=>ew.mpr q.2⟩
 ·rename_i a;exact⟨λq=>(lf.mp q).elim,λq=>absurd q.1 a⟩
theorem nv{n:Nat}{i:Nat}{xs:List D}{x:D}{S:d7}{Q:D×d7->Prop}(h:S[n]?=Z (.lst xs))(hx:xs[i]?=Z x)(q:Q (x,S)):W (ez (.ref n) (.int i) S) Q:=by
 refine W.of (x:=(x,S)) ?_ q;have a:=(PB hx).1;simp only[ez,mh,xi,h,eg,uR,vM,oS1,ak (show(0:Int)<=i by lia)];rw[ak (by lia)];simp[hx]
theorem ka{i:Nat}{xs:List D}{x:D}{S:d7}{Q:D×d7->Prop}(hx:xs[i]?=Z x)(q:Q (x,S)):W (ez (.tup xs) (.int i) S) Q:=by
 refine W.of (x:=(x,S)) ?_ q;have a:=(PB hx).1;simp only[ez,mh,xi,eg,uR,vM,oS1,ak (show(0:Int)<=i by lia)];rw[ak (by lia)];simp[hx]
theorem Mj:aR 0 (Y:Option D)=[]:=rfl
theorem Ls:aR 1 (Y:Option D)=[Y]:=rfl
theorem L8:aR 2 (Y:Option D)=[Y,Y]:=rfl
theorem MB:aR 5 (Y:Option D)=[Y,Y,Y,Y,Y]:=rfl
theorem Mz:aR 6 (Y:Option D)=[Y,Y,Y,Y,Y,Y]:=rfl
theorem Lr:aR 9 (Y:Option D)=[Y,Y,Y,Y,Y,Y,Y,Y,Y]:=rfl
theorem Mh:aR 10 (Y:Option D)=[Y,Y,Y,Y,Y,Y,Y,Y,Y,Y]:=rfl
theorem Mg:aR 11 (Y:Option D)=[Y,Y,Y,Y,Y,Y,Y,Y,Y,Y,Y]:=rfl
theorem Mf:aR 13 (Y:Option D)=[Y,Y,Y,Y,Y,Y,Y,Y,Y,Y,Y,Y,Y]:=rfl
theorem Me:aR 14 (Y:Option D)=[Y,Y,Y,Y,Y,Y,Y,Y,Y,Y,Y,Y,Y,Y]:=rfl
theorem Md:aR 15 (Y:Option D)=[Y,Y,Y,Y,Y,Y,Y,Y,Y,Y,Y,Y,Y,Y,Y]:=rfl
theorem Mc:aR 16 (Y:Option D)=[Y,Y,Y,Y,Y,Y,Y,Y,Y,Y,Y,Y,Y,Y,Y,Y]:=rfl
theorem Mb:aR 17 (Y:Option D)=[Y,Y,Y,Y,Y,Y,Y,Y,Y,Y,Y,Y,Y,Y,Y,Y,Y]:=rfl
theorem Ma:aR 18 (Y:Option D)=[Y,Y,Y,Y,Y,Y,Y,Y,Y,Y,Y,Y,Y,Y,Y,Y,Y,Y]:=rfl
theorem L9:aR 19 (Y:Option D)=[Y,Y,Y,Y,Y,Y,Y,Y,Y,Y,Y,Y,Y,Y,Y,Y,Y,Y,Y]:=rfl
theorem L7:aR 20 (Y:Option D)=[Y,Y,Y,Y,Y,Y,Y,Y,Y,Y,Y,Y,Y,Y,Y,Y,Y,Y,Y,Y]:=rfl
theorem fJ{α:Type}{T G:List α}{k:Nat}:(T++G)[T.length+k]?=G[k]?:=by rw[gR1 (by lia)];congr 1;lia
theorem ee{α:Type}{T G:List α}:(T++G)[T.length]?=G[0]?:=by rw[gR1 (by lia)];congr 1;lia
theorem xc{S:d7}{i j:Nat}{xs:List D}(h:S[i]?=Z (.lst xs))(h':S[j]?=Z (.lst [])):gNe (.ref i) (.ref j) S=Z (.bl (!xs.isEmpty),S):=by
 unfold gNe eK;rw[show(60:Nat)=59+1 from rfl,hL];simp only[eg,h,h'];cases xs with
 |nil=>simp[xr]
 |cons x xs=>simp
theorem rS:∀(n:Nat) (lo:Int),gb lo n=(af n).map λi:Nat=>D.int (lo+i)
 |0,lo=>rfl
 |n+1,lo=>by
  rw[gb,rS n (lo+1),List.range_succ_eq_map,mP1,bv]
  congr 1
  ·simp
  ·apply de;intro i _;simp only[Function.comp_apply,Nat.succ_eq_add_one]
   congr 1
   push_cast
   lia
theorem jl(n:Nat):gb 0 n=(af n).map λi:Nat=>D.int i:=by
 rw[rS];apply de;intro i _;simp
theorem jr{α:Type}{c:List (Nat×List D)}{g:FG}{t:FT}{e:FE}{S:d7}{f:α->D}{Q:List D×Ev×d7->Prop}(F:α->D)(P:Ev->Prop)(d:pC S c=true):∀ (xs:List α) (r:Ev),P r ->
  (∀a∈xs,∀r,P r->W (g (f a) r S) λp=>W (t p.1 p.2) λb=>b.1=M/\W (e p.1 b.2) λx=>x.1=F a/\x.2=S/\P p.1) ->
  (∀i,P i->Q (xs.map F,i,S))->W (fM c g t (eR e) (xs.map f) r S) Q
 |[],r,hr,_,h=>by rw[bc,fM];dsimp only;rw[ak d,ew];exact h r hr
 |a::xs,r,hr,hs,h=>by
  rw[mP1,fM];dsimp only;rw[ak d,d9];obtain⟨p,u,⟨b,n,l,⟨x,m,q,s,o⟩⟩⟩:=hs a mS1 r hr;refine⟨p,u,?_⟩;dsimp only;rw[d9];refine⟨b,n,?_⟩;dsimp only;rw[ak l,d9,eR,j9];refine⟨x,m,?_⟩;dsimp only;rw[s,j9];refine jr F P d xs p.1 o (λa k=>hs a (mC1 _ k)) λi j=>?_;have:=h i j;rw[mP1,<- q]at this;exact this
theorem sw{α:Type}{c:List (Nat×List D)}{g:FG}{t:FT}{e:FE}{S:d7}{f:α->D}{Q:List D×Ev×d7->Prop}(k:α->Bool)(F:α->D)(P:Ev->Prop)(d:pC S c=true):∀ (xs:List α) (r:Ev),P r ->
  (∀a∈xs,∀r,P r->W (g (f a) r S) λp=>W (t p.1 p.2) λb=>b.1=k a/\b.2=S/\P p.1/\(k a=M->W (e p.1 S) λx=>x.1=F a/\x.2=S)) ->
  (∀j,P j->Q ((xs.filter k).map F,j,S))->W (fM c g t (eR e) (xs.map f) r S) Q
 |[],r,hr,_,h=>by rw[bc,fM];dsimp only;rw[ak d,ew];exact h r hr
 |a::xs,r,hr,hs,h=>by
  rw[mP1,fM];dsimp only;rw[ak d,d9];obtain⟨p,w,⟨b,v,o,s,q,n⟩⟩:=hs a mS1 r hr;refine⟨p,w,?_⟩;dsimp only;rw[d9];refine⟨b,v,?_⟩;dsimp only;cases hk:k a with
  |true=>
   rw[o,hk,ak O,d9,eR,j9,s];obtain⟨x,u,n,m⟩:=n hk;refine⟨x,u,?_⟩;dsimp only;rw[m,j9];refine sw k F P d xs p.1 q (λa l=>hs a (mC1 _ l)) λj i=>?_;have:=h j i;rw[List.filter_cons,hk,ak O,mP1,<- n]at this;exact this
  |false=>
   rw[o,hk,aj (by decide),s];refine sw k F P d xs p.1 q (λa l=>hs a (mC1 _ l)) λj i=>?_;have:=h j i;rw[List.filter_cons,hk,aj (by decide)]at this;exact this
theorem j7{α:Type}{f:α->Bool}:∀xs:List α,Mi.BX (xs.map λx=>D.bl (f x))=Z (xs.all f)
 |[]=>rfl
 |x::xs=>by rw[mP1,Mi.BX,j7 xs];rfl
mutual
theorem EY{n m:Nat}(h:n<=m):∀{d:D},d.und n=M->d.und m=M
 | .non,_=>rfl
 | .bl _,_=>rfl
 | .int _,_=>rfl
 | .str _,_=>rfl
 | .tup xs,q=>by rw[D.und]at q ⊢;exact i7 h q
 | .rol xs,q=>by rw[D.und]at q ⊢;exact i7 h q
 | .fn _,_=>rfl
 | .ref k,q=>by simp[D.und]at q ⊢;lia
theorem i7{n m:Nat}(h:n<=m):∀{ds:List D},D.unds n ds=M->D.unds m ds=M
 |[],_=>rfl
 |d::ds,q=>by
  rw[D.unds,bA1]at q ⊢;exact⟨EY h q.1,i7 h q.2⟩
end
theorem iV{n m:Nat}(h:n<=m):∀{o:Ob},o.und n=M->o.und m=M
 | .lst xs,q=>by rw[Ob.und]at q ⊢;exact i7 h q
 | .dct xs,q=>by rw[Ob.und]at q ⊢;exact i7 h q
 | .dcT xs,q=>by rw[Ob.und]at q ⊢;exact i7 h q
 | .dcF xs,q=>by rw[Ob.und]at q ⊢;exact i7 h q
 | .iset _,_=>rfl
 | .tst _,_=>rfl
theorem K8{k:Nat}{T G:d7}(h:T.all (Ob.und (T.length+k))=M)(hg:G.all (Ob.und 0)=M):(T++G).all (Ob.und ((T++G).length+k))=M:=by
 rw[df,bA1];rw[bD]at h hg;refine⟨bD.mpr λo a=>iV (by rw[lA1];lia) (h o a),bD.mpr λo a=>iV (bj _) (hg o a)⟩
theorem B0{n:Nat}{xs:List Int}{S:d7}{Q:D×d7->Prop}(h:S[n]?=Z (.iset xs))(q:Q (.int xs.length,S)):W (oS (.ref n) S) Q:=by
 refine W.of ?_ q;unfold oS;simp only[h]
theorem fj{α:Type}{n:Nat}{f:α->D}:∀{xs:List α},(∀x∈xs,(f x).und n=M)->D.unds n (xs.map f)=M
 |[],_=>rfl
 |x::xs,h=>by rw[mP1,D.unds,h x mS1,fj λy a=>h y (mC1 _ a)];rfl
theorem LC{x:Nat}:x+1+1=x+2:=rfl
theorem MQ{x:Nat}:x+2+1=x+3:=rfl
theorem MP{x:Nat}:x+3+1=x+4:=rfl
theorem MN{x:Nat}:x+4+1=x+5:=rfl
theorem MM{x:Nat}:x+5+1=x+6:=rfl
theorem ML{x:Nat}:x+6+1=x+7:=rfl
theorem Mx{x:Nat}:x+1+2=x+3:=rfl
theorem wW{xs:List D}{S:d7}:eQ (.tup xs) S=Z (.int xs.length,S):=rfl
theorem J9{xs:List D}{S:d7}:eQ (.rol xs) S=Z (.int xs.length,S):=rfl
theorem I7{S:d7}:eQ (.str "") S=Z (.int 0,S):=rfl
theorem kg{xs:List D}{S:d7}:eg S (.tup xs)=Z (J,xs):=rfl
theorem JZ{xs:List D}{S:d7}:eg S (.rol xs)=Z (M,xs):=rfl
theorem Ee{xs:List D}{S:d7}:jX S (.tup xs)=[]:=rfl
theorem Kh{xs:List D}{S:d7}:jX S (.rol xs)=[]:=rfl
theorem gP{n:Nat}{xs:List D}{S:d7}(h:S[n]?=Z (.lst xs)):eg S (.ref n)=Z (M,xs):=by simp only[eg,h]
theorem sy{n:Nat}{xs:List D}{S:d7}(h:S[n]?=Z (.lst xs)):jX S (.ref n)=[(n,xs)]:=by simp only[jX,h]
def sW(S:d7)(d:D)(Q:List D×List (Nat×List D)->Prop):Prop:=W (eg S d) λq=>Q (q.2,jX S d)
theorem i9{xs:List D}{S:d7}{Q:List D×List (Nat×List D)->Prop}:sW S (.tup xs) Q↔Q (xs,[]):=ew
theorem eE{n:Nat}{xs:List D}{S:d7}{Q:List D×List (Nat×List D)->Prop}(h:S[n]?=Z (.lst xs))(q:Q (xs,[(n,xs)])):sW S (.ref n) Q:=by
 unfold sW;rw[gP h,sy h,ew];exact q
theorem sK{m:FE}{r:Ev}{S:d7}{Q:yQ×d7->Prop}:W (gZ m r S) Q↔W (m r S) λp=>sW p.2 p.1 λq=>Q (⟨q.1,q.2⟩,p.2):=by
 unfold gZ;rw[d9];refine⟨λh=>h.mono λp q=>?_,λh=>h.mono λp q=>?_⟩
 ·rw[d9]at q;exact q.mono λz w=>ew.mp w
 ·rw[d9];exact W.mono (show W (eg p.2 p.1) _ from q) λz w=>ew.mpr w
theorem wc{d:D}{S:d7}{Q:D×d7->Prop}:W (Mi.gTup d S) Q↔sW S d λq=>Q (.tup q.1,S):=by
 unfold Mi.gTup;rw[j9];exact Iff.rfl
theorem JH{n:Nat}{S:d7}{Q:D×d7->Prop}:W (eQ (.ref n) S) Q↔sW S (.ref n) λq=>Q (.int q.1.length,S):=by
 unfold eQ sW;rw[j9]
theorem zf9:(fits 0=M)∧(fits 1=M)∧(fits 2=M)∧(fits 3=M)∧(fits 6=M):=⟨ed (by decide),ed (by decide),LA,ed (by decide),ed (by decide)⟩
theorem zr9:(∀ {x y:Int}{S:d7},gNe (.int x) (.int y) S=Z (.bl (!(x == y)),S))∧(aR 3 (Y:Option D)=[Y,Y,Y])∧(aR 4 (Y:Option D)=[Y,Y,Y,Y])∧(aR 7 (Y:Option D)=[Y,Y,Y,Y,Y,Y,Y])∧(aR 8 (Y:Option D)=[Y,Y,Y,Y,Y,Y,Y,Y])∧(aR 12 (Y:Option D)=[Y,Y,Y,Y,Y,Y,Y,Y,Y,Y,Y,Y])∧(∀ {xs:List D}{S:d7},eg S (.tup xs)=Z (J,xs)):=⟨rfl,rfl,rfl,rfl,rfl,rfl,kg⟩
theorem zi9:(∀ {a:FA}{r:Ev}{S:d7}{Q:D×d7->Prop},W (ic a r S) Q↔W (a r S) λp=>fits p.1.length=M/\Q (.ref p.2.length,p.2++[.lst p.1]))∧(∀ {m:FA}{r:Ev}{S:d7}{Q:yQ×d7->Prop},W (pN m r S) Q↔W (m r S) λp=>Iq p Q)∧(∀ {m:FA}{r:Ev}{S:d7}{Q:yQ×d7->Prop},W (Hf m r S) Q↔W (m r S) λp=>J1 p Q)∧(∀ {xs ys:List D}{S:d7}{Q:D×d7->Prop},W (gj (.tup xs) (.tup ys) S) Q↔fits (xs.length+ys.length)=M/\Q (.tup (xs++ys),S))∧(∀ {x y:Int}{S:d7}{Q:D×d7->Prop},W (gj (.int x) (.int y) S) Q↔Q (.int (x+y),S))∧(∀ {m:FE}{r:Ev}{S:d7}{Q:yQ×d7->Prop},W (gZ m r S) Q↔W (m r S) λp=>sW p.2 p.1 λq=>Q (⟨q.1,q.2⟩,p.2))∧(∀ {d:D}{S:d7}{Q:D×d7->Prop},W (Mi.gTup d S) Q↔sW S d λq=>Q (.tup q.1,S))∧(∀ {n:Nat}{S:d7}{Q:D×d7->Prop},W (eQ (.ref n) S) Q↔sW S (.ref n) λq=>Q (.int q.1.length,S)):=⟨HD,ES,JJ,HH,B2,sK,wc,JH⟩
noncomputable def pD(e:Nat×Nat):D:=.tup [.int e.1,.int e.2]
theorem oW{S:d7}{n:Nat}{a b:Nat×Nat}:hL S (n+2) (pD a) (pD b)=Z (a == b):=by
 obtain⟨a1,a2⟩:=a;obtain⟨b1,b2⟩:=b;rw[hL];have c:∀x y:Nat,hL S (n+1) (.int x) (.int y)=Z ((x:Int) == (y:Int)):=λx y=>rfl;have d:∀x y:Nat,((x:Int) == (y:Int))=(x == y):=λx y=>by
  rw[bT,Pq,Pq];lia
 simp[pD,eg,xr,c,d];rfl
theorem xm{S:d7}{n:Nat}{e:Nat×Nat}:∀b:List (Nat×Nat),yC (hL S (n+2)) (pD e) (b.map pD)=Z (b.map λa=>a == e)
 |[]=>rfl
 |a::b=>by rw[mP1,yC,oW,xm b];rfl
theorem HE{S:d7}{n j:Nat}{row:List (Nat×Nat)}{e:Nat×Nat}{Q:D×d7->Prop}(h:S[n]?=Z (.lst (row.map pD)))(b:row.length<1000)(a:row.findIdx? (· == e)=Z j)(q:Q (.int j,S)):W (Bu (.ref n) (pD e) S) Q:=by
 refine W.of ?_ q;unfold Bu eK;simp only[h,show(60:Nat)=58+2 from rfl,xm,oS1,lM1];rw[ak (by lia),List.findIdx?_map];simp[Function.comp_def,a]
theorem iL{f:FN}{o:FE}{a:FA}{r:Ev}{S:d7}{Q:D×d7->Prop}(h:W (o r S) λp=>∃n xs,p.1 = .ref n/\p.2[n]?=Z (.lst xs)/\W (a r p.2) λq=>W (f (.ref n::q.1) q.2) Q):W (nB f o a r S) Q:=by
 unfold nB;rw[d9];refine h.mono ?_;rintro⟨d,b⟩ ⟨n,xs,rfl,e,q⟩;dsimp only at e q ⊢;rw[e];dsimp only;rw[d9];exact q
theorem rr:∀{k n i:Nat},i<k->(ky n k)[i]?=Z (.ref (n+i))
 |k+1,n,0,_=>rfl
 |k+1,n,i+1,h=>by rw[ky,gC1,rr (Nat.lt_of_succ_lt_succ h),show n+1+i=n+(i+1) by lia]
theorem lU:∀k n:Nat,(ky n k).length=k
 |0,_=>rfl
 |k+1,n=>by rw[ky,lC1,lU]
noncomputable def tot(E:List (List (Nat×Nat))):Nat:=(E.map List.length).sum
noncomputable def ei(rs:List Nat):List D:=rs.map λi:Nat=>D.int i
theorem eX(rs:List Nat):(ei rs).length=rs.length:=by simp[ei]
theorem fv(rs:List Nat):D.unds 0 (ei rs)=M:=fj λ_ _=>rfl
theorem A4{κ:Type}[DecidableEq κ]{k:κ}:ef ([]:List (κ×D)) k=Y:=rfl
theorem fW{κ:Type}[DecidableEq κ]{k a:κ}{d:D}{r:List (κ×D)}:ef ((a,d)::r) k=if a=k then Z d else ef r k:=by
 unfold ef;rw[bd];by_cases h:a=k
 ·simp[h]
 ·simp[h]
theorem oJ{κ:Type}[DecidableEq κ]{k:κ}{b:List (κ×D)}:∀{a:List (κ×D)},ef (a++b) k=(ef a k).or (ef b k)
 |[]=>rfl
 |(x,d)::a=>by
  rw[bm,fW,fW,oJ (a:=a)];split<;>rfl
theorem mQ{κ:Type}[DecidableEq κ]{k:κ}:∀{a:List (κ×D)},(a.any λp=>decide (p.1=k))=J->ef a k=Y
 |[],_=>rfl
 |(x,d)::a,h=>by
  simp only[bf,dg,decide_eq_false_iff_not]at h;rw[fW,aj h.1];exact mQ h.2
theorem mP{κ:Type}[DecidableEq κ]{k k':κ}{v:D}:∀{a:List (κ×D)},(a.any λp=>decide (p.1=k))=M->ef (a.map λp=>if p.1=k then(p.1,v)else p) k'=if k'=k then Z v else ef a k'
 |[],h=>by simp at h
 |(x,d)::a,h=>by
  rw[mP1];by_cases f:x=k
  ·subst f;rw[ak (show(x,d).1=x from rfl)];rw[fW,fW];by_cases c:k'=x
   ·subst c;simp
   ·rw[aj (Mt c),aj (Mt c),aj c];by_cases g:(a.any λp=>decide (p.1=x))=M
    ·rw[mP g,aj c]
    ·have:(a.map fun p=>if p.1=x then (p.1,v) else p)=a:=by
      have e:(a.any λp=>decide (p.1=x))=J:=dh.mpr g;rw[aN]at e
      conv=>rhs;rw[<- di a]
      apply de;intro p i;have:=e p i;simp at this;simp[this]
     rw[this]
  ·simp only[bf,ai f,Bool.false_or]at h;rw[aj (show¬ (x,d).1=k from f)];rw[fW,fW,mP h];by_cases b:x=k'
   ·subst b;simp[f]
   ·simp[b]
theorem fE{κ:Type}[DecidableEq κ]{k k':κ}{v:D}{a:List (κ×D)}:ef (fT a k v) k'=if k'=k then Z v else ef a k':=by
 unfold fT;split
 ·rename_i h;exact mP h
 ·rename_i h;have h':(a.any λp=>decide (p.1=k))=J:=dh.mpr h;rw[oJ,fW,A4];by_cases b:k'=k
  ·subst b;rw[mQ h',ak O];rfl
  ·rw[aj (Mt b),aj b];cases ef a k'<;>rfl
theorem rz{κ:Type}[DecidableEq κ]{k:κ}{v:D}{a:List (κ×D)}:(fT a k v).length<=a.length+1:=by
 unfold fT;split
 ·rw[lM1];lia
 ·rw[lA1];simp
theorem FL{κ:Type}[DecidableEq κ]{k:κ}{v:D}{a:List (κ×D)}:fT a k v≠[]:=by
 unfold fT;split
 ·rename_i h;intro z;cases a with
  |nil=>simp at h
  |cons x xs=>simp at z
 ·simp
noncomputable def dO(F:List (TK×D)):Ob:=if F=[]then .dct []else .dcT F
theorem v9{U:d7}{n:Nat}{F:List (TK×D)}{key v:D}{k:TK}{Q:D×d7->Prop}(h:U[n]?=Z (dO F))(hk:kA key=Z k)(b:F.length<1000)(q:Q (.non,U.set n (dO (fT F k v)))):W (f0 (.ref n) key v U) Q:=by
 refine W.of ?_ q;unfold dO at h ⊢;rw[aj FL];by_cases a:F=[]
 ·subst a;rw[ak O]at h;simp only[f0,h,hk];rfl
 ·rw[aj a]at h;simp only[f0,h,hk,oS1];rw[ak (nL1 b (by decide))]
theorem HF{U:d7}{n:Nat}{F:List (TK×D)}{key v:D}{k:TK}{Q:D×d7->Prop}(h:U[n]?=Z (dO F))(hk:kA key=Z k)(hv:ef F k=Z v)(q:Q (v,U)):W (ez (.ref n) key U) Q:=by
 refine W.of ?_ q;unfold dO at h;by_cases a:F=[]
 ·subst a;cases hv
 ·rw[aj a]at h;simp only[ez,h,hk,oS1,hv,oP1]
theorem wa{U:d7}{n i:Nat}{xs:List D}{x:D}{Q:D×d7->Prop}(h:U[n]?=Z (.lst xs))(hx:xs[i]?=Z x)(hb:i<1000)(q:Q (x,U.set n (.lst (xs.eraseIdx i)))):W (vS (.ref n) (.int i) U) Q:=by
 have a:=(PB hx).1;refine W.of ?_ q;simp only[vS,h];rw[ak ⟨by lia,by lia⟩];simp only[vM,ak (show(0:Int)<=i by lia)];rw[ak (by lia)];simp[hx]
theorem Hi{d:D}{S G:d7}(hd:d.und 0=M)(a:S.all (Ob.und S.length)=M):gc S.length (d,S++G)=(d,S):=by
 unfold gc;dsimp only;rw[db,ak (by rw[n0 hd,a];rfl)]
theorem pz{m:FA}{r:Ev}{S:d7}{xs:List D}{Q:yQ×d7->Prop}(hm:m r S=Z ([.tup xs],S))(q:Q (⟨u6 0 xs,[]⟩,S)):W (oR m r S) Q:=by
 refine W.of (x:=(⟨u6 0 xs,[]⟩,S)) ?_ q;simp only[oR,hm,oS1,kg,Ee]
theorem BB{α:Type}{f:α->D}:∀(l:List α) (k:Nat),u6 k (l.map f)=(l.zipIdx k).map λp=>D.tup [.int (p.2:Nat),f p.1]
 |[],_=>rfl
 |a::l,k=>by rw[mP1,u6,BB l (k+1),bN];rfl
theorem xM{α:Type}{l:List α}{p:α×Nat}(h:p∈l.zipIdx):l[p.2]?=Z p.1:=by
 have:=dj.mp h;exact this
mutual
theorem zK{n:Nat}:∀{d:D},d.und 0=M->d.sh n=d
 | .non,_=>rfl
 | .bl _,_=>rfl
 | .int _,_=>rfl
 | .str _,_=>rfl
 | .tup xs,h=>by rw[D.und]at h;rw[D.sh,nL h]
 | .rol xs,h=>by rw[D.und]at h;rw[D.sh,nL h]
 | .fn _,_=>rfl
 | .ref k,h=>by simp[D.und]at h
theorem nL{n:Nat}:∀{ds:List D},D.unds 0 ds=M->D.shs n ds=ds
 |[],_=>rfl
 |d::ds,h=>by
  rw[D.unds,bA1]at h;rw[D.shs,zK h.1,nL h.2]
end
theorem w6(xs:List Nat):mS (ei xs)=Z (xs.map λ(r:Nat)=>(r:Int)):=by
 induction xs with
 |nil=>rfl
 |cons x xs ih=>
  show(mS (ei xs)).map _=_;rw[ih];rfl
end Mi
end
local macro_rules | `(tactic| walk_at"w") => `(tactic| simp only[Mi.ew, Mi.lf, Mi.ite_and', Mi.d9, Mi.j9, Mi.uT, Mi.et, Mi.eF, Mi.fV, Mi.eW, Mi.fQ, Mi.nA, Mi.mN, Mi.d5, Mi.d6, Mi.m2, Mi.m1, Mi.mV, Mi.mC, Mi.BZ, Mi.mB, Mi.rY, Mi.mOr, Mi.rW, Mi.kP, Mi.ua, Mi.I0, Mi.fu, Mi.mTr, Mi.E8, Mi.gN, Mi.gT, Mi.fO, Mi.jp, Mi.gS, Mi.b1, Mi.b2, Mi.b3, Mi.il, Mi.xH, Mi.Iq, Mi.J1, Mi.fz, Mi.vP, Mi.kE, Mi.uv, Mi.Ea, Mi.D7, true_and, bJ, lA1, dk, gC1, c5, c8, lC1, bg, mP1, bc, Mi.Mj, Mi.Ls, Mi.L8, cW, bm, aP, dm, Nat.reduceSub, dq, oP1, oS1, NL, NJ, bF1, b7, cm, O3, Mi.LC, Mi.Mx, Mi.wW, Mi.zf9, Mi.zr9, Mi.zi9])
noncomputable section
namespace Law
local macro_rules | `(tactic| wp_walk using $e,*) => `(tactic| ((try walk_at"w");repeat(simp only[$[$e:term],*];try walk_at"w")))
open PySem PySem.Spec PyProof.Rows L2 Mi
noncomputable def top (i:Nat):d3:=PySem.Challenge.pw_ringmeet_k19_standings_told.main.body.getD i (.Pass ⟨0,0,0,0⟩)
abbrev BL:List Str:=["all","bool","enumerate","int","isinstance","len","list","max","min","range","set","sorted","tuple","zip"]
section
variable{P:dQ}{w:dS}{K:Fg1}{mg:Str->Option dM}{base h:dZ}(X:K.In h) (G:h.Ns dU mg) (B:Blt BL mg)
include X G B
abbrev oa:d3:=top 1
def vZ:FS:=(eW (kP (nC .int (mV 0)) (ua (nC .bool (mV 0)))))
def jg:FN:=iC 1 vZ
theorem tS {f:dP}(F:eO K "is_whole" oa f):
  Own P w K mg base 1 "is_whole" 1 jg:=xq ["thing"] X G F λa=>
 (qG (qU (i6 (ii xv) (ke (wo (ii xv))))))
abbrev kH:d3:=top 3
def kT:FS:=(eW (kP (nC .tuple (mV 0)) (m2 (b2 gEq) (mN (b1 eQ) (d5 (mV 0) d6)) (mV 1))))
def fL:FN:=iC 2 kT
theorem oy {f:dP}(F:eO K "is_tuple_of" kH f):
  Own P w K mg base 1 "is_tuple_of" 2 fL:=xq ["thing","many"] X G F λa=>
 (qG (qU (i6 (ii xv) (ke (ce (oq rR) (cn eT (a1 xv)) xv)))))
abbrev wB:d3:=top 4
def p8:FS:=(et (fV (rW (mB (mCh (b2 (kE fun i j=>decide (i<=j))) (b2 gLt) (mC (D.int 0)) (mV 5) (mN (b1 eQ) (d5 (m2 (b2 ez) (mV 0) (mV 4)) d6))))) (eW (mN (b1 gTup) (d5 (mV 3) d6))) nA)
  (et (eF (m2 (b2 ez) (m2 (b2 ez) (mV 0) (mV 4)) (mV 5)) (gT 2 (fO (gN 4) (fO (gN 6) jp))))
  (fQ (nB (b2 iF) (mV 3) (d5 (fw (d5 (mV 4) (d5 (mV 6) d6))) d6)))))
def xD:FS:=(et (eF (ic d6) (gN 3))
  (et (eF (mV 1) (gN 4))
  (et (fz (gZ (mV 2)) (gN 5) p8)
  (eW (mN (b1 gTup) (d5 (mV 3) d6))))))
def l7:FN:=iC 7 xD
theorem As {f:dP}(F:eO K "stops" wB f):
  Own P w K mg base 1 "stops" 3 l7:=xq ["web","room","walk","found","here","door","back"] X G F λa=>
 (qF (sq (fC qN)) (qF (sq xv) (qF (fo (qd xv) gq (qF (qV (nH (xN IK (oq jS) qK xv (cn eT (a1 (jq xv xv))))) (qG (qU (cz fh (a1 xv)))) qQ) (qF (qR (jq (jq xv xv) xv) (tg2 gq gq)) (qG (lq ap xv (a1 (eJ (a2 xv xv)))))))) (qG (qU (cz fh (a1 xv)))))))
abbrev lJ:d3:=top 6
def ms:FS:=(eW (m2 (b2 gEq) (mN (b1 oS) (d5 (mN (b1 ij) (d5 (mV 0) d6)) d6)) (mN (b1 eQ) (d5 (mV 0) d6))))
def gD:FN:=iC 1 ms
theorem pH {f:dP}(F:eO K "all_unlike" lJ f):
  Own P w K mg base 1 "all_unlike" 1 gD:=xq ["colours"] X G F λa=>
 (qG (qU (ce (oq rR) (cn BN (a1 (cz (BM a) (a1 xv)))) (cn eT (a1 xv)))))
abbrev zP:d3:=top 9
def tR:FS:=(fV (mB (m2 (b2 fX) (mV 7) (mV 2))) (et (eF (m2 (b2 gj) (m2 (b2 ez) (mV 2) (mV 5)) (fw (d5 (mV 6) d6))) (gS (b3 f0) (mV 2) (mV 7)))
  (fQ (nB (b2 iF) (mV 3) (d5 (mV 7) d6)))) nA)
def tQ:FT:=(mB (m2 (b2 gLt) (mV 4) (mN (b1 eQ) (d5 (mV 3) d6))))
def tP:FS:=(et (eF (m2 (b2 ez) (mV 3) (mV 4)) (gN 5))
  (et (fz (oR (d5 (m2 (b2 ez) (mV 0) (mV 5)) d6)) (gT 2 (fO (gN 6) (fO (gT 2 (fO (gN 7) (fO (gN 8) jp))) jp))) tR)
  (Dy 4 (b2 Bv) (mC (D.int 1)))))
def BQ:FS:=(et (eF (wR [((mV 1),(fw d6))]) (gN 2))
  (et (eF (ic (d5 (mV 1) d6)) (gN 3))
  (et (eF (mC (D.int 0)) (gN 4))
  (et (sX tQ tP 100000)
  (eW (mN (b1 gTup) (d5 (eZ 1 [2] (pN (d5 (mN (b1 eQ) (d5 (mV 0) d6)) d6)) (gN 0) fu (eR (AT (mV 1) (mV 0)))) d6)))))))
def mO:FN:=iC 9 BQ
theorem Da {f:dP}(F:eO K "ways" zP f):
  Own P w K mg base 1 "ways" 2 mO:=xq ["web","room","found","queue","at","here","door","there","back"] X G F λa=>
 (qF (sq (sT (sS xv (eJ qN) wm))) (qF (sq (fC (a1 xv))) (qF (sq qK) (qF (kd 100000 Pp (ct (oq jS) xv (cn eT (a1 xv))) (qF (sq (jq xv xv)) (qF (fo (ie (a1 (jq xv xv))) (tg2 gq (tg2 gq gq)) (qG (qV (ct (oq lY) xv xv (by with_unfolding_all rfl)) (qF (qR (qI gt (jq xv xv) (eJ (a1 xv))) (iG xv xv (jD a.units))) (qG (lq ap xv (a1 xv)))) qQ))) (qG (Ce 4 (iH O) O (by first|exact Or.inl rfl|exact Or.inr rfl) qK DX))))) (qG (qU (cz fh (a1 (fk ["other"] (ir (a1 (cn eT (a1 xv)))) ⟨gq,eH,(xP a.units xv xv)⟩)))))))))
abbrev lI:d3:=top 13
def mq:FS:=(eW (m2 (b2 gEq) (m2 (b2 ez) (mV 0) (m2 (b2 ez) (mV 1) (mV 2))) (mN (b1 gTup) (d5 (eZ 2 [1] (gZ (m2 (b2 ez) (mV 0) (mV 2))) (gT 2 (fO (gN 0) (fO (gN 1) jp))) fu (eR (fw (d5 (m2 (b2 ez) (mV 2) (mV 0)) (d5 (mV 1) d6))))) d6))))
def gC:FN:=iC 3 mq
theorem pG {f:dP}(F:eO K "is_carried" lI f):
  Own P w K mg base 1 "is_carried" 3 gC:=xq ["web","order","room"] X G F λa=>
 (qG (qU (ce (oq rR) (jq xv (jq xv xv)) (cz fh (a1 (fk ["there","back"] (qd (jq xv xv)) ⟨(tg2 gq gq),eH,(eJ (a2 (jq xv xv) xv))⟩))))))
abbrev tq:d3:=top 15
def uP:FS:=(eW (mN (b1 gTup) (d5 (mN (b1 gI) (d5 (eZ 1 [0] (gZ (mV 1)) (gN 0) fu (eR (m2 (b2 ez) (mV 1) (mV 0)))) d6)) d6)))
def jT:FN:=iC 2 uP
theorem yd {f:dP}(F:eO K "turned" tq f):
  Own P w K mg base 1 "turned" 2 jT:=xq ["turn","rooms"] X G F λa=>
 (qG (qU (cz fh (a1 (cn sE (a1 (fk ["room"] (qd xv) ⟨gq,eH,(jq xv xv)⟩)))))))
abbrev lH:d3:=top 19
def jI:FS:=(eF (eZ 2 [0] (gZ (mV 2)) (gN 0) fu (uA (Hf (d5 (I0 (mTr (mV 0)) (m2 (b2 gj) (m2 (b2 ez) (mV 0) (m1 (b1 Bt) (mC (D.int 1)))) (mC (D.int 1))) (mC (D.int 0))) (d5 (mV 2) d6))) (gN 1) fu (eR (m2 (b2 gj) (mV 0) (fw (d5 (mV 1) d6)))))) (gN 2))
def mo:FS:=(et (eF (ic (d5 (fw d6) d6)) (gN 2))
  (et (fz (pN (d5 (mV 1) d6)) (gN 3) jI)
  (eW (mV 2))))
def gB:FN:=iC 4 mo
theorem pF {f:dP}(F:eO K "some_rooms" lH f):
  Own P w K mg base 1 "some_rooms" 2 gB:=xq ["bound","many","found","k"] X G F λa=>
 (qF (sq (fC (a1 (eJ qN)))) (qF (fo (ir (a1 xv)) gq (qG (xR 2 O (T:=["rooms","room"]) (keep:=[0]) ⟨O,by decide+kernel,(kc "bound" (cD _))⟩ O (qd xv) (λ_ _ _=>⟨gq,eH,(kZ O (bz B) (a2 (zd (hM xv) (qI gt (jq xv (za EF qK)) qK) qK) xv)),gq,eH,(qI gt xv (eJ (a1 xv)))⟩) (iH O) O (by first|exact Or.inl rfl|exact Or.inr rfl)))) (qG (qU xv))))
abbrev oi:d3:=top 22
def pu:FS:=(eW (mN (b1 gTup) (d5 (eZ 1 [0] (pN (d5 (mN (b1 xg) (d5 (mV 0) d6)) d6)) (gN 0) fu (eR (m2 (b2 ez) (mV 1) (mV 0)))) d6)))
def gM:FN:=iC 1 pu
theorem tW {f:dP}(F:eO K "in_order" oi f):
  Own P w K mg base 1 "in_order" 1 gM:=xq ["numbered"] X G F λa=>
 (qG (qU (cz fh (a1 (fk ["number"] (ir (a1 (cn Hy (a1 xv)))) ⟨gq,eH,(jq xv xv)⟩)))))
abbrev m7:d3:=top 24
def jZ:FS:=(et (eF (mC (D.int 0)) (gN 2))
  (et (fV (mB (m2 (b2 gLt) (mV 1) (mN (b1 eQ) (d5 (mV 0) d6)))) (eF (m2 (b2 ez) (mV 0) (mV 1)) (gN 2)) nA)
  (et (eF (m2 (b2 mW) (m2 (b2 vR) (mC (D.int 10)) (mC (D.int 60))) (m2 (b2 vR) (mC (D.int 10)) (mC (D.int 30)))) (gN 3))
  (eW (ic (d5 (m2 (b2 mW) (m2 (b2 mf) (mV 2) (mV 3)) (mN (b1 uv) (d5 (m2 (b2 (kE λi j=>decide (j<=i))) (mV 2) (m2 (b2 vR) (mC (D.int 10)) (mC (D.int 18)))) d6))) (d5 (m2 (b2 mf) (m2 (b2 gj) (m2 (b2 gj) (m2 (b2 mf) (mV 2) (mC (D.int 2305843009213693951))) (m2 (b2 mW) (mC (D.int 7919)) (mV 1))) (mC (D.int 5))) (mC (D.int 2305843009213693951))) (d5 (mC (D.int 0)) d6))))))))
def fP:FN:=iC 4 jZ
theorem rQ {f:dP}(F:eO K "_law_hand" m7 f):
  Own P w K mg base 1 "_law_hand" 2 fP:=xq ["_law_script","_law_k","_law_cell","_law_far"] X G F λa=>
 (qF (sq qK) (qF (qV (ct (oq jS) xv (cn eT (a1 xv))) (qG (sq (jq xv xv))) qQ) (qF (sq (qI ng (qI Av qK qK) (qI Av qK qK))) (qG (qU (fC (a3 (qI ng (qI nh xv xv) (cz BP (a1 (ce IP xv (qI Av qK qK))))) (qI nh (qI gt (qI gt (qI nh xv qK) (qI ng qK xv)) qK) qK) qK)))))))
abbrev m5:d3:=top 25
def jY:FS:=(et (fV (mB (m2 (b2 (kE fun i j=>decide (j<i))) (m2 (b2 ez) (mV 0) (mC (D.int 0))) (mC (D.int 0)))) (et (eF (m2 (b2 mf) (m2 (b2 ez) (mV 0) (mC (D.int 0))) (mV 1)) (gN 2))
  (et (eF (m2 (b2 ss) (m2 (b2 ez) (mV 0) (mC (D.int 0))) (mV 1)) (gS (b3 f0) (mV 0) (mC (D.int 0))))
  (eW (mV 2)))) nA)
  (et (eF (m2 (b2 gj) (m2 (b2 ez) (mV 0) (mC (D.int 2))) (mC (D.int 1))) (gS (b3 f0) (mV 0) (mC (D.int 2))))
  (et (eF (m2 (b2 mf) (m2 (b2 mW) (m2 (b2 gj) (m2 (b2 gj) (m2 (b2 ez) (mV 0) (mC (D.int 1))) (m2 (b2 mW) (m2 (b2 mW) (mC (D.int 9973)) (m2 (b2 ez) (mV 0) (mC (D.int 2)))) (m2 (b2 ez) (mV 0) (mC (D.int 2))))) (mC (D.int 17))) (mC (D.int 69621))) (mC (D.int 2305843009213693921))) (gN 3))
  (et (eF (m2 (b2 mf) (m2 (b2 mW) (mV 3) (m2 (b2 gj) (m2 (b2 mf) (mV 3) (mC (D.int 999983))) (m2 (b2 mW) (mC (D.int 7919)) (m2 (b2 ez) (mV 0) (mC (D.int 2)))))) (mC (D.int 2305843009213693907))) (gN 3))
  (eW (m2 (b2 mf) (m2 (b2 gj) (m2 (b2 ss) (mV 3) (mC (D.int 101))) (m2 (b2 ss) (mV 3) (mC (D.int 1000003)))) (mV 1)))))))
def eA:FN:=iC 4 jY
theorem rM {f:dP}(F:eO K "_law_take" m5 f):
  Own P w K mg base 1 "_law_take" 2 eA:=xq ["_law_hand_here","_law_many","_law_digit","_law_mixed"] X G F λa=>
 (qF (qV (ct KO (jq xv qK) qK) (qF (sq (qI nh (jq xv qK) xv)) (qF (qR (qI wM (jq xv qK) xv) (iG xv qK (jD a.units))) (qG (qU xv)))) qQ) (qF (qR (qI gt (jq xv qK) qK) (iG xv qK (jD a.units))) (qF (sq (qI nh (qI ng (qI gt (qI gt (jq xv qK) (qI ng (qI ng qK (jq xv qK)) (jq xv qK))) qK) qK) qK)) (qF (sq (qI nh (qI ng xv (qI gt (qI nh xv qK) (qI ng qK (jq xv qK)))) qK)) (qG (qU (qI nh (qI gt (qI wM xv qK) (qI wM xv qK)) xv)))))))
abbrev lO:d3:=top 31
def jO:FS:=(fV (mB (m2 (b2 gNe) (m2 (b2 ez) (m2 (b2 ez) (mV 0) (m2 (b2 ez) (mV 1) (mV 2))) (mV 4)) (fw (d5 (m2 (b2 ez) (mV 1) (mV 5)) (d5 (mV 6) d6))))) (eW (mC (D.bl J))) nA)
def jN:FS:=(et (fV (mB (m2 (b2 gNe) (mN (b1 eQ) (d5 (m2 (b2 ez) (mV 0) (m2 (b2 ez) (mV 1) (mV 2))) d6)) (mN (b1 eQ) (d5 (mV 3) d6)))) (eW (mC (D.bl false))) nA)
  (fz (oR (d5 (mV 3) d6)) (gT 2 (fO (gN 4) (fO (gT 2 (fO (gN 5) (fO (gN 6) jp))) jp))) jO))
def mz:FS:=(et (fz (oR (d5 (mV 0) d6)) (gT 2 (fO (gN 2) (fO (gN 3) jp))) jN)
  (eW (mC (D.bl M))))
def fU:FN:=iC 7 mz
theorem pL {f:dP}(F:eO K "_law_keeps" lO f):
  Own P w K mg base 1 "_law_keeps" 2 fU:=xq ["_law_web_here","_law_turn","_law_room","_law_row","_law_door","_law_other","_law_back"] X G F λa=>
 (qF (fo (ie (a1 xv)) (tg2 gq gq) (qF (qV (ct (oq yf) (cn eT (a1 (jq xv (jq xv xv)))) (cn eT (a1 xv))) (qG (qU jw)) qQ) (qG (fo (ie (a1 xv)) (tg2 gq (tg2 gq gq)) (qG (qV (ct (oq yf) (jq (jq xv (jq xv xv)) xv) (eJ (a2 (jq xv xv) xv))) (qG (qU jw)) qQ)))))) (qG (qU jw)))
abbrev lK:d3:=top 32
def jL:FS:=(fV (mB (m2 (b2 fX) (mV 5) (mV 1))) (et (eF (m2 (b2 gj) (m2 (b2 ez) (mV 1) (mV 3)) (fw (d5 (mV 4) d6))) (gS (b3 f0) (mV 1) (mV 5)))
  (fQ (nB (b2 iF) (mV 2) (d5 (mV 5) d6)))) nA)
def jK:FT:=(mB (m2 (b2 gNe) (mV 2) (ic d6)))
def jJ:FS:=(et (eF (nB (b2 vS) (mV 2) (d5 (mC (D.int 0)) d6)) (gN 3))
  (fz (oR (d5 (m2 (b2 ez) (mV 0) (mV 3)) d6)) (gT 2 (fO (gN 4) (fO (gT 2 (fO (gN 5) (fO (gN 6) jp))) jp))) jL))
def mw:FS:=(et (eF (fw (d5 (wR [((mC (D.int 0)),(fw d6))]) (d5 (ic (d5 (mC (D.int 0)) d6)) d6))) (gT 2 (fO (gN 1) (fO (gN 2) jp))))
  (et (sX jK jJ 100000)
  (eW (eZ 1 [1] (pN (d5 (mN (b1 eQ) (d5 (mV 0) d6)) d6)) (gN 0) fu (eR (m2 (b2 ez) (mV 1) (mV 0)))))))
def gE:FN:=iC 7 mw
theorem pI {f:dP}(F:eO K "_law_walks" lK f):
  Own P w K mg base 1 "_law_walks" 1 gE:=xq ["_law_web_here","_law_found","_law_waiting","_law_room","_law_door","_law_other","_law_back"] X G F λa=>
 (qF (qR (eJ (a2 (sT (sS qK (eJ qN) wm)) (fC (a1 qK)))) (tg2 gq gq)) (qF (kd 100000 Pp (ct (oq yf) xv (fC qN)) (qF (sq (qe Px Py zv xv (a1 qK))) (qG (fo (ie (a1 (jq xv xv))) (tg2 gq (tg2 gq gq)) (qG (qV (ct (oq lY) xv xv (by with_unfolding_all rfl)) (qF (qR (qI gt (jq xv xv) (eJ (a1 xv))) (iG xv xv (jD a.units))) (qG (lq ap xv (a1 xv)))) qQ)))))) (qG (qU (fk ["_law_room"] (ir (a1 (cn eT (a1 xv)))) ⟨gq,eH,(jq xv xv)⟩)))))
abbrev ol:d3:=top 33
def lW:FS:=(et (fV (mOr (mB (m2 (b2 Hl) (mV 1) (mC D.non))) (mB (m2 (b2 (kE fun i j=>decide (j<=i))) (mV 3) (mN (b1 eQ) (d5 (m2 (b2 ez) (mV 0) (mV 1)) d6))))) (eW (mC D.non)) nA)
  (eF (m2 (b2 ez) (m2 (b2 ez) (m2 (b2 ez) (mV 0) (mV 1)) (mV 3)) (mC (D.int 0))) (gN 1)))
def py:FS:=(et (fz (gZ (mV 2)) (gN 3) lW)
  (eW (mV 1)))
def iB:FN:=iC 4 py
theorem tY {f:dP}(F:eO K "_law_led" ol f):
  Own P w K mg base 1 "_law_led" 3 iB:=xq ["_law_web_here","_law_room","_law_walk","_law_door"] X G F λa=>
 (qF (fo (qd xv) gq (qF (qV (sR (u9 (ct IL xv nI) (qS (ct IP xv (cn eT (a1 (jq xv xv))))))) (qG (qU nI)) qQ) (qG (sq (jq (jq (jq xv xv) xv) qK))))) (qG (qU xv)))
abbrev m6:d3:=top 36
def kK:FS:=(eF (m2 (b2 gj) (mV 2) (eZ 1 [1,3] (gZ (mV 2)) (gN 0) (mB (m2 (b2 gLt) (mN (b1 eQ) (d5 (mV 0) d6)) (mV 1))) (eR (m2 (b2 gj) (mV 0) (fw (d5 (mV 2) d6)))))) (gN 2))
def nr:FS:=(et (eF (ic (d5 (fw d6) d6)) (gN 2))
  (et (fz (pN (d5 (mV 0) d6)) (gN 3) kK)
  (eW (eZ 1 [1] (gZ (mV 2)) (gN 0) (mB (m2 (b2 gEq) (mN (b1 eQ) (d5 (mV 0) d6)) (mV 1))) (eR (mV 0))))))
def gW:FN:=iC 4 nr
theorem rO {f:dP}(F:eO K "_law_sets" m6 f):
  Own P w K mg base 1 "_law_sets" 2 gW:=xq ["_law_rooms","_law_many","_law_found","_law_room"] X G F λa=>
 (qF (sq (fC (a1 (eJ qN)))) (qF (fo (ir (a1 xv)) gq (qG (sq (qI gt xv (fk ["_law_some"] (qd xv) ⟨gq,(jv (ct (oq jS) (cn eT (a1 xv)) xv)),(qI gt xv (eJ (a1 xv)))⟩))))) (qG (qU (fk ["_law_some"] (qd xv) ⟨gq,(jv (ct (oq rR) (cn eT (a1 xv)) xv)),xv⟩)))))
abbrev oh:d3:=top 2
def pr:FS:=(eW (kP (mN (ea 1 jg) (d5 (mV 0) d6)) (mCh (b2 (kE λi j=>decide (i<=j))) (b2 gLt) (mC (D.int 0)) (mV 0) (mV 1))))
def iz:FN:=iC 2 pr
theorem tV {f:dP}(F:eO K "is_below" oh f)(a:Own P w K mg base 1 "is_whole" 1 jg):
  Own P w K mg base 2 "is_below" 2 iz:=xq ["thing","bound"] X G F λb=>
 (qG (qU (i6 (wn a (a1 xv)) (ke (xQ IK (oq jS) qK xv xv)))))
abbrev Ez:d3:=top 8
def EO:FS:=(et (eF (mN (ea 3 l7) (d5 (mV 0) (d5 (mV 1) (d5 (mV 2) d6)))) (gN 3))
  (et (fV (mB (m2 (b2 gLt) (mN (b1 eQ) (d5 (mV 3) d6)) (mN (b1 eQ) (d5 (mV 2) d6)))) (eW (mC D.non)) nA)
  (eW (I0 (mTr (mV 3)) (m2 (b2 ez) (m2 (b2 ez) (mV 3) (m1 (b1 Bt) (mC (D.int 1)))) (mC (D.int 0))) (mV 1)))))
def t9:FN:=iC 4 EO
theorem Go {f:dP}(F:eO K "led" Ez f)(a:Own P w K mg base 1 "stops" 3 l7):
  Own P w K mg base 2 "led" 3 t9:=xq ["web","room","walk","passed"] X G F λb=>
 (qF (sq (wn a (a3 xv xv xv))) (qF (qV (ct (oq jS) (cn eT (a1 xv)) (cn eT (a1 xv))) (qG (qU nI)) qQ) (qG (qU (zd (hM xv) (jq (jq xv (za EF qK)) qK) xv)))))
abbrev og:d3:=top 18
def pp:FS:=(eW (mN (b1 mX) (d5 (eZ 1 [1] (gZ (mV 0)) (gN 0) fu (eR (m2 (b2 D9) (mN (ea 2 jT) (d5 (mV 0) (d5 (mV 1) d6))) (mV 1)))) d6)))
def iy:FN:=iC 2 pp
theorem tU {f:dP}(F:eO K "is_least" og f)(a:Own P w K mg base 1 "turned" 2 jT):
  Own P w K mg base 2 "is_least" 2 iy:=xq ["orders","rooms"] X G F λb=>
 (qG (qU (cn (xB O) (a1 (fk ["order"] (qd xv) ⟨gq,eH,(ce (oq IN) (wn a (a2 xv xv)) xv)⟩)))))
abbrev pU:d3:=top 21
def nf:FS:=(eF (mN (b1 gTup) (d5 (eZ 2 [1] (gZ (mV 4)) (gT 2 (fO (gN 0) (fO (gN 1) jp))) fu (eR (fw (d5 (m2 (b2 ez) (mV 2) (mV 0)) (d5 (mV 1) d6))))) d6)) (gS (b3 f0) (mV 2) (m2 (b2 ez) (mV 1) (mV 3))))
def qL:FS:=(et (eF l8 (gN 2))
  (et (fz (oR (d5 (mV 0) d6)) (gT 2 (fO (gN 3) (fO (gN 4) jp))) nf)
  (eW (mN (ea 1 gM) (d5 (mV 2) d6)))))
def iY:FN:=iC 5 qL
theorem vz {f:dP}(F:eO K "renamed" pU f)(a:Own P w K mg base 1 "in_order" 1 gM):
  Own P w K mg base 2 "renamed" 2 iY:=xq ["web","order","rooms","room","doors"] X G F λb=>
 (qF (sq ln) (qF (fo (ie (a1 xv)) (tg2 gq gq) (qG (qR (cz fh (a1 (fk ["there","back"] (qd xv) ⟨(tg2 gq gq),eH,(eJ (a2 (jq xv xv) xv))⟩))) (iG xv (jq xv xv) (jD b.units))))) (qG (qU (wn a (a1 xv))))))
abbrev kJ:d3:=top 26
def hE:FT:=(mB (m2 (b2 gNe) (mV 4) (ic d6)))
def hD:FS:=(fQ (nB (b2 iF) (mV 5) (d5 (nB (b2 vS) (mV 4) (d5 (mN (ea 2 eA) (d5 (mV 0) (d5 (mN (b1 eQ) (d5 (mV 4) d6)) d6))) d6)) d6)))
def hC:FS:=(et (eF (fw (d5 (mN (b1 D8) (d5 (mV 3) d6)) (d5 (ic d6) d6))) (gT 2 (fO (gN 4) (fO (gN 5) jp))))
  (et (sX hE hD 100000)
  (fQ (nB (b2 iF) (mV 2) (d5 (mV 5) d6)))))
def hB:FS:=(fQ (nB (b2 iF) (oG (mV 6) (mV 9) (ic d6)) (d5 (fw (d5 (mV 7) (d5 (mV 8) d6))) d6)))
def jk:FS:=(fz (oR (d5 (mV 5) d6)) (gT 2 (fO (gN 8) (fO (gN 9) jp))) hB)
def kW:FS:=(et (eF (ic d6) (gN 2))
  (et (fz (gZ (mV 1)) (gN 3) hC)
  (et (eF l8 (gN 6))
  (et (fz (oR (d5 (mV 2) d6)) (gT 2 (fO (gN 7) (fO (gN 5) jp))) jk)
  (eW (mN (b1 gTup) (d5 (eZ 2 [6] (oR (d5 (mV 2) d6)) (gT 2 (fO (gN 0) (fO (gN 1) jp))) fu (eR (mN (b1 gTup) (d5 (eZ 2 [2,0] (oR (d5 (mV 1) d6)) (gT 2 (fO (gN 0) (fO (gN 1) jp))) fu (eR (m2 (b2 ez) (m2 (b2 ez) (mV 2) (mV 1)) (mN (b1 uv) (d5 (m2 (b2 gEq) (m2 (b2 ez) (m2 (b2 ez) (mV 2) (mV 1)) (mC (D.int 0))) (fw (d5 (mV 3) (d5 (mV 0) d6)))) d6))))) d6)))) d6)))))))
def gh:FN:=iC 10 kW
theorem oA {f:dP}(F:eO K "_law_doored" kJ f)(a:Own P w K mg base 1 "_law_take" 2 eA):
  Own P w K mg base 2 "_law_doored" 2 gh:=xq ["_law_hand_here","_law_ends","_law_rows","_law_some","_law_left","_law_row","_law_places","_law_room","_law_door","_law_way"] X G F λb=>
 (qF (sq (fC qN)) (qF (fo (qd xv) gq (qF (lk 4 5 O (iH O) O O (by decide) O O (a2 (cz Hx (a1 xv)) (fC qN))) (qF (kd 100000 Pp (ct (oq yf) xv (fC qN)) (qG (lq ap xv (a1 (qe Px Py zv xv (a1 (wn a (a2 xv (cn eT (a1 xv)))))))))) (qG (lq ap xv (a1 xv)))))) (qF (sq ln) (qF (fo (ie (a1 xv)) (tg2 gq gq) (qG (fo (ie (a1 xv)) (tg2 gq gq) (qG (lq ap (Ch xv xv (fC qN)) (a1 (eJ (a2 xv xv)))))))) (qG (qU (cz fh (a1 (fk ["_law_room","_law_row"] (ie (a1 xv)) ⟨(tg2 gq gq),eH,(cz fh (a1 (fk ["_law_door","_law_way"] (ie (a1 xv)) ⟨(tg2 gq gq),eH,(jq (jq xv xv) (cz BP (a1 (ce (oq rR) (jq (jq xv xv) qK) (eJ (a2 xv xv))))))⟩)))⟩)))))))))
abbrev lN:d3:=top 28
def my:FS:=(et (eF (AS (d5 (mV 1) d6)) (gN 2))
  (eW (eZ 1 [2,0] (pN (d5 (mV 1) d6)) (gN 0) fu (eR (nB (b2 vS) (mV 1) (d5 (mN (ea 2 eA) (d5 (mV 2) (d5 (mN (b1 eQ) (d5 (mV 1) d6)) d6))) d6))))))
def fy:FN:=iC 3 my
theorem pK {f:dP}(F:eO K "_law_order" lN f)(a:Own P w K mg base 1 "_law_take" 2 eA):
  Own P w K mg base 2 "_law_order" 2 fy:=xq ["_law_hand_here","_law_many","_law_left"] X G F λb=>
 (qF (sq (vc O O (bz B) O (bz B) (a1 xv))) (qG (qU (fk ["_law_k"] (ir (a1 xv)) ⟨gq,eH,(qe Px Py zv xv (a1 (wn a (a2 xv (cn eT (a1 xv))))))⟩))))
abbrev lM:d3:=top 34
def jM:FS:=(et (eF (mN (b1 gTup) (d5 (eZ 1 [0,3] (gZ (mV 2)) (gN 0) fu (eR (mN (ea 3 iB) (d5 (mV 1) (d5 (mV 2) (d5 (mV 0) d6)))))) d6)) (gN 4))
  (fV (rY (mB (m2 (b2 fX) (mC D.non) (mV 4))) (rY (mB (m2 (b2 gEq) (mN (b1 oS) (d5 (mN (b1 ij) (d5 (mV 4) d6)) d6)) (mN (b1 eQ) (d5 (mV 4) d6)))) (mTr (mN (ea 2 fU) (d5 (mV 0) (d5 (mV 4) d6)))))) (fQ (nB (b2 iF) (mV 1) (d5 (mV 4) d6))) nA))
def mx:FS:=(et (eF (fw (d5 (ic d6) (d5 (mN (ea 1 gE) (d5 (mV 0) d6)) d6))) (gT 2 (fO (gN 1) (fO (gN 2) jp))))
  (et (fz (pN (d5 (mN (b1 eQ) (d5 (mV 0) d6)) d6)) (gN 3) jM)
  (eW (mN (b1 gI) (d5 (mV 1) d6)))))
def gF:FN:=iC 5 mx
theorem pJ {f:dP}(F:eO K "_law_turns" lM f)(d:Own P w K mg base 1 "_law_keeps" 2 fU)(c:Own P w K mg base 1 "_law_led" 3 iB)(b:Own P w K mg base 1 "_law_walks" 1 gE):
  Own P w K mg base 2 "_law_turns" 1 gF:=xq ["_law_web_here","_law_found","_law_walks_here","_law_room","_law_turn"] X G F λa=>
 (qF (lk 1 2 O (iH O) O O (by decide) O O (a2 (fC qN) (wn b (a1 xv)))) (qF (fo (ir (a1 (cn eT (a1 xv)))) gq (qF (sq (cz fh (a1 (fk ["_law_walk"] (qd xv) ⟨gq,eH,(wn c (a3 xv xv xv))⟩)))) (qG (qV (sR (qT (ct (oq lY) nI xv (by with_unfolding_all rfl)) (qT (ct (oq rR) (cn BN (a1 (cz (BM a) (a1 xv)))) (cn eT (a1 xv))) (sQ (hM (wn d (a2 xv xv))))))) (qG (lq ap xv (a1 xv))) qQ)))) (qG (qU (cn sE (a1 xv))))))
abbrev kI:d3:=top 37
def jj:FS:=(eF (mC (D.bl M)) (gS (b3 f0) (mV 3) (mN (b1 uu) (d5 (eZ 1 [4] (gZ (mV 0)) (gN 0) fu (eR (mN (b1 gTup) (d5 (mN (b1 gI) (d5 (eZ 1 [0] (gZ (mV 1)) (gN 0) fu (eR (m2 (b2 ez) (mV 1) (mV 0)))) d6)) d6)))) d6))))
def kU:FS:=(et (eF l8 (gN 3))
  (et (fz (gZ (mN (ea 2 gW) (d5 (mV 1) (d5 (mV 2) d6)))) (gN 4) jj)
  (eW (mN (b1 gTup) (d5 (mN (b1 me) (d5 (mV 3) d6)) d6)))))
def gg:FN:=iC 5 kU
theorem oz {f:dP}(F:eO K "_law_leasts" kI f)(b:Own P w K mg base 1 "_law_sets" 2 gW):
  Own P w K mg base 2 "_law_leasts" 3 gg:=xq ["_law_every","_law_rooms","_law_many","_law_found","_law_some"] X G F λa=>
 (qF (sq ln) (qF (fo (qd (wn b (a2 xv xv))) gq (qG (qR jw (iG xv (cn (Hw O a.units) (a1 (fk ["_law_turn"] (qd xv) ⟨gq,eH,(cz fh (a1 (cn sE (a1 (fk ["_law_room"] (qd xv) ⟨gq,eH,(jq xv xv)⟩)))))⟩))) (jD a.units))))) (qG (qU (cz fh (a1 (cn (BK O a.units) (a1 xv))))))))
abbrev oe:d3:=top 12
def pk:FS:=(et (fV (rW (mTr (mN (ea 2 fL) (d5 (mV 1) (d5 (mN (b1 eQ) (d5 (mV 0) d6)) d6))))) (eW (mC (D.bl false))) nA)
  (eW (kP (mN (b1 mX) (d5 (eZ 1 [0] (gZ (mV 1)) (gN 0) fu (eR (mN (ea 2 iz) (d5 (mV 0) (d5 (mN (b1 eQ) (d5 (mV 1) d6)) d6))))) d6)) (mN (ea 1 gD) (d5 (mV 1) d6)))))
def ix:FN:=iC 2 pk
theorem tT {f:dP}(F:eO K "is_order" oe f)(c:Own P w K mg base 1 "all_unlike" 1 gD)(a:Own P w K mg base 2 "is_below" 2 iz)(b:Own P w K mg base 1 "is_tuple_of" 2 fL):
  Own P w K mg base 3 "is_order" 2 ix:=xq ["web","thing"] X G F λd=>
 (qF (qV (nH (hM (wn b (a2 xv (cn eT (a1 xv)))))) (qG (qU jw)) qQ) (qG (qU (i6 (cn (xB O) (a1 (fk ["room"] (qd xv) ⟨gq,eH,(wn a (a2 xv (cn eT (a1 xv))))⟩))) (ke (wn c (a1 xv)))))))
abbrev iU:d3:=top 27
def gr:FS:=(et (eF (eZ 1 [4] (pN (d5 (mV 5) d6)) (gN 0) (mB (m2 (b2 gLt) (mN (b1 eQ) (d5 (m2 (b2 ez) (mV 1) (mV 0)) d6)) (mC (D.int 4)))) (eR (mV 0))) (gN 6))
  (et (eF (m2 (b2 ez) (mV 6) (mN (ea 2 eA) (d5 (mV 0) (d5 (mN (b1 eQ) (d5 (mV 6) d6)) d6)))) (gN 7))
  (et (fQ (nB (b2 iF) (m2 (b2 ez) (mV 4) (mV 5)) (d5 (mV 3) d6)))
  (et (fQ (nB (b2 iF) (m2 (b2 ez) (mV 4) (mV 7)) (d5 (mV 3) d6)))
  (eF (m2 (b2 gj) (mV 3) (mC (D.int 1))) (gN 3))))))
def gp:FS:=(et (eF (fw (d5 (mN (ea 2 eA) (d5 (mV 0) (d5 (mV 2) d6))) (d5 (mN (ea 2 eA) (d5 (mV 0) (d5 (mV 2) d6))) d6))) (gT 2 (fO (gN 9) (fO (gN 7) jp))))
  (fV (rY (mB (m2 (b2 gLt) (m2 (b2 gj) (mN (b1 eQ) (d5 (m2 (b2 ez) (mV 4) (mV 9)) d6)) (mN (b1 uv) (d5 (m2 (b2 gEq) (mV 9) (mV 7)) d6))) (mC (D.int 4)))) (mB (m2 (b2 gLt) (mN (b1 eQ) (d5 (m2 (b2 ez) (mV 4) (mV 7)) d6)) (mC (D.int 4))))) (et (fQ (nB (b2 iF) (m2 (b2 ez) (mV 4) (mV 9)) (d5 (mV 3) d6)))
  (et (fQ (nB (b2 iF) (m2 (b2 ez) (mV 4) (mV 7)) (d5 (mV 3) d6)))
  (eF (m2 (b2 gj) (mV 3) (mC (D.int 1))) (gN 3)))) nA))
def i4:FS:=(et (eF (fw (d5 (m2 (b2 gj) (mC (D.int 1)) (mN (ea 2 eA) (d5 (mV 0) (d5 (mV 1) d6)))) (d5 (mC (D.int 0)) d6))) (gT 2 (fO (gN 2) (fO (gN 3) jp))))
  (et (eF (eZ 1 [] (pN (d5 (mV 2) d6)) (gN 0) fu (eR (ic d6))) (gN 4))
  (et (fz (Hf (d5 (mC (D.int 1)) (d5 (mV 2) d6))) (gN 5) gr)
  (et (fz (pN (d5 (mN (ea 2 eA) (d5 (mV 0) (d5 (mC (D.int 6)) d6))) d6)) (gN 8) gp)
  (eW (mN (ea 2 gh) (d5 (mV 0) (d5 (mV 4) d6))))))))
def fD:FN:=iC 10 i4
theorem lX {f:dP}(F:eO K "_law_plain_web" iU f)(b:Own P w K mg base 2 "_law_doored" 2 gh)(a:Own P w K mg base 1 "_law_take" 2 eA):
  Own P w K mg base 3 "_law_plain_web" 2 fD:=xq ["_law_hand_here","_law_most","_law_rooms","_law_many","_law_ends","_law_room","_law_some","_law_other","_law_turn","_law_one"] X G F λc=>
 (qF (lk 2 3 O (iH O) O O (by decide) O O (a2 (qI gt qK (wn a (a2 xv xv))) qK)) (qF (sq (fk ["_law_room"] (ir (a1 xv)) ⟨gq,eH,(fC qN)⟩)) (qF (fo (kZ O (bz B) (a2 qK xv)) gq (qF (kf 6 O (T:=["_law_other"]) (keep:=[4]) ⟨O,by decide+kernel,(kc "_law_ends" (cD _))⟩ O (ir (a1 xv)) (λ_ _ _=>⟨gq,(jv (ct (oq jS) (cn eT (a1 (jq xv xv))) qK)),xv⟩) (iH O) O (by first|exact Or.inl rfl|exact Or.inr rfl)) (qF (sq (jq xv (wn a (a2 xv (cn eT (a1 xv)))))) (qF (lq ap (jq xv xv) (a1 xv)) (qF (lq ap (jq xv xv) (a1 xv)) (qG (sq (qI gt xv qK)))))))) (qF (fo (ir (a1 (wn a (a2 xv qK)))) gq (qF (lk 9 7 rfl (iH rfl) rfl rfl (by decide) rfl rfl (a2 (wn a (a2 xv xv)) (wn a (a2 xv xv)))) (qG (qV (sR (qT (ct (oq jS) (qI gt (cn eT (a1 (jq xv xv))) (cz BP (a1 (ce (oq rR) xv xv)))) qK) (sQ (ct (oq jS) (cn eT (a1 (jq xv xv))) qK)))) (qF (lq ap (jq xv xv) (a1 xv)) (qF (lq ap (jq xv xv) (a1 xv)) (qG (sq (qI gt xv qK))))) qQ)))) (qG (qU (wn b (a2 xv xv))))))))
abbrev lP:d3:=top 29
def iw:FS:=(et (eF (fw (d5 (mV 7) (d5 (mV 10) (d5 (mV 8) d6)))) (gS (b3 f0) (mV 3) (fw (d5 (mV 4) (d5 (mV 9) (d5 (mV 6) d6))))))
  (eF (fw (d5 (mV 4) (d5 (mV 9) (d5 (mV 6) d6)))) (gS (b3 f0) (mV 3) (fw (d5 (mV 7) (d5 (mV 10) (d5 (mV 8) d6)))))))
def jR:FS:=(fV (mB (m2 (b2 gLt) (fw (d5 (mV 4) (d5 (mV 6) d6))) (fw (d5 (mV 7) (d5 (mV 8) d6))))) (fz (oR (d5 (mN (ea 2 fy) (d5 (mV 0) (d5 (mV 2) d6))) d6)) (gT 2 (fO (gN 9) (fO (gN 10) jp))) iw) nA)
def iu:FS:=(fz (oR (d5 (mV 5) d6)) (gT 2 (fO (gN 6) (fO (gT 2 (fO (gN 7) (fO (gN 8) jp))) jp))) jR)
def jQ:FS:=(fV (mB (m2 (b2 fX) (oF (m2 (b2 ez) (mV 3) (fw (d5 (mV 4) (d5 (mV 9) (d5 (mV 6) d6))))) kM (ni (mC (D.int 2)))) (mV 11))) (fQ (nB (b2 iF) (mV 11) (d5 (oF (m2 (b2 ez) (mV 3) (fw (d5 (mV 4) (d5 (mV 9) (d5 (mV 6) d6))))) kM (ni (mC (D.int 2)))) d6))) nA)
def iq:FT:=(mB (m2 (b2 gLt) (mV 12) (mN (b1 eQ) (d5 (mV 11) d6))))
def ip:FS:=(et (eF (m2 (b2 ez) (mV 11) (mV 12)) (gT 2 (fO (gN 4) (fO (gN 9) jp))))
  (et (fz (pN (d5 (mN (b1 eQ) (d5 (m2 (b2 ez) (mV 1) (mV 4)) d6)) d6)) (gN 6) jQ)
  (eF (m2 (b2 gj) (mV 12) (mC (D.int 1))) (gN 12))))
def jP:FS:=(et (eF (eZ 1 [3,4,9] (pN (d5 (mN (b1 eQ) (d5 (m2 (b2 ez) (mV 1) (mV 4)) d6)) d6)) (gN 0) fu (eR (m2 (b2 ez) (mV 1) (fw (d5 (mV 2) (d5 (mV 3) (d5 (mV 0) d6))))))) (gN 14))
  (fQ (nB (b2 iF) (mV 13) (d5 (mN (b1 gTup) (d5 (eZ 1 [11] (gZ (mV 14)) (gN 0) fu (eR (fw (d5 (nB (b2 Bu) (mV 1) (d5 (oF (mV 0) kM (ni (mC (D.int 2)))) d6)) (d5 (m2 (b2 ez) (mV 0) (mC (D.int 2))) d6))))) d6)) d6))))
def mD:FS:=(et (eF l8 (gN 3))
  (et (fz (oR (d5 (mV 1) d6)) (gT 2 (fO (gN 4) (fO (gN 5) jp))) iu)
  (et (eF (fw (d5 (ic (d5 (fw (d5 (mC (D.int 0)) (d5 (mC (D.int 0)) d6))) d6)) (d5 (mC (D.int 0)) d6))) (gT 2 (fO (gN 11) (fO (gN 12) jp))))
  (et (sX iq ip 100000)
  (et (eF (ic d6) (gN 13))
  (et (fz (gZ (mV 11)) (gT 2 (fO (gN 4) (fO (gN 9) jp))) jP)
  (eW (fw (d5 (mN (b1 gTup) (d5 (mV 13) d6)) (d5 (mN (b1 gTup) (d5 (eZ 2 [] (gZ (mV 11)) (gT 2 (fO (gN 0) (fO (gN 1) jp))) fu (eR (mV 0))) d6)) d6))))))))))
def gG:FN:=iC 15 mD
theorem pM {f:dP}(F:eO K "_law_cover" lP f)(b:Own P w K mg base 2 "_law_order" 2 fy):
  Own P w K mg base 3 "_law_cover" 3 gG:=xq ["_law_hand_here","_law_web_here","_law_copies","_law_steps","_law_room","_law_row","_law_door","_law_other","_law_back","_law_copy","_law_to","_law_met","_law_at","_law_found","_law_some"] X G F λa=>
 (qF (sq ln) (qF (fo (ie (a1 xv)) (tg2 gq gq) (qG (fo (ie (a1 xv)) (tg2 gq (tg2 gq gq)) (qG (qV (ct (oq jS) (eJ (a2 xv xv)) (eJ (a2 xv xv))) (qG (fo (ie (a1 (wn b (a2 xv xv)))) (tg2 gq gq) (qF (qR (eJ (a3 xv xv xv)) (iG xv (eJ (a3 xv xv xv)) (jD a.units))) (qG (qR (eJ (a3 xv xv xv)) (iG xv (eJ (a3 xv xv xv)) (jD a.units))))))) qQ))))) (qF (qR (eJ (a2 (fC (a1 (eJ (a2 qK qK)))) qK)) (tg2 gq gq)) (qF (kd 100000 Pp (ct (oq jS) xv (cn eT (a1 xv))) (qF (qR (jq xv xv) (tg2 gq gq)) (qF (fo (ir (a1 (cn eT (a1 (jq xv xv))))) gq (qG (qV (ct (oq lY) (i5 (jq xv (eJ (a3 xv xv xv))) lm (ll qK)) xv (by with_unfolding_all rfl)) (qG (lq ap xv (a1 (i5 (jq xv (eJ (a3 xv xv xv))) lm (ll qK))))) qQ))) (qG (sq (qI gt xv qK)))))) (qF (sq (fC qN)) (qF (fo (qd xv) (tg2 gq gq) (qF (kf 14 O (T:=["_law_door"]) (keep:=[3,4,9]) ⟨O,by decide+kernel,(kc "_law_steps" (kc "_law_room" (kc "_law_copy" (cD _))))⟩ O (ir (a1 (cn eT (a1 (jq xv xv))))) (λ_ _ _=>⟨gq,eH,(jq xv (eJ (a3 xv xv xv)))⟩) (iH O) O (by first|exact Or.inl rfl|exact Or.inr rfl)) (qG (lq ap xv (a1 (cz fh (a1 (fk ["_law_step"] (qd xv) ⟨gq,eH,(eJ (a2 (qe PySem.F.slot_list_index PySem.F.type_list_index (HY a.units) xv (a1 (i5 xv lm (ll qK)))) (jq xv qK)))⟩)))))))) (qG (qU (eJ (a2 (cz fh (a1 xv)) (cz fh (a1 (fk ["_law_room","_law_copy"] (qd xv) ⟨(tg2 gq gq),eH,xv⟩)))))))))))))
abbrev pV:d3:=top 11
def qM:FS:=(eW (kP (mN (ea 2 ix) (d5 (mV 0) (d5 (mV 1) d6))) (mN (b1 mX) (d5 (eZ 1 [0,1] (pN (d5 (mN (b1 eQ) (d5 (mV 0) d6)) d6)) (gN 0) fu (eR (mN (ea 3 gC) (d5 (mV 1) (d5 (mV 2) (d5 (mV 0) d6)))))) d6))))
def iZ:FN:=iC 2 qM
theorem vA {f:dP}(F:eO K "is_turn" pV f)(b:Own P w K mg base 1 "is_carried" 3 gC)(a:Own P w K mg base 3 "is_order" 2 ix):
  Own P w K mg base 4 "is_turn" 2 iZ:=xq ["web","thing"] X G F λc=>
 (qG (qU (i6 (wn a (a2 xv xv)) (ke (cn (xB O) (a1 (fk ["room"] (ir (a1 (cn eT (a1 xv)))) ⟨gq,eH,(wn b (a3 xv xv xv))⟩)))))))
abbrev oj:d3:=top 30
def px:FS:=(et (eF (m2 (b2 ez) (ic (d5 (mC (D.int 1)) (d5 (mC (D.int 1)) (d5 (mC (D.int 2)) (d5 (mC (D.int 2)) (d5 (mC (D.int 3)) (d5 (mC (D.int 4)) d6))))))) (mN (ea 2 eA) (d5 (mV 0) (d5 (mC (D.int 6)) d6)))) (gN 1))
  (et (eF (mN (ea 2 fD) (d5 (mV 0) (d5 (m2 (b2 ss) (mC (D.int 8)) (mV 1)) d6))) (gN 2))
  (et (fV (mB (m2 (b2 gEq) (mV 1) (mC (D.int 1)))) (eW (fw (d5 (mV 2) (d5 (Dw (d5 (mN (b1 eQ) (d5 (mV 2) d6)) d6)) d6)))) nA)
  (eW (mN (ea 3 gG) (d5 (mV 0) (d5 (mV 2) (d5 (mV 1) d6))))))))
def iA:FN:=iC 3 px
theorem tX {f:dP}(F:eO K "_law_web" oj f)(b:Own P w K mg base 3 "_law_cover" 3 gG)(a:Own P w K mg base 3 "_law_plain_web" 2 fD)(c:Own P w K mg base 1 "_law_take" 2 eA):
  Own P w K mg base 4 "_law_web" 1 iA:=xq ["_law_hand_here","_law_copies","_law_web_here"] X G F λd=>
 (qF (sq (jq (fC (qA qK (qA qK (qA qK (a3 qK qK qK))))) (wn c (a2 xv qK)))) (qF (sq (wn a (a2 xv (qI wM qK xv)))) (qF (qV (ct (oq rR) xv qK) (qG (qU (eJ (a2 xv (zb O O (bz B) O (bz B) (a1 (cn eT (a1 xv)))))))) qQ) (qG (qU (wn b (a3 xv xv xv)))))))
abbrev wA:d3:=top 14
def xC:FS:=(et (eF (mN (ea 2 mO) (d5 (mV 0) (d5 (mC (D.int 0)) d6))) (gN 1))
  (et (eF (eZ 1 [1,0] (pN (d5 (mN (b1 eQ) (d5 (mV 0) d6)) d6)) (gN 0) fu (eR (mN (b1 gTup) (d5 (eZ 1 [2,0] (gZ (mV 1)) (gN 0) fu (eR (mN (ea 3 t9) (d5 (mV 1) (d5 (mV 2) (d5 (mV 0) d6)))))) d6)))) (gN 2))
  (eW (mN (b1 gTup) (d5 (eZ 1 [0] (gZ (mV 2)) (gN 0) (mTr (mN (ea 2 iZ) (d5 (mV 1) (d5 (mV 0) d6)))) (eR (mV 0))) d6)))))
def l6:FN:=iC 3 xC
theorem Ar {f:dP}(F:eO K "turns" wA f)(b:Own P w K mg base 4 "is_turn" 2 iZ)(a:Own P w K mg base 2 "led" 3 t9)(c:Own P w K mg base 1 "ways" 2 mO):
  Own P w K mg base 5 "turns" 1 l6:=xq ["web","walks","found"] X G F λd=>
 (qF (sq (wn c (a2 xv qK))) (qF (kf 2 O (T:=["room"]) (keep:=[1,0]) ⟨O,by decide+kernel,(kc "walks" (kc "web" (cD _)))⟩ O (ir (a1 (cn eT (a1 xv)))) (λ_ _ _=>⟨gq,eH,(cz fh (a1 (fk ["walk"] (qd xv) ⟨gq,eH,(wn a (a3 xv xv xv))⟩)))⟩) (iH O) O (by first|exact Or.inl rfl|exact Or.inr rfl)) (qG (qU (cz fh (a1 (fk ["order"] (qd xv) ⟨gq,(jv (hM (wn b (a2 xv xv)))),xv⟩)))))))
abbrev m4:d3:=top 17
def nq:FS:=(et (eF (mN (ea 1 l6) (d5 (mV 0) d6)) (gN 2))
  (eW (mN (b1 gTup) (d5 (eZ 1 [2] (gZ (mN (ea 2 gB) (d5 (mN (b1 eQ) (d5 (mV 0) d6)) (d5 (mV 1) d6)))) (gN 0) (mTr (mN (ea 2 iy) (d5 (mV 1) (d5 (mV 0) d6)))) (eR (mV 0))) d6))))
def fH:FN:=iC 3 nq
theorem rL {f:dP}(F:eO K "standings" m4 f)(a:Own P w K mg base 2 "is_least" 2 iy)(c:Own P w K mg base 1 "some_rooms" 2 gB)(b:Own P w K mg base 5 "turns" 1 l6):
  Own P w K mg base 6 "standings" 2 fH:=xq ["web","many","orders"] X G F λd=>
 (qF (sq (wn b (a1 xv))) (qG (qU (cz fh (a1 (fk ["rooms"] (qd (wn c (a2 (cn eT (a1 xv)) xv))) ⟨gq,(jv (hM (wn a (a2 xv xv)))),xv⟩))))))
abbrev jE:d3:=top 35
def g8(self:FN):FS:=(et (fV (mTr (nC .tuple (mV 1))) (et (fV (mOr (rW (mTr (nC .tuple (mV 0)))) (mB (m2 (b2 gNe) (mN (b1 eQ) (d5 (mV 0) d6)) (mN (b1 eQ) (d5 (mV 1) d6))))) (eW (mC (D.bl false))) nA)
  (eW (mN (b1 mX) (d5 (eZ 2 [] (Jg (d5 (mV 0) (d5 (mV 1) d6))) (gT 2 (fO (gN 0) (fO (gN 1) jp))) fu (eR (mN (ea 2 self) (d5 (mV 0) (d5 (mV 1) d6))))) d6)))) nA)
  (eW (kP (nC .int (mV 0)) (kP (ua (nC .bool (mV 0))) (m2 (b2 gEq) (mV 0) (mV 1))))))
def fx:Nat->FN
 |0=>λ_ _=>Y
 |n+1=>iC 2 (g8 (fx n))
def gu:FN:=fx 8
theorem rh {f:dP}{fd:d2}(F:xK K "_law_same" "_law_same" jE f fd)(hb:kb K fd ["_law_found","_law_due"] [])(hm:mg "_law_same"=some (.ref f)){k:Nat}{a:FN}(hk:0<=k)(o_self:Own P w K mg base k "_law_same" 2 a):
  Own P w K mg base (k+1) "_law_same" 2 (iC 2 (g8 a)):=wl (n:=2) (N:=["_law_found","_law_due"]) (ps:=["_law_found","_law_due"]) (b:=g8 a) F hb hm sk O λe A c s H E d=>
 (qF (qV (hM (ii xv)) (qF (qV (sR (u9 (nH (hM (ii xv))) (qS (ct (oq yf) (cn eT (a1 xv)) (cn eT (a1 xv)))))) (qG (qU jw)) qQ) (qG (qU (cn (xB O) (a1 (fk ["_law_one","_law_other"] (Cf O (bz B) (a2 xv xv)) ⟨(tg2 gq gq),eH,(qH o_self d (nR1 _) O (a2 xv xv))⟩)))))) qQ) (qG (qU (i6 (ii xv) (i6 (wo (ii xv)) (ke (ce (oq rR) xv xv)))))))
theorem rP {f:dP}(F:eO K "_law_same" jE f):Own P w K mg base 9 "_law_same" 2 gu:=by
 have b:=wM1 X G F.ns;obtain⟨fd,F⟩:=F.fn;have a:=F.binds (ps:=["_law_found","_law_due"]) (λ_ _ _ _ _ _ e d=>KU d λ_ _=>rfl);have c:∀j:Nat,Own P w K mg base (1+j) "_law_same" 2 (fx j):=λj=>by
  induction j with
  |zero=>exact Ap F a b
  |succ j ih=>exact rh X G B F a b (show 0<=1+j by omega) ih
 exact c 8
abbrev tu:d3:=top 38
def rK:FS:=(et (eF (mN (ea 3 gg) (d5 (mV 5) (d5 (mV 6) (d5 (mV 8) d6)))) (gN 9))
  (fV (mOr (rW (mTr (mN (ea 2 gu) (d5 (mN (ea 2 fH) (d5 (mV 4) (d5 (mV 8) d6))) (d5 (mV 9) d6))))) (mB (m2 (b2 gNe) (mN (b1 eQ) (d5 (mN (ea 2 fH) (d5 (mV 7) (d5 (mV 8) d6))) d6)) (mN (b1 eQ) (d5 (mV 9) d6))))) (eW (mC (D.bl J))) nA))
def rJ:FS:=(et (eF (fw (d5 (mN (ea 1 gF) (d5 (mV 4) d6)) (d5 (mN (b1 eQ) (d5 (mV 4) d6)) d6))) (gT 2 (fO (gN 5) (fO (gN 6) jp))))
  (et (eF (mN (ea 2 iY) (d5 (mV 4) (d5 (mN (b1 gTup) (d5 (mN (ea 2 fy) (d5 (mV 2) (d5 (mV 6) d6))) d6)) d6))) (gN 7))
  (fz (Hf (d5 (mC (D.int 1)) (d5 (m2 (b2 gj) (mV 6) (mC (D.int 1))) d6))) (gN 8) rK)))
def rH:FS:=(et (eF (mN (ea 2 fP) (d5 (mV 0) (d5 (mV 1) d6))) (gN 2))
  (et (eF (eZ 1 [2] (pN (d5 (mC (D.int 2)) d6)) (gN 0) fu (eR (m2 (b2 ez) (mN (ea 1 iA) (d5 (mV 1) d6)) (mC (D.int 0))))) (gN 3))
  (fz (gZ (m2 (b2 gj) (mV 3) (oF (mV 3) kM (ni (mC (D.int 1)))))) (gN 4) rJ)))
def wJ:FS:=(qa [M,M,J,J,J,J,J,J,J,J] [M,J,J,J,J,J,J,J,J,J] rH)
def BR:FS:=(et (fz (pN (d5 (mN (b2 D6) (d5 (mC (D.int 1)) (d5 (mN (b2 D5) (d5 (mC (D.int 4)) (d5 (mN (b1 eQ) (d5 (mV 0) d6)) d6))) d6))) d6)) (gN 1) wJ)
  (eW (mC (D.bl M))))
def m_law:FN:=iC 10 BR
theorem Gp {f:dP}{fd:d2}(F:xK K "law" "law" tu f fd)(i:Own P w K mg base 1 "_law_hand" 2 fP)(c:Own P w K mg base 2 "_law_leasts" 3 gg)(g:Own P w K mg base 2 "_law_order" 2 fy)(e:Own P w K mg base 9 "_law_same" 2 gu)(h:Own P w K mg base 2 "_law_turns" 1 gF)(j:Own P w K mg base 4 "_law_web" 1 iA)(d:Own P w K mg base 2 "renamed" 2 iY)(a:Own P w K mg base 6 "standings" 2 fH):
  m3 P w K mg base uY 10 f fd ["_law_script"] (spM K 1 m_law):=EV (k:=9) (n:=1) (N:=["_law_script","_law_k","_law_hand_here","_law_webs","_law_web_here","_law_every","_law_rooms","_law_other","_law_many","_law_due"]) (ps:=["_law_script"]) (b:=BR) F sk O λm A l s H E o=>
 (qF (fo (ir (a1 (cn (JB O) (a2 qK (cn (JA O) (a2 qK (cn eT (a1 xv)))))))) gq (xO [M,M,J,J,J,J,J,J,J,J] [M,J,J,J,J,J,J,J,J,J] (qF (sq (wn i (a2 xv xv))) (qF (kf 3 O (T:=["_law_turn"]) (keep:=[2]) ⟨O,by decide+kernel,(kc "_law_hand_here" (cD _))⟩ O (ir (a1 qK)) (λ_ _ _=>⟨gq,eH,(jq (wn j (a1 xv)) qK)⟩) (iH O) O (by first|exact Or.inl rfl|exact Or.inr rfl)) (qG (fo (qd (qI gt xv (i5 xv lm (ll qK)))) gq (qF (lk 5 6 rfl (iH rfl) rfl rfl (by decide) rfl rfl (a2 (wn h (a1 xv)) (cn eT (a1 xv)))) (qF (sq (wn d (a2 xv (cz fh (a1 (wn g (a2 xv xv))))))) (qG (fo (kZ rfl (bz B) (a2 qK (qI gt xv qK))) gq (qF (sq (wn c (a3 xv xv xv))) (qG (qV (sR (u9 (nH (hM (wn e (a2 (wn a (a2 xv xv)) xv)))) (qS (ct (oq yf) (cn eT (a1 (wn a (a2 xv xv)))) (cn eT (a1 xv)))))) (qG (qU jw)) qQ))))))))))))) (qG (qU jw)))
end
theorem all_mk {l:PySem.W.OpenLaw}{w:dS}{K:Fg1}{h:dZ}{mg:Str->Option dM}{fa f1 f2 f3 f4 f5 f6 f7 f8 f9 f10 p f aq wq m W f17 C o V D d f23 f24 t g U S f29 ao T f32:dP}(X:K.In h)(G:h.Ns dU mg)(y:mg "law"=some (.ref fa))
  (a1:eO K "is_whole" oa f1)
  (a2:eO K "is_tuple_of" kH f2)
  (a3:eO K "stops" wB f3)
  (a4:eO K "all_unlike" lJ f4)
  (a5:eO K "ways" zP f5)
  (a6:eO K "is_carried" lI f6)
  (a7:eO K "turned" tq f7)
  (a8:eO K "some_rooms" lH f8)
  (a9:eO K "in_order" oi f9)
  (a10:eO K "_law_hand" m7 f10)
  (a11:eO K "_law_take" m5 p)
  (L:eO K "_law_keeps" lO f)
  (a13:eO K "_law_walks" lK aq)
  (a14:eO K "_law_led" ol wq)
  (a15:eO K "_law_sets" m6 m)
  (a16:eO K "is_below" oh W)
  (E:eO K "led" Ez f17)
  (k:eO K "is_least" og C)
  (u:eO K "renamed" pU o)
  (x:eO K "_law_doored" kJ V)
  (A:eO K "_law_order" lN D)
  (au:eO K "_law_turns" lM d)
  (q:eO K "_law_leasts" kI f23)
  (a24:eO K "is_order" oe f24)
  (a25:eO K "_law_plain_web" iU t)
  (i:eO K "_law_cover" lP g)
  (a27:eO K "is_turn" pV U)
  (a28:eO K "_law_web" oj S)
  (a29:eO K "turns" wA f29)
  (a30:eO K "standings" m4 ao)
  (r:eO K "_law_same" jE T)
  (b:eO K "law" tu f32)
  (z:JQ K BL):∃fd:d2,(∀(s:dN) (v:dM),BindsTo s fd ⟨[v],[]⟩ [("_law_script",v)]) /\ ∀base:dZ,K.In base->base.Ns dU mg->m3 l.prog w K mg base uY 10 fa fd ["_law_script"] (spM K 1 m_law):=by
 have e:=y.symm.trans (wM1 X G b.ns);cases e;have B:Blt BL mg:=z.blt X G;obtain⟨_,⟨⟨_,_,kV,dc,pm,an,cd,ct,_,rfl,lL,cL⟩,kL⟩⟩:=b.fn;refine⟨wF1 "law" "law" (iK tu) (fK tu) (eB tu) .none kV dc pm an cd ct,λs v=>.of_eq O,λbase _ _=>?_⟩;have o0:=tS (P:=l.prog) (w:=w) (base:=base) X G B a1;have o11:=oy (P:=l.prog) (w:=w) (base:=base) X G B a2;have o1:=As (P:=l.prog) (w:=w) (base:=base) X G B a3;have o9:=pH (P:=l.prog) (w:=w) (base:=base) X G B a4;have o20:=Da (P:=l.prog) (w:=w) (base:=base) X G B a5;have o14:=pG (P:=l.prog) (w:=w) (base:=base) X G B a6;have o2:=yd (P:=l.prog) (w:=w) (base:=base) X G B a7;have o22:=pF (P:=l.prog) (w:=w) (base:=base) X G B a8;have o3:=tW (P:=l.prog) (w:=w) (base:=base) X G B a9;have am:=rQ (P:=l.prog) (w:=w) (base:=base) X G B a10;have c:=rM (P:=l.prog) (w:=w) (base:=base) X G B a11;have o5:=pL (P:=l.prog) (w:=w) (base:=base) X G B L;have o7:=pI (P:=l.prog) (w:=w) (base:=base) X G B a13;have o6:=tY (P:=l.prog) (w:=w) (base:=base) X G B a14;have o8:=rO (P:=l.prog) (w:=w) (base:=base) X G B a15;have R:=tV X G B a16 o0;have o19:=Go X G B E o1;have H:=tU X G B k o2;have o29:=vz X G B u o3;have o12:=oA X G B x c;have a:=pK X G B A c;have n:=pJ X G B au o5 o6 o7;have Q:=oz X G B q o8;have I:=tT X G B a24 o9 R o11;have o17:=lX X G B a25 o12 c;have N:=pM X G B i a;have o18:=vA X G B a27 o14 I;have j:=tX X G B a28 N o17 c;have o23:=Ar X G B a29 o18 o19 o20;have F:=rL X G B a30 H o22 o23;have o26:=rP (P:=l.prog) (w:=w) (base:=base) X G B r;exact Gp (P:=l.prog) (w:=w) (base:=base) X G B (Bw lL cL kL) am Q a o26 n j o29 F
variable{T S:d7}{o:Ob}{n m i j r d:Nat}{Q:D×d7->Prop}{xs row a rs ks b s:List Nat}{E:js}{e:Nat×Nat}{F:List (TK×D)}{met:List (Nat×Nat)}{L:List (Nat×List Nat)}{ws ts:List (List Nat)}
noncomputable def hnd(g m c:Int):Ob:=.lst [.int g,.int m,.int c]
noncomputable def GC(m c:Int):Int:=(m+9973*c*c+17)*69621%2305843009213693921
def AH(m c:Int):Int:=GC m c*(GC m c%999983+7919*c)%2305843009213693907
theorem JE{a b c:D}:uR [a,b,c] 0=Z a:=by rfl
theorem K7{a b c:D}:uR [a,b,c] 1=Z b:=by rfl
theorem K6{a b c:D}:uR [a,b,c] 2=Z c:=by rfl
theorem Fc{g m c k:Int}(hg:0<g)(hk:0<k)(a:k<1073741824):
  eA [.ref 0,.int k] (hnd g m c::T)=Z (.int (g%k),hnd (g/k) m c::T):=by
 simp[eA,iC,il,jY,et,fV,mB,m2,b2,kE,mV,mC,ez,mh,xi,eg,hnd,hg,hk,a,eF,gN,mf,ss,gS,b3,f0,jo,k8,eW,JE,vM]
theorem Fb{g m c k:Int}(hg:¬ 0<g)(hk:0<k)(a:k<1073741824)(hc:0<=c)(f:c<2^60):
  eA [.ref 0,.int k] (hnd g m c::T)=Z (.int ((AH m (c+1)/101+AH m (c+1)/1000003)%k),hnd g m (c+1)::T):=by
 have e:fq 9973 (c+1)=M:=t5 (by decide) (by decide);have h:fq (9973*(c+1)) (c+1)=M:=wP (by omega) (by omega);have b:fq (m+9973*(c+1)*(c+1)+17) 69621=M:=wP (by decide) (by decide);have i:fq 7919 (c+1)=M:=t5 (by decide) (by decide);have q:=Int.emod_lt_of_pos ((m+9973*(c+1)*(c+1)+17)*69621) (show(0:Int)<2305843009213693921 by decide);have j:=Int.emod_nonneg ((m+9973*(c+1)*(c+1)+17)*69621) (show(2305843009213693921:Int)≠0 by decide);have d:fq ((m+9973*(c+1)*(c+1)+17)*69621%2305843009213693921) ((m+9973*(c+1)*(c+1)+17)*69621%2305843009213693921%999983+7919*(c+1))=M:=t5 (by omega) (by omega);simp[eA,iC,il,jY,et,fV,mB,m2,b2,kE,mV,mC,ez,mh,xi,eg,hnd,hg,hk,a,eF,gN,mf,ss,gS,b3,f0,jo,k8,eW,JE,K7,K6,vM,nA,gj,mW,e,h,b,i,d,GC,AH]
def g9(o:Ob)(n:Nat):Prop:=∃g m c:Int,o=hnd g m c/\0<=c/\c<=n
theorem g9.und{k:Nat}(h:g9 o n):o.und k=M:=by
 obtain⟨g,m,c,rfl,_⟩:=h;rfl
theorem g9.more{k:Nat}(h:g9 o n)(hk:n<=k):g9 o k:=by
 obtain⟨g,m,c,e,a,h1⟩:=h;exact⟨g,m,c,e,a,by lia⟩
theorem jy{k:Int}(ho:g9 o n)(hn:n<=2^50)(hk:0<k)(a:k<1073741824)(h:∀(d:Nat) o',g9 o' (n+1)->(d:Int)<k->Q (.int d,o'::T)):W (ea 2 eA [.ref 0,.int k] (o::T)) Q:=by
 obtain⟨g,m,c,rfl,f,h1⟩:=ho;have call:∀d o',eA [.ref 0,.int k] (hnd g m c::T)=Z (d,o'::T)->ea 2 eA [.ref 0,.int k] (hnd g m c::T)=Z (d,o'::T):=λd o e=>yM e O (by simp[D.unds,D.und]) (by simp);by_cases i:0<g
 ·have b:=Int.emod_nonneg g (show k≠0 by lia);obtain⟨d,e⟩:=Int.eq_ofNat_of_zero_le b;refine⟨_,call _ _ (Fc i hk a),?_⟩;rw[e];exact h d _ ⟨_,_,_,O,f,by lia⟩ (by rw[<- e];exact Int.emod_lt_of_pos _ hk)
 ·have b:=Int.emod_nonneg (AH m (c+1)/101+AH m (c+1)/1000003) (show k≠0 by lia);obtain⟨d,e⟩:=Int.eq_ofNat_of_zero_le b;refine⟨_,call _ _ (Fb i hk a f (by lia)),?_⟩;rw[e];exact h d _ ⟨_,_,_,O,by lia,by push_cast;lia⟩ (by rw[<- e];exact Int.emod_lt_of_pos _ hk)
theorem D1(ns:List Int)(k:Int)(l:0<=k)(hk:k<63):∃o,ea 2 fP [.rol (ns.map D.int),.int k] []=Z (.ref 0,[o])/\g9 o 0:=by
 have h:∃g m,fP [.rol (ns.map D.int),.int k] []=Z (.ref 0,[hnd g m 0]):=by
  have j:fq (10^60) (10^30)=M:=by decide+kernel
  have d:fq 7919 k=M:=t5 (by decide) (by decide);have a:fq 0 0=M:=t5 (by decide) (by decide);have f:∀(x:Int) (b:Prop) [Decidable b],fq x (if b then 1 else 0)=M:=λx b _=>by
   split
   ·exact wP (by decide) (by decide)
   ·exact wP (by decide) (by decide)
  have lt:gLt (.int k) (.int ns.length) []=Z (.bl (decide (k<ns.length)),[]):=by rfl
  by_cases i:k<ns.length
  ·have c:uR (ns.map D.int) k=some (.int (ns[k.toNat]'(by lia))):=by
    unfold uR vM;rw[ak l,ak (by simpa using i)];simp[show k.toNat<ns.length by lia]
   generalize p:ns[k.toNat]'(by lia)=x at c
   simp[fP,iC,il,jZ,et,fV,mB,m2,b2,b1,mN,d5,d6,kE,mV,mC,ez,mh,xi,eQ,eg,eF,gN,mf,mW,gj,vR,uv,eW,ic,lt,i,c,d,f,dW,hnd,nA];simp[show fq 1000000000000000000000000000000000000000000000000000000000000 1000000000000000000000000000000=M from j,a,d,f]
  ·simp[fP,iC,il,jZ,et,fV,mB,m2,b2,b1,mN,d5,d6,kE,mV,mC,ez,mh,xi,eQ,eg,eF,gN,mf,mW,gj,vR,uv,eW,ic,lt,i,d,f,dW,hnd,nA];simp[show fq 1000000000000000000000000000000000000000000000000000000000000 1000000000000000000000000000000=M from j,a,d,f]
 obtain⟨g,m,e⟩:=h;refine⟨hnd g m 0,?_,_,_,_,O,Int.le_refl _,Int.le_refl _⟩;rw[uN (n:=2) e O (by rw[D.unds,D.und,mG];rfl) (by simp[D.und])];simp[D.sh,Ob.sh,D.shs,hnd]
abbrev js:=List (List Nat)
structure WN (t m:Nat)(T:d7)(E:js)(U:d7):Prop where
 tl:T.length=t
 low:U.take t=T
 el:E.length=m
 row:∀(i:Nat) (row:List Nat),E[i]?=some row->U[t+i]?=some (.lst (ei row))
 ends:U[t+m]?=some (.lst (ky (t+1) m))
 cl:∀o∈U,o.und (U.length+1)=true
theorem EH:(Ob.lst (ei xs)).und n=M:=iP (fv xs)
theorem WN.app{t:Nat}{U G:d7}(w:WN t m T E U)(c:∀o∈G,o.und 0=M):WN t m T E (U++G):=by
 have d:t+m<U.length:=(PB w.ends).1;refine⟨w.tl,?_,w.el,λi b h=>?_,?_,λo a=>?_⟩
 ·rw[List.take_append_of_le_length (by lia)];exact w.low
 ·have:=w.row i b h;rw[gL1 (PB this).1];exact this
 ·rw[gL1 d];exact w.ends
 ·rcases aG.mp a with a|a
  ·exact iV (by rw[lA1];lia) (w.cl o a)
  ·exact iV (bj _) (c o a)
theorem WN.setRow{t:Nat}{U:d7}(w:WN t m T E U)(hi:i<m):WN t m T (E.set i row) (U.set (t+i) (.lst (ei row))):=by
 have b:t+m<U.length:=(PB w.ends).1;refine⟨w.tl,?_,by rw[aY];exact w.el,λj r h=>?_,?_,λo a=>?_⟩
 ·rw[List.take_set_of_le (by lia)];exact w.low
 ·by_cases e:i=j
  ·subst e;rw[aJ (by rw[w.el];exact hi)]at h;cases h;rw[aJ (by lia)]
  ·rw[gS1 e]at h;rw[gS1 (by lia)];exact w.row j r h
 ·rw[gS1 (by lia)];exact w.ends
 ·rw[aY];rcases List.mem_or_eq_of_mem_set a with a|rfl
  ·exact w.cl o a
  ·exact EH
theorem WN.split{t:Nat}{U:d7}(w:WN t m T E U):U=T++U.drop t:=by
 conv=>lhs;rw[<- cF t U,w.low]
theorem pX:∀(k n:Nat),ky n (k+1)=ky n k++[.ref (n+k)]
 |0,n=>rfl
 |k+1,n=>by
  rw[ky,pX k (n+1),ky,bm,show n+1+k=n+(k+1) by lia]
theorem tG:∀(k n N:Nat),n+k<=N->D.unds N (ky n k)=M
 |0,_,_,_=>rfl
 |k+1,n,N,h=>by
  rw[ky,D.unds,tG k (n+1) N (by lia),D.und,bP,al];lia
theorem ze{t:Nat}(tl:T.length=t)(b:T.all (Ob.und (T.length+1))=M):WN t m T (aR m []) (T++(aR m (.lst [])++[.lst (ky (t+1) m)])):=by
 refine⟨tl,by rw[<- tl,db],by simp,λi c h=>?_,?_,λo a=>?_⟩
 ·have hi:i<m:=by have:=(PB h).1;simpa using this
  rw[aU,ak hi]at h;cases h;rw[<- tl,fJ,gL1 (by simpa using hi),aU,ak hi];rfl
 ·rw[<- tl,fJ,gR1 (by simp)];simp
 ·rw[aG,aG,bG,cA]at a;rcases a with a|⟨_,rfl⟩|rfl
  ·exact iV (by rw[lA1];lia) (bD.mp b o a)
  ·rfl
  ·rw[Ob.und];exact tG _ _ _ (by simp;lia)
theorem nV{t:Nat}{U:d7}(w:WN t m T E U)(hi:i<m)(q:Q (.ref (t+i+1),o::U)):W (ez (.ref (t+m+1)) (.int i) (o::U)) Q:=
 nv (xs:=ky (t+1) m) (x:=.ref (t+i+1)) (by rw[gC1];exact w.ends) (by rw[rr hi];congr 2;lia) q
theorem oU{v k:Nat}:∀{E:js} {i:Nat} {row:List Nat},E[i]?=Z row->(E.set i (row++[k])).flatten.count v=E.flatten.count v+if k=v then 1 else 0
 |[],i,row,h=>by simp at h
 |r::E,0,row,h=>by
  rw[dk]at h;cases h;simp only[c5,c7,List.count_append,List.count_cons,List.count_nil,Pq];lia
 |r::E,i+1,row,h=>by
  rw[gC1]at h;simp only[c8,c7,List.count_append,oU h];lia
theorem oT{k:Nat}:∀{E:js} {i:Nat} {row:List Nat},E[i]?=Z row->(E.set i (row++[k])).flatten.length=E.flatten.length+1
 |[],i,row,h=>by simp at h
 |r::E,0,row,h=>by
  rw[dk]at h;cases h;simp only[c5,c7,lA1,lC1,bg];lia
 |r::E,i+1,row,h=>by
  rw[gC1]at h;simp only[c8,c7,lA1,oT h];lia
theorem xj:∀{E:js} {k:Nat},k<=E.length->(∀(i:Nat) (row:List Nat),i<k->E[i]?=Z row->4<=row.length)->4*k<=E.flatten.length
 |E,0,_,_=>by lia
 |[],k+1,h,_=>by simp at h
 |r::E,k+1,h,a=>by
  have h1:=a 0 r (by lia) O;have h2:=xj (E:=E) (k:=k) (by simpa using h) λi row hi b=>a (i+1) row (by lia) b;rw[c7,lA1];lia
structure WE (m:Nat)(E:js)(k i:Nat):Prop where
 len:E.length=m
 le:∀(i:Nat) (row:List Nat),E[i]?=some row->row.length<=4
 fl:E.flatten.length=2*k
 ct:∀v,E.flatten.count v=if v<k then 2 else 0
 jn:∀j,1<=j->j<=i -> ∃a ra rb v,a<j/\E[a]?=some ra/\E[j]?=some rb/\v∈ra/\v∈rb
theorem zg(m:Nat):WE m (aR m []) 0 0:=by
 have e:(aR m ([]:List Nat)).flatten=[]:=by
  rw[List.flatten_eq_nil_iff];intro l b;exact(bG.mp b).2
 refine⟨by simp,λi a h=>?_,by rw[e];rfl,λv=>by rw[e,aj (by lia)];rfl,λj h1 h2=>by lia⟩;rw[aU]at h;split at h
 ·cases h;simp
 ·cases h
theorem lG{k:Nat}(h:E[i]?=Z row){r:List Nat}(b:E[j]?=Z r):∃r',(E.set i (row++[k]))[j]?=Z r' /\ ∀x∈r,x∈r':=by
 by_cases z:i=j
 ·subst z;rw[h]at b;cases b;exact⟨_,aJ (PB h).1,λx a=>aH _ a⟩
 ·exact⟨r,by rw[gS1 z];exact b,λx a=>a⟩
theorem WE.tie{a b k i':Nat}{ra e:List Nat}(w:WE m E k i)(ha:E[a]? = some ra)(K:ra.length<4)(hb:(E.set a (ra++[k]))[b]? = some e)(I:e.length<4)(hi:i'<=i\/(i'=i+1/\b<a/\a=i')):
  WE m ((E.set a (ra++[k])).set b (e++[k])) (k+1) i':=by
 have a1:(E.set a (ra++[k]))[a]?=Z (ra++[k]):=aJ (PB ha).1;refine⟨by rw[aY,aY];exact w.len,λj q d=>?_,?_,λv=>?_,λj h1 h2=>?_⟩
 ·by_cases z:b=j
  ·subst z;rw[aJ (PB hb).1]at d;cases d;rw[lA1,a0];lia
  ·rw[gS1 z]at d;by_cases u:a=j
   ·subst u;rw[a1]at d;cases d;rw[lA1,a0];lia
   ·rw[gS1 u]at d;exact w.le j q d
 ·rw[oT hb,oT ha,w.fl];lia
 ·rw[oU hb,oU ha,w.ct v];split<;>split<;>split<;>lia
 ·rcases(show j<=i\/(j=a/\b<a) by lia)with n|⟨rfl,r⟩
  ·obtain⟨c,x,y,v,H,B,A,F,D⟩:=w.jn j h1 n;obtain⟨am,C,G⟩:=lG (k:=k) ha B;obtain⟨t,f,p⟩:=lG (k:=k) hb C;obtain⟨r2,h,g⟩:=lG (k:=k) ha A;obtain⟨l,s,o⟩:=lG (k:=k) hb h;exact⟨c,t,l,v,H,f,s,p _ (G _ F),o _ (g _ D)⟩
  ·obtain⟨r2,h,g⟩:=lG (k:=k) hb a1;exact⟨b,e++[k],r2,k,r,aJ (PB hb).1,h,by simp,g _ (by simp)⟩
theorem Ex{t a b k:Nat}{U:d7}{ra:List Nat}{r:Ev}{f g:FE}{Q:Fl×Ev×d7->Prop}(w:WN t m T E U)(ha:a<m)(hb:b<m)(u:E[a]? = some ra)(G:ra.length<100)(C:∀ rb,E[b]? = some rb->rb.length<100)(hf:∀S,f r S=some (.int a,S))(hg:∀S,g r S=some (.int b,S))(A:mV 4 r=fun S=>some (.ref (t+m+1),S))(z:mV 3 r=fun S=>some (.int k,S))(h:∀rb y,(E.set a (ra++[k]))[b]?=some rb->WN t m T ((E.set a (ra++[k])).set b (rb++[k])) y->Q (.nx,r.set 3 (some (.int ((k+1:Nat):Int))),o::y)):
  W (et (fQ (nB (b2 iF) (m2 (b2 ez) (mV 4) f) (d5 (mV 3) d6))) (et (fQ (nB (b2 iF) (m2 (b2 ez) (mV 4) g) (d5 (mV 3) d6))) (eF (m2 (b2 gj) (mV 3) (mC (D.int (1)))) (gN 3))) r (o::U)) Q:=by
 have ap:∀(xs:List Nat),ei xs++[D.int (k:Int)]=ei (xs++[k]):=λxs=>by simp[ei]
 have j:∀ {x:Nat} {d:List Nat} {E:js} {U:d7} {e:FE} {P:Fl×Ev×d7->Prop} (w:WN t m T E U),x<m->E[x]? = some d->d.length<200->(∀ S,e r S=some (.int x,S))->P (.nx,r,o::U.set (t+x) (.lst (ei (d++[k])))) ->
   W (fQ (nB (b2 iF) (m2 (b2 ez) (mV 4) e) (d5 (mV 3) d6)) r (o::U)) P:=by
  intro x d E U e P w B s H F q;have v:(o::U)[t+x+1]?=Z (.lst (ei d)):=by rw[gC1];exact w.row x d s
  unfold fQ;rw[d9];refine iL ?_;unfold m2;rw[A];simp only[oS1,F,b2];refine nV w B ?_;refine⟨t+x+1,ei d,O,v,?_⟩;unfold d5 d6;rw[z];simp only[oS1,oP1];rw[ew];refine(kY v).mpr ⟨ed (by rw[eX];lia),?_⟩;rw[ap,c8];exact ew.mpr q
 have n:=w.setRow (row:=ra++[k]) ha;obtain⟨rb,c⟩:∃rb,(E.set a (ra++[k]))[b]?=some rb:=⟨_,gG1 (by rw[n.el];exact hb)⟩;have l:rb.length<200:=by
  by_cases e:a=b
  ·subst e;rw[aJ (by rw[w.el];exact ha)]at c;cases c;rw[lA1,a0];lia
  ·rw[gS1 e]at c;have:=C rb c;lia
 refine eU (λp S=>p=r/\S=o::U.set (t+a) (.lst (ei (ra++[k])))) (j w ha u (by lia) hf ⟨O,O,O⟩) ?_;rintro p S ⟨rfl,rfl⟩;refine eU (λi S=>i=p/\S=o::(U.set (t+a) (.lst (ei (ra++[k])))).set (t+b) (.lst (ei (rb++[k])))) (j n hb c l hg ⟨O,O,O⟩) ?_;rintro i S ⟨rfl,rfl⟩;unfold eF m2 mC gN;rw[z];simp only[oS1,b2];rw[d9,B2];exact ew.mpr (h rb _ c (n.setRow hb))
theorem Fa{t:Nat}{U:d7}{ao x6 x7 N P:Option D}{Q:Fl×Ev×d7->Prop}(w:WN t m T E U)(v:WE m E i i)(ho:g9 o n)(hn:n<=2^44)(hi:i+1<m)(hm:m<=8)(he:∀j row,i+1<=j->E[j]?=some row->row=[])(h:∀X o' U' V R,WN t m T X U'->WE m X (i+1) (i+1)->g9 o' (n+1)->(∀j row,i+2<=j->X[j]?=some row->row=[]) ->
   Q (.nx,[Z (.ref 0),ao,Z (.int m),Z (.int ((i+1:Nat):Int)),Z (.ref (t+m+1)),Z (.int ((i+1:Nat):Int)),V,R,N,P],o'::U')):
  W (gr [Z (.ref 0),ao,Z (.int m),Z (.int (i:Nat)),Z (.ref (t+m+1)),Z (.int ((i+1:Nat):Int)),x6,x7,N,P] (o::U)) Q:=by
 have e:∀j,j<m -> ∃row,E[j]?=Z row:=λj l=>⟨_,gG1 (by rw[v.len];exact l)⟩
 let k:Nat->Bool:=λj=>decide ((E.getD j []).length<4)
 unfold gr;have y:(af (i+1)).filter k≠[]:=by
  intro z;have am:∀j row,j<i+1->E[j]?=Z row->4<=row.length:=λj row l hr=>by
   have:=List.filter_eq_nil_iff.mp z j (aB.mpr l);simp only[k,bM,hr,b9,al]at this;lia
  have:=xj (E:=E) (k:=i+1) (by rw[v.len];lia) am;have:=v.fl;lia
 generalize wq:(af (i+1)).filter k=L at y;have aq:∀j∈L,j<i+1/\k j=M:=λj l=>by
  rw[<- wq,aA]at l;exact⟨aB.mp l.1,l.2⟩
 have hLl:L.length<=8:=by
  rw[<- wq];have:=dr k (af (i+1));simp at this;lia
 refine eU (λr S=>r=[Z (.ref 0),ao,Z (.int m),Z (.int (i:Nat)),Z (.ref (t+m+1)),Z (.int ((i+1:Nat):Int)),Z (.ref (U.length+1)),x7,N,P]/\S=o::(U++[.lst (ei L)])) ?_ ?_
 ·walk_at"w";rw[jl,NH];refine⟨eV (by lia),?_⟩;refine sw k (λj:Nat=>.int j) (λr=>∃x,r=[x,Z (.ref (t+m+1))]) O (af (i+1)) _ ⟨_,O⟩ ?_ ?_
  ·rintro j l r ⟨x,rfl⟩;have s:j<m:=by have:=aB.mp l;lia
   obtain⟨row,c⟩:=e j s;walk_at"w";refine nV w s ?_;walk_at"w";refine eE (xs:=ei row) (by rw[gC1];exact w.row j row c) ?_;walk_at"w";refine⟨?_,⟨_,O⟩,λ_=>trivial⟩;simp only[k,bM,c,b9,eX];rw[bT,al,al];lia
  ·rintro r' _;walk_at"w";rw[wq];exact⟨ed (by rw[lM1];lia),O⟩
 rintro r S ⟨rfl,rfl⟩;have hL0:0<L.length:=c9.mpr y;have gL:∀o:Ob,(o::(U++[Ob.lst (ei L)]))[U.length+1]?=Z (.lst (ei L)):=λo=>by rw[gC1,ee];rfl
 refine eU (λr S=>∃j u,j<i+1/\k j=M/\g9 u (n+1)/\r=[Z (.ref 0),ao,Z (.int m),Z (.int (i:Nat)),Z (.ref (t+m+1)),Z (.int ((i+1:Nat):Int)),Z (.ref (U.length+1)),Z (.int (j:Nat)),N,P]/\S=u::(U++[.lst (ei L)])) ?_ ?_
 ·walk_at"w";refine eE (gL _) ?_;walk_at"w";rw[eX];refine jy ho (by lia) (by lia) (by lia) λd u p hd=>?_;have H:d<L.length:=by lia
  refine nv (i:=d) (xs:=ei L) (x:=.int (L[d]:Nat)) (gL _) (by rw[ei,gP1,gG1 H];rfl) ?_;obtain⟨I,g⟩:=aq L[d] (bV H);exact⟨L[d],u,I,g,p,O,O⟩
 rintro r S ⟨j,u,I,g,p,rfl,rfl⟩;obtain⟨row,c⟩:=e j (by lia);have hrl:row.length<4:=by
  simp only[k,bM,c,b9,al]at g;exact g
 obtain⟨au,q⟩:=e (i+1) hi;have K:=he (i+1) au (nR1 _) q;subst K;have w':=w.app (G:=[Ob.lst (ei L)]) λo ho=>by rw[cA]at ho;subst ho;exact EH
 refine Ex (a:=i+1) (b:=j) (ra:=[]) w' hi (by lia) q (by simp) (λau hb=>by rw[c]at hb;cases hb;lia) (λ_=>rfl) (λ_=>rfl) O O λau U2 f w2=>?_;have A:i+1≠j:=by lia
 have F:au=row:=by
  rw[gS1 A,c]at f;cases f;rfl
 subst F;refine h _ u U2 _ _ w2 (v.tie q (by simp) f hrl (.inr ⟨O,by lia,O⟩)) p λj' C s B=>?_;rw[gS1 (by lia),gS1 (by lia)]at B;exact he j' C (by lia) B
theorem GB{t k:Nat}{U:d7}{B I K x7 C x9:Option D}{Q:Fl×Ev×d7->Prop}(w:WN t m T E U)(v:WE m E k i)(ho:g9 o n)(hn:n<=2^44)(hm0:0<m)(hm:m<=8)(h:∀E' k' o' U' R V,WN t m T E' U'->WE m E' k' i->g9 o' (n+2) ->
   Q (.nx,[Z (.ref 0),B,Z (.int m),Z (.int (k':Nat)),Z (.ref (t+m+1)),I,K,R,C,V],o'::U')):
  W (gp [Z (.ref 0),B,Z (.int m),Z (.int (k:Nat)),Z (.ref (t+m+1)),I,K,x7,C,x9] (o::U)) Q:=by
 have l:∀j,j<m -> ∃row,E[j]?=Z row:=λj hj=>⟨_,gG1 (by rw[v.len];exact hj)⟩;unfold gp;refine eU (λr S=>∃a b g,a<m/\b<m/\g9 g (n+2)/\r=[Z (.ref 0),B,Z (.int m),Z (.int (k:Nat)),Z (.ref (t+m+1)),I,K,Z (.int (b:Nat)),C,Z (.int (a:Nat))]/\S=g::U) ?_ ?_
 ·walk_at"w";refine jy ho (by lia) (by lia) (by lia) λa o1 X am=>?_;walk_at"w";refine jy X (by lia) (by lia) (by lia) λb g q N=>?_;walk_at"w";exact⟨a,b,g,by lia,by lia,q,O,O⟩
 rintro r S ⟨a,b,g,am,N,q,rfl,rfl⟩;obtain⟨P,A⟩:=l a am;obtain⟨au,u⟩:=l b N;have L:Q (.nx,[Z (.ref 0),B,Z (.int m),Z (.int (k:Nat)),Z (.ref (t+m+1)),I,K,Z (.int (b:Nat)),C,Z (.int (a:Nat))],g::U):=
  h E k g U _ _ w v q
 unfold fV;rw[d9];have F:W (rY (mB (m2 (b2 gLt) (m2 (b2 gj) (mN (b1 eQ) (d5 (m2 (b2 ez) (mV 4) (mV 9)) d6)) (mN (b1 uv) (d5 (m2 (b2 gEq) (mV 9) (mV 7)) d6))) (mC (D.int (4))))) (mB (m2 (b2 gLt) (mN (b1 eQ) (d5 (m2 (b2 ez) (mV 4) (mV 7)) d6)) (mC (D.int (4))))) [Z (.ref 0),B,Z (.int m),Z (.int (k:Nat)),Z (.ref (t+m+1)),I,K,Z (.int (b:Nat)),C,Z (.int (a:Nat))] (g::U)) λp=>p.2=g::U/\(p.1=M->P.length+(if a=b then 1 else 0)<4/\au.length<4):=by
  walk_at"w";refine nV w am ?_;walk_at"w";refine eE (xs:=ei P) (by rw[gC1];exact w.row a P A) ?_;walk_at"w";rw[eX];have e1:((a:Int) == (b:Int))=decide (a=b):=by
   rw[bT,Pq,al];lia
  rw[e1];have rest:W (ez (D.ref (t+m+1)) (D.int (b:Int)) (g::U)) λx=>W (eQ x.fst x.snd) λx=>W (gLt x.fst (D.int 4) x.snd) λx=>W (match x.fst with|D.bl b=>some (b,x.snd)|x=>none) λp=>p.snd=g::U/\(p.fst=true->au.length<4):=by
   refine nV w N ?_;walk_at"w";refine eE (xs:=ei au) (by rw[gC1];exact w.row b au u) ?_;walk_at"w";rw[eX];intro wq;rw[al]at wq;lia
  by_cases f:a=b
  ·rw[ah f];walk_at"w";split
   ·rename_i s;rw[al]at s;refine rest.mono λx hx=>hx.mono λy aq=>aq.mono λz hz=>hz.mono λp G=>⟨G.1,λe=>⟨by first|lia|(rw[ak f];lia),G.2 e⟩⟩
   ·first|(intro z;cases z;done)|(refine⟨_,rfl,?_,λz=>?_⟩<;>first|rfl|cases z)|walk_at"w"
  ·rw[ai f];walk_at"w";split
   ·rename_i s;rw[al]at s;refine rest.mono λx hx=>hx.mono λy aq=>aq.mono λz hz=>hz.mono λp G=>⟨G.1,λe=>⟨by first|lia|(rw[aj f];lia),G.2 e⟩⟩
   ·first|(intro z;cases z;done)|(refine⟨_,rfl,?_,λz=>?_⟩<;>first|rfl|cases z)|walk_at"w"
 obtain⟨⟨c,S1⟩,ec,hS,hc⟩:=F;dsimp only at hS hc;subst hS;refine⟨_,ec,?_⟩;dsimp only;cases c with
 |false=>rw[aj (by decide)];exact ew.mpr L
 |true=>
  rw[ak O];obtain⟨h1,h2⟩:=hc O;refine Ex (a:=a) (b:=b) w am N A (by lia) (λH ao=>by rw[u]at ao;cases ao;lia) (λ_=>rfl) (λ_=>rfl) O O λH U2 d w2=>?_;have hl:H.length<4:=by
   by_cases f:a=b
   ·subst f;rw[aJ (by rw[v.len];exact am)]at d;cases d;rw[ak O]at h1;rw[lA1,a0];lia
   ·rw[gS1 f,u]at d;cases d;exact h2
  exact h _ (k+1) g U2 _ _ w2 (v.tie A (by lia) d hl (.inl (nR1 _))) q
abbrev Pl:=List ((Nat×Nat)×Nat)
noncomputable def io(i:Nat)(row:List Nat):Pl:=row.zipIdx.map λp=>((i,p.2),p.1)
def fB:Nat->js->Pl
 |_,[]=>[]
 |i,row::R=>io i row++fB (i+1) R
noncomputable def ps(A:Pl)(v:Nat):List (Nat×Nat):=(A.filter λx=>x.2 == v).map (·.1)
theorem Aa{v:Nat}(h:row[j]?=Z v):io i (row.take (j+1))=io i (row.take j)++[((i,j),v)]:=by
 have a:=(PB h).1;unfold io;rw[cv,h,Option.toList_some,List.zipIdx_append,cx];simp;lia
theorem mY:∀{R:js} {i k:Nat} {row:List Nat},R[i]?=Z row->fB k (R.take (i+1))=fB k (R.take i)++io (k+i) row
 |[],i,k,row,h=>by simp at h
 |r::R,0,k,row,h=>by
  rw[dk]at h;cases h;simp[fB]
 |r::R,i+1,k,row,h=>by
  rw[gC1]at h;rw[cJ,cJ,fB,fB,mY h,bJ,show k+1+i=k+(i+1) by lia]
theorem wQ{x:(Nat×Nat)×Nat}:x∈io i row↔x.1.1=i/\row[x.1.2]?=Z x.2:=by
 obtain⟨⟨a,b⟩,c⟩:=x;unfold io;rw[cg];constructor
 ·rintro⟨⟨v,j⟩,h,e⟩;cases e;exact⟨O,dj.mp h⟩
 ·rintro⟨rfl,h⟩;exact⟨(c,b),dj.mpr h,O⟩
theorem oE:∀{R:js} {k:Nat} {x:(Nat×Nat)×Nat},x∈fB k R ↔ ∃i a,x.1.1=k+i/\R[i]?=Z a/\a[x.1.2]?=Z x.2
 |[],k,x=>by simp[fB]
 |r::R,k,x=>by
  rw[fB,aG,wQ,oE (R:=R)];constructor
  ·rintro(⟨h1,h2⟩|⟨i,a,h1,h2,b⟩)
   ·exact⟨0,r,by lia,O,h2⟩
   ·exact⟨i+1,a,by lia,h2,b⟩
  ·rintro⟨i,a,h1,h2,b⟩;cases i with
   |zero=>cases h2;exact .inl ⟨by lia,b⟩
   |succ i=>exact .inr ⟨i,a,by lia,h2,b⟩
theorem CU:(io i row).map (·.2)=row:=by
 unfold io;rw[bv];exact List.zipIdx_map_fst 0 row
theorem uw:∀{R:js} {k:Nat},(fB k R).map (·.2)=R.flatten
 |[],_=>rfl
 |r::R,k=>by rw[fB,cx,CU,uw (R:=R),c7]
theorem F0:((io i row).map (·.1)).Nodup:=by
 unfold io;rw[bv];have e:(row.zipIdx.map ((λx:(Nat×Nat)×Nat=>x.1)∘λp=>((i,p.2),p.1)))=(row.zipIdx.map (·.2)).map λj=>(i,j):=by rw[bv];rfl
 rw[e,List.zipIdx_map_snd,<- List.range_eq_range'];exact dt.mpr (List.nodup_range.imp λh z=>h (Prod.mk.inj z).2)
theorem sv:∀{R:js} {k:Nat},((fB k R).map (·.1)).Nodup
 |[],_=>bp
 |r::R,k=>by
  rw[fB,cx,bB];refine⟨F0,sv,λa c b g e=>?_⟩;obtain⟨x,h,rfl⟩:=PF c;obtain⟨y,d,rfl⟩:=PF g;have h1:=(wQ.mp h).1;obtain⟨i,f,h2,_⟩:=oE.mp d;rw[e]at h1;lia
theorem FU{A:Pl}{v:Nat}:(ps A v).length=(A.map (·.2)).count v:=by
 unfold ps;rw[lM1,List.count,List.countP_map,List.countP_eq_length_filter];rfl
theorem nO{A:Pl}{p:Nat×Nat}{v u:Nat}:ps (A++[(p,v)]) u=if v=u then ps A u++[p]else ps A u:=by
 unfold ps;rw[dw,cx];by_cases h:v=u
 ·simp[h]
 ·simp[h]
theorem GH{A:Pl}{p:Nat×Nat}{v:Nat}:p∈ps A v↔(p,v)∈A:=by
 unfold ps;rw[cg];constructor
 ·rintro⟨⟨q,u⟩,h,e⟩;obtain⟨h1,h2⟩:=aA.mp h;have h2:u=v:=by simpa using h2
  cases e;cases h2;exact h1
 ·intro h;exact⟨(p,v),aA.mpr ⟨h,by simp⟩,O⟩
theorem Iw{A:Pl}{v:Nat}(h:(A.map (·.1)).Nodup):(ps A v).Nodup:=h.sublist (List.filter_sublist.map _)
structure PL (b:Nat)(A:Pl)(kv:List (Key×D))(H:d7):Prop where
 no:∀v:Nat,ps A v=[]->ef kv (Sum.inl (v:Int))=none
 yes:∀v:Nat,ps A v≠[] -> ∃h,ef kv (Sum.inl (v:Int))=some (.ref (b+h))/\H[h]?=some (.lst ((ps A v).map pD))
 inj:∀v u h:Nat,ef kv (Sum.inl (v:Int))=some (.ref (b+h))->ef kv (Sum.inl (u:Int))=some (.ref (b+h))->v=u
 few:kv.length<=A.length
theorem oP{v u:Nat}(h:v≠u):(Sum.inl (v:Int):Key)≠Sum.inl (u:Int):=λe=>h (by injection e with e;lia)
theorem PL.old{b v h:Nat}{A:Pl}{kv:List (Key×D)}{H:d7}{p:Nat×Nat}(P:PL b A kv H)(hv:ps A v≠[])(e:ef kv (Sum.inl (v:Int))=some (.ref (b+h)))(g:H[h]? = some (.lst ((ps A v).map pD))):
  PL b (A++[(p,v)]) kv ((H++[Ob.lst []]).set h (.lst ((ps A v).map pD++[pD p]))):=by
 have i:=(PB g).1;refine⟨λu a=>?_,λu a=>?_,P.inj,by rw[lA1];have:=P.few;lia⟩
 ·rw[nO]at a;split at a
  ·simp at a
  ·exact P.no u a
 ·rw[nO]at a ⊢;by_cases c:v=u
  ·subst c;rw[ak O,cx];exact⟨h,e,aJ (by rw[lA1];lia)⟩
  ·rw[aj c]at a ⊢;obtain⟨h',f,d⟩:=P.yes u a;refine⟨h',f,?_⟩;rw[gS1 (λz=>c (P.inj v u h e (by rw[z];exact f))),gL1 (PB d).1];exact d
theorem PL.new{b v:Nat}{A:Pl}{kv:List (Key×D)}{H:d7}{p:Nat×Nat}(P:PL b A kv H)(hv:ps A v=[]):
  PL b (A++[(p,v)]) (fT kv (Sum.inl (v:Int)) (.ref (b+H.length))) (H++[.lst [pD p]]):=by
 refine⟨λu f=>?_,λu f=>?_,λu j h d c=>?_,by rw[lA1,a0];have:=P.few;have:=rz (k:=(Sum.inl (v:Int):Key)) (v:=D.ref (b+H.length)) (a:=kv);lia⟩
 ·rw[nO]at f;split at f
  ·simp at f
  ·rename_i l;rw[fE,aj (oP (Mt l))];exact P.no u f
 ·rw[nO]at f ⊢;by_cases g:v=u
  ·subst g;rw[ak O,hv,fE,ak O];exact⟨H.length,O,by rw[gR1 (nR1 _),cZ];rfl⟩
  ·rw[aj g]at f ⊢;obtain⟨h',d,c⟩:=P.yes u f;refine⟨h',by rw[fE,aj (oP (Mt g))];exact d,?_⟩;rw[gL1 (PB c).1];exact c
 ·have old:∀ w:Nat,w≠v->ef kv (Sum.inl (w:Int))=some (.ref (b+h))->h<H.length:=fun w o e=>by
   by_cases m:ps A w=[]
   ·rw[P.no w m]at e;cases e
   ·obtain⟨h',i,n⟩:=P.yes w m;rw[e]at i;have:h=h':=by injection i with i;injection i with i;lia
    rw[this];exact(PB n).1
  rw[fE]at d c;by_cases h1:u=v
  ·by_cases h2:j=v
   ·rw[h1,h2]
   ·rw[ak (by rw[h1])]at d;rw[aj (oP h2)]at c;have:=old j h2 c;have:h=H.length:=by injection d with d;injection d with d;lia
    lia
  ·rw[aj (oP h1)]at d;by_cases h2:j=v
   ·rw[ak (by rw[h2])]at c;have:=old u h1 d;have:h=H.length:=by injection c with c;injection c with c;lia
    lia
   ·rw[aj (oP h2)]at c;exact P.inj u j h d c
def jH(A:Pl)(v:Nat)(e:Nat×Nat):Nat×Nat:=let l:=ps A v;if l.getD 0 (0,0)=e then l.getD 1 (0,0)else l.getD 0 (0,0)
theorem zk{A:Pl}{v:Nat}(h2:(ps A v).length=2):∃p q,ps A v=[p,q]:=by
 match hp:ps A v,h2 with
 |[p,q],_=>exact⟨p,q,O⟩
theorem wI{A:Pl}{v:Nat}(nd:(A.map (·.1)).Nodup)(h2:(ps A v).length=2)(he:(e,v)∈A):(jH A v e,v)∈A/\jH A v e≠e/\jH A v (jH A v e)=e /\ ∀x,(x,v)∈A->x=e\/x=jH A v e:=by
 obtain⟨p,q,b⟩:=zk h2;have g:=Iw (v:=v) nd;rw[b]at g;have a:p≠q:=by simpa using g
 have m:∀x,(x,v)∈A↔x=p\/x=q:=λx=>by rw[<- GH,b];simp
 have d:∀x,jH A v x=if p=x then q else p:=λx=>by simp[jH,b]
 rcases(m e).mp he with rfl|rfl
 ·have f:jH A v e=q:=by rw[d,ak O]
  rw[f];exact⟨(m q).mpr (.inr O),Mt a,by rw[d,aj a],λx c=>(m x).mp c⟩
 ·have f:jH A v e=p:=by rw[d,aj a]
  rw[f];exact⟨(m p).mpr (.inl O),a,by rw[d,ak O],λx c=>((m x).mp c).symm⟩
theorem sV{c:FT}{b:FS}{Q:Fl×Ev×d7->Prop}(I:Nat->Ev->d7->Prop)(N:Nat)(step:∀k r S,I k r S->W (c r S) fun p=>if p.1=true then k<N/\W (b r p.2) fun q=>q.1 = .nx/\I (k+1) q.2.1 q.2.2 else Q (.nx,r,p.2)):
  ∀(a k:Nat) (r:Ev) (S:d7),N-k<a->I k r S->W (sX c b a r S) Q
 |0,k,r,S,hf,_=>by lia
 |a+1,k,r,S,hf,hi=>by
  rw[sX];dsimp only;rw[d9];obtain⟨⟨t,m⟩,e,h⟩:=step k r S hi;refine⟨_,e,?_⟩;dsimp only at h ⊢;cases t with
  |true=>
   rw[ak O]at h ⊢;obtain⟨n,⟨f,l,i⟩,j,d,g⟩:=h;dsimp only at d g;subst d;rw[j,oS1];exact sV I N step a (k+1) l i (by lia) g
  |false=>
   rw[aj (by decide)]at h ⊢;exact ew.mpr h
theorem xI{m:FA}{r:Ev}{xs:List D}{Q:yQ×d7->Prop}(hm:m r S=Z ([.ref n],S))(hn:S[n]?=Z (.lst xs))(q:Q (⟨u6 0 xs,[(n,xs)]⟩,S)):W (oR m r S) Q:=by
 refine W.of (x:=(⟨u6 0 xs,[(n,xs)]⟩,S)) ?_ q;simp only[oR,hm,oS1,gP hn,sy hn]
theorem oV:∀{xs:List Nat} {i:Nat} (h:i<xs.length),(xs[i]::xs.eraseIdx i).Perm xs
 |x::xs,0,h=>.refl _
 |x::xs,i+1,h=>by
  rw[c6,List.getElem_cons_succ];exact(List.Perm.swap x _ _).trans ((oV (by simpa using h)).cons x)
theorem tJ{x:Nat}(h:(rs++xs).Perm row)(hx:xs[i]?=Z x):((rs++[x])++xs.eraseIdx i).Perm row:=by
 refine List.Perm.trans ?_ h;rw[bJ];refine Ps rs ?_;obtain⟨hi,rfl⟩:=PB hx;exact oV hi
theorem Ay{x:Nat}(h:xs[i]?=Z x):(ei xs)[i]?=Z (.int x):=by rw[ei,gP1,h];rfl
theorem t4:(ei xs).eraseIdx i=ei (xs.eraseIdx i):=by
 rw[ei,ei,List.eraseIdx_eq_take_drop_succ,List.eraseIdx_eq_take_drop_succ,cx,List.map_take,List.map_drop]
theorem jc{x:Nat}:ei xs++[D.int (x:Int)]=ei (xs++[x]):=by simp[ei]
theorem Fp{V:d7}{j s u h g m t:Option D}{Q:Fl×Ev×d7->Prop}(ho:g9 o n)(hn:n<=2^44)(hr:row.length<=4)(q:∀o' rs G,g9 o' (n+4)->rs.Perm row->Q (.nx,[some (.ref 0),j,s,u,some (.ref (V.length+1)),some (.ref (V.length+2)),h,g,m,t],o'::(V ++ .lst [] :: .lst (ei rs)::G))):
  W (sX hE hD 100000 [Z (.ref 0),j,s,u,Z (.ref (V.length+1)),Z (.ref (V.length+2)),h,g,m,t] (o::(V++[.lst (ei row),.lst []]))) Q:=by
 refine sV (λk r S=>∃o' ls rs G,g9 o' (n+k)/\(rs++ls).Perm row/\rs.length=k/\S=o'::(V ++ .lst (ei ls) :: .lst (ei rs)::G)/\r=[Z (.ref 0),j,s,u,Z (.ref (V.length+1)),Z (.ref (V.length+2)),h,g,m,t]) 4 ?_ 100000 0 _ _ (by lia) ⟨o,row,[],[],ho,.refl _,O,O,O⟩;rintro k r S ⟨o',ls,rs,G,b,c,z,rfl,rfl⟩;have a:=c.length_eq;rw[lA1]at a;have f:∀(o:Ob) (X:Ob) (aq:d7),(o::(V++X::aq))[V.length+1]?=Z X:=λo X aq=>by rw[gC1,ee];rfl
 have v:∀(o:Ob) (X wq:Ob) (aq:d7),(o::(V++X::wq::aq))[V.length+2]?=Z wq:=λo X wq aq=>by rw[gC1,fJ];rfl
 refine W.of (x:=(!(ei ls).isEmpty,o'::(V ++ .lst (ei ls) :: .lst (ei rs)::(G++[.lst []])))) ?_ ?_
 ·have e:(o'::(V++Ob.lst (ei ls)::Ob.lst (ei rs)::G))++[Ob.lst []]=o'::(V ++ .lst (ei ls) :: .lst (ei rs)::(G++[.lst []])):=by simp
  unfold hE mB m2 mV ic d6 b2;simp only[gC1,dk,dq,oP1,oS1];rw[ak (show([]:List D).length<=dW by decide),oS1,e,xc (xs:=ei ls) (f _ _ _) (by rw[<- e,ee];rfl)];rfl
 dsimp only;cases ls with
 |nil=>
  rw[show(ei ([]:List Nat)).isEmpty=M from rfl,aj (by decide)];rw[aP]at c;exact q o' rs _ (b.more (by simp at a;lia)) c
 |cons l ls=>
  rw[show(!(ei (l::ls)).isEmpty)=M from rfl,ak O];refine⟨by rw[lC1]at a;lia,?_⟩;unfold hD;walk_at"w";refine iL ?_;walk_at"w";refine⟨V.length+2,ei rs,O,v _ _ _ _,?_⟩;refine iL ?_;walk_at"w";refine⟨V.length+1,ei (l::ls),O,f _ _ _,?_⟩;refine eE (f _ _ _) ?_;walk_at"w";rw[eX];rw[lC1]at a;refine jy b (by lia) (by rw[lC1];lia) (by rw[lC1];lia) λd i p y=>?_;obtain⟨x,w⟩:∃x,(l::ls)[d]?=some x:=⟨_,gG1 (by lia)⟩;walk_at"w";refine wa (f _ _ _) (Ay w) (by rw[lC1]at y;lia) ?_;have es:∀X,(i::(V++Ob.lst (ei (l::ls))::Ob.lst (ei rs)::(G++[Ob.lst []]))).set (V.length+1) X=i::(V++X :: .lst (ei rs)::(G++[.lst []])):=λX=>by
   rw[c8,cY _ _ (nR1 _),cZ];rfl
  rw[es];walk_at"w";refine(kY (v _ _ _ _)).mpr ⟨ed (by rw[eX];lia),?_⟩;refine⟨i,(l::ls).eraseIdx d,rs++[x],G++[.lst []],p.more (by lia),tJ c w,by rw[lA1,z];rfl,?_,trivial⟩;rw[c8,cY _ _ (by lia),show V.length+1-V.length=1 by lia,jc,t4];rfl
noncomputable def rk(u:Nat)(ks:List Nat):List D:=ks.map λk=>D.ref (u+2+k)
structure RS (R:js)(ks:List Nat)(G:d7):Prop where
 len:ks.length=R.length
 row:∀(j k:Nat) (row:List Nat),ks[j]?=some k->R[j]?=some row->G[k]?=some (.lst (ei row))
theorem RS.app{R:js}{G H:d7}(r:RS R ks G):RS R ks (G++H):=
 ⟨r.len,λj k a h1 h2=>by have:=r.row j k a h1 h2;rw[gL1 (PB this).1];exact this⟩
theorem RS.snoc{R:js}{G:d7}{k:Nat}(r:RS R ks G)(h:G[k]?=Z (.lst (ei row))):RS (R++[row]) (ks++[k]) G:=by
 refine⟨by rw[lA1,lA1,r.len];rfl,λj c a h1 h2=>?_⟩;by_cases b:j<ks.length
 ·rw[gL1 b]at h1;rw[gL1 (by rw[<- r.len];exact b)]at h2;exact r.row j c a h1 h2
 ·have:=(PB h1).1;rw[lA1,a0]at this;have e:j=ks.length:=by lia
  subst e;rw[dy]at h1;rw[r.len,dy]at h2;cases h1;cases h2;exact h
theorem E2{U G:d7}{e:Nat}{w v d b f g:Option D}{Q:Fl×Ev×d7->Prop}(hi:U[i]? = some (.lst (ei row)))(ho:g9 o n)(hn:n<=2^44)(hr:row.length<=4)(hk:ks.length<=100)(q:∀o' rs u k p s,g9 o' (n+4)->rs.Perm row->(G++u)[k]?=some (.lst (ei rs))->Q (.nx,[some (.ref 0),some (.ref e),some (.ref (U.length+1)),some (.ref (i+1)),p,s,d,b,f,g],o'::(U ++ .lst (rk U.length (ks++[k]))::(G++u)))):
  W (hC [Z (.ref 0),Z (.ref e),Z (.ref (U.length+1)),Z (.ref (i+1)),w,v,d,b,f,g] (o::(U ++ .lst (rk U.length ks)::G))) Q:=by
 generalize c:U ++ .lst (rk U.length ks)::G=V;have l:V.length=U.length+1+G.length:=by rw[<- c];simp;lia
 have t:V[i]?=Z (.lst (ei row)):=by rw[<- c,gL1 (PB hi).1];exact hi
 have m:V[U.length]?=Z (.lst (rk U.length ks)):=by rw[<- c,ee];rfl
 unfold hC;refine eU (λr S=>S=o::(V++[.lst (ei row),.lst []])/\r=[Z (.ref 0),Z (.ref e),Z (.ref (U.length+1)),Z (.ref (i+1)),Z (.ref (V.length+1)),Z (.ref (V.length+2)),d,b,f,g]) ?_ ?_
 ·have z:∀S:d7,S[i+1]?=Z (.lst (ei row))->D8 (.ref (i+1)) S=Z (.ref S.length,S++[.lst (ei row)]):=λS h=>by unfold D8;rw[gP h];rfl
  ((try walk_at"w");repeat(simp only[z (o::V) (by rw[gC1];exact t)];try walk_at"w"))
 rintro r S ⟨rfl,rfl⟩;refine eU (λr S=>∃o' rs G2,g9 o' (n+4)/\rs.Perm row/\S=o'::(V ++ .lst [] :: .lst (ei rs)::G2)/\r=[Z (.ref 0),Z (.ref e),Z (.ref (U.length+1)),Z (.ref (i+1)),Z (.ref (V.length+1)),Z (.ref (V.length+2)),d,b,f,g]) ?_ ?_
 ·refine Fp ho hn hr λo' rs G2 h1 h2=>⟨O,o',rs,G2,h1,h2,O,O⟩
 rintro r S ⟨o',rs,G2,j,y,rfl,rfl⟩;have a:(o'::(V++Ob.lst []::Ob.lst (ei rs)::G2))[U.length+1]?=Z (.lst (rk U.length ks)):=by
  rw[gC1,gL1 (by lia)];exact m
 walk_at"w";refine iL ?_;walk_at"w";refine⟨U.length+1,_,O,a,?_⟩;refine(kY a).mpr ⟨ed (by unfold rk;rw[lM1];lia),?_⟩;have es:(o'::(V++Ob.lst []::Ob.lst (ei rs)::G2)).set (U.length+1) (.lst (rk U.length ks++[.ref (V.length+2)]))=o'::(U ++ .lst (rk U.length (ks++[G.length+1]))::(G++Ob.lst []::Ob.lst (ei rs)::G2)):=by
  have x:rk U.length ks++[.ref (V.length+2)]=rk U.length (ks++[G.length+1]):=by
   unfold rk;rw[cx,l,show U.length+1+G.length+2=U.length+2+(G.length+1) by lia];rfl
  rw[x,<- c,c8,bJ,cY _ _ (nR1 _),cZ];rfl
 rw[es];exact q o' rs _ (G.length+1) _ _ j y (by rw[fJ];rfl)
theorem JL{m a b:FE}{r:Ev}{v:Nat}{kv:List (Key×D)}(hm:m r S=Z (.ref n,S))(ha:a r S=Z (.int v,S))(hb:b r S=Z (.ref S.length,S++[.lst []]))(hn:S[n]? = Z (.dct kv))(e:kv.length<1000)(h1:∀z,ef kv (Sum.inl (v:Int))=Z z->Q (z,S++[.lst []]))(h2:ef kv (Sum.inl (v:Int))=Y->Q (.ref S.length,(S++[Ob.lst []]).set n (.dct (fT kv (Sum.inl (v:Int)) (.ref S.length))))):W (oG m a b r S) Q:=by
 have c:(S++[Ob.lst []])[n]?=Z (.dct kv):=by rw[gL1 (PB hn).1];exact hn
 have d:kv.length<dW:=nL1 e (by decide);cases hk:ef kv (Sum.inl (v:Int))with
 |some z=>
  refine W.of ?_ (h1 z hk);simp only[oG,hm,oS1,hn,ha,hb,c,kB,ak d,hk]
 |none=>
  refine W.of ?_ (h2 hk);simp only[oG,hm,oS1,hn,ha,hb,c,kB,ak d,hk]
theorem CZ{X H:d7}{A:Pl}{kv:List (Key×D)}{v:Nat}{k u t r l:Option D}{Q:Fl×Ev×d7->Prop}(P:PL (X.length+2) A kv H)(G:A.length<100)(q:∀a H',PL (X.length+2) (A++[((i,j),v)]) a H'->Q (.nx,[some (.ref 0),k,u,t,r,l,some (.ref (X.length+1)),some (.int (i:Nat)),some (.int (j:Nat)),some (.int (v:Nat))],o::(X ++ .dct a::H'))):
  W (hB [Z (.ref 0),k,u,t,r,l,Z (.ref (X.length+1)),Z (.int (i:Nat)),Z (.int (j:Nat)),Z (.int (v:Nat))] (o::(X ++ .dct kv::H))) Q:=by
 have F:=P.few;have gd:∀(o:Ob) (wq:Ob) (aq:d7),(o::(X++wq::aq))[X.length+1]?=Z wq:=λo wq aq=>by rw[gC1,ee];rfl
 have B:∀(o:Ob) (wq:Ob) (aq:d7) (h:Nat),(o::(X++wq::aq))[X.length+2+h]?=aq[h]?:=λo wq aq h=>by rw[show X.length+2+h=X.length+(h+1)+1 by lia,gC1,fJ];rfl
 have E:(o::(X++Ob.dct kv::H)).length=X.length+2+H.length:=by simp;lia
 have w:(o::(X++Ob.dct kv::H))++[Ob.lst []]=o::(X ++ .dct kv::(H++[.lst []])):=by simp
 have st:∀(wq:Ob) (aq:d7) (h:Nat) (V:Ob),(o::(X++wq::aq)).set (X.length+2+h) V=o::(X++wq::aq.set h V):=λwq aq h V=>by
  rw[show X.length+2+h=X.length+(h+1)+1 by lia,c8,cY _ _ (by lia),show X.length+(h+1)-X.length=h+1 by lia];rfl
 have g:∀ (a:List (Key×D)) (H1:d7) (h:Nat) (ys:List (Nat×Nat)) (m:d7),m=o::(X ++ .dct a::H1)->H1[h]? = some (.lst (ys.map pD))->ys.length<200->PL (X.length+2) (A++[((i,j),v)]) a (H1.set h (.lst (ys.map pD++[pD (i,j)]))) ->
   ∃n xs,D.ref (X.length+2+h) = .ref n/\m[n]?=Z (.lst xs)/\W (d5 (fw (d5 (mV 7) (d5 (mV 8) d6))) d6 [Z (.ref 0),k,u,t,r,l,Z (.ref (X.length+1)),Z (.int (i:Nat)),Z (.int (j:Nat)),Z (.int (v:Nat))] m) λq=>W (b2 iF (.ref n::q.1) q.2) λp=>W (Z (Fl.nx,[Z (.ref 0),k,u,t,r,l,Z (.ref (X.length+1)),Z (.int (i:Nat)),Z (.int (j:Nat)),Z (.int (v:Nat))],p.2)) Q:=by
  rintro a H1 h ys m rfl e y C;have b:=B o (.dct a) H1 h;rw[e]at b;refine⟨X.length+2+h,_,O,b,?_⟩;walk_at"w";refine(kY b).mpr ⟨ed (by rw[lM1];lia),?_⟩;have:=q a _ C;rw[<- st]at this;exact this
 unfold hB;unfold fQ;rw[d9];refine iL ?_;refine JL (n:=X.length+1) (v:=v) (kv:=kv) O O ?_ (gd _ _ _) (by lia) (λz c=>?_) (λc=>?_)
 ·unfold ic d6;rw[oS1];rfl
 ·by_cases d:ps A v=[]
  ·rw[P.no v d]at c;cases c
  ·obtain⟨h,s,b⟩:=P.yes v d;rw[s]at c;cases c;have y:=(PB b).1;refine g kv (H++[.lst []]) h (ps A v) _ w (by rw[gL1 y];exact b) ?_ (P.old d s b);unfold ps;rw[lM1];have:=dr (λx=>x.2 == v) A;lia
 ·by_cases d:ps A v=[]
  ·have f:=P.new (p:=(i,j)) d;rw[E];refine g (fT kv (Sum.inl (v:Int)) (.ref (X.length+2+H.length))) (H++[.lst []]) H.length [] _ ?_ (by rw[gR1 (nR1 _),cZ];rfl) (by simp) ?_
   ·rw[w,c8,cY _ _ (nR1 _),cZ];rfl
   ·rw[cY _ _ (nR1 _),cZ];exact f
  ·obtain⟨h,s,b⟩:=P.yes v d;rw[s]at c;cases c
abbrev d8:=List (List (Nat×Nat))
def webD(w:d8):D:=.tup (w.map λrow=>.tup (row.map pD))
theorem eP(w:d8):(webD w).und 0=M:=by
 unfold webD;rw[D.und];exact fj λa _=>by rw[D.und];exact fj λ_ _=>rfl
def vp(A:Pl)(i:Nat)(row:List Nat):List (Nat×Nat):=row.zipIdx.map λq=>jH A q.1 (i,q.2)
def k0(R:js):d8:=R.zipIdx.map λp=>vp (fB 0 R) p.2 p.1
theorem q0{R:js}:(k0 R)[i]?=(R[i]?).map (vp (fB 0 R) i):=by
 unfold k0;rw[gP1,dz];cases R[i]? <;> simp
structure uV (E R:js):Prop where
 len:R.length=E.length
 row:∀(i:Nat) (r e:List Nat),R[i]?=some r->E[i]?=some e->r.Perm e
theorem uV.snoc{R:js}{r e:List Nat}(h:uV (E.take i) R)(he:E[i]?=Z e)(p:r.Perm e):uV (E.take (i+1)) (R++[r]):=by
 have hi:=(PB he).1;have a:R.length=i:=by have:=h.len;rw[aT]at this;lia
 refine⟨by rw[lA1,aT,a,a0];lia,λj d b h1 h2=>?_⟩;by_cases c:j<i
 ·rw[gL1 (by lia)]at h1;rw[aV (by lia)]at h2;exact h.row j d b h1 (by rw[aV c];exact h2)
 ·have:=(PB h1).1;rw[lA1,a0]at this;have e:j=i:=by lia
  subst e;rw[aV (by lia),he]at h2;rw[<- a,dy]at h1;cases h1;cases h2;exact p
theorem mK:∀{E R:js},uV E R->R.flatten.Perm E.flatten
 |[],[],_=>.refl _
 |[],_::_,h=>by have:=h.len;simp at this
 |_::_,[],h=>by have:=h.len;simp at this
 |e::E,r::R,h=>(h.row 0 r e O O).append (mK ⟨by simpa using h.len,λi a b h1 h2=>h.row (i+1) a b h1 h2⟩)
theorem vr{k l a:Nat}{R:js}(v:WE m E k l)(sh:uV E R)(hr:R[i]?=Z row)(ha:row[j]?=Z a):(ps (fB 0 R) a).length=2:=by
 rw[FU,uw,(mK sh).count_eq,v.ct a];have b:a∈R.flatten:=List.mem_flatten.mpr ⟨row,gM1 hr,gM1 ha⟩;have:=List.count_pos_iff.mpr b;rw[(mK sh).count_eq,v.ct a]at this;split at this
 ·rename_i h;rw[ak h]
 ·lia
theorem EB{u k:Nat}(h:ks[j]?=Z k):(rk u ks)[j]?=Z (.ref (u+2+k)):=by unfold rk;rw[gP1,h];rfl
theorem rp{u:Nat}:(rk u ks).length=ks.length:=by unfold rk;rw[lM1]
theorem xh{v:Nat}{F:List (Key×D)}{d:D}(h:S[n]?=Z (.dct F))(a:ef F (Sum.inl (v:Int))=Z d)(q:Q (d,S)):W (ez (.ref n) (.int (v:Nat)) S) Q:=by
 refine W.of ?_ q;simp only[ez,mh,h,kB,oS1,a,oP1]
theorem Jw{a:Nat×Nat}:gEq (pD a) (.tup [.int i,.int j]) S=Z (.bl (a == (i,j)),S):=by
 have:=oW (S:=S) (n:=58) (a:=a) (b:=(i,j));show(hL S eK (pD a) (pD (i,j))).map _=_;unfold eK;rw[this];rfl
inductive DI (E:js)(U:d7)(t m n:Nat):Nat->Ev->d7->Prop
 |mk (i:Nat) (R:js) (ks:List Nat) (G:d7) (o':Ob) (x3 x4 x5:Option D) (hi:i<=m) (sh:uV (E.take i) R) (rs:RS R ks G) (ho:g9 o' (n+4*i)):DI E U t m n i [some (.ref 0),some (.ref (t+m+1)),some (.ref (U.length+1)),x3,x4,x5,none,none,none,none] (o'::(U ++ .lst (rk U.length ks)::G))
inductive DJ (R:js)(X:d7)(o':Ob)(a b:Nat)(x3 x4:Option D)(m:Nat):Nat->Ev->d7->Prop
 |mk (i:Nat) (kv:List (Key×D)) (H:d7) (x5 x7 x8 x9:Option D) (hi:i<=m) (P:PL (X.length+2) (fB 0 (R.take i)) kv H):DJ R X o' a b x3 x4 m i [some (.ref 0),some (.ref a),some (.ref b),x3,x4,x5,some (.ref (X.length+1)),x7,x8,x9] (o'::(X ++ .dct kv::H))
inductive DK (R:js)(X:d7)(o':Ob)(a b:Nat)(x3 x4:Option D)(x5:Nat)(i:Nat)(row:List Nat):Nat->Ev->d7->Prop
 |mk (j:Nat) (kv:List (Key×D)) (H:d7) (x8 x9:Option D) (hj:j<=row.length) (P:PL (X.length+2) (fB 0 (R.take i)++io i (row.take j)) kv H):DK R X o' a b x3 x4 x5 i row j [some (.ref 0),some (.ref a),some (.ref b),x3,x4,some (.ref x5),some (.ref (X.length+1)),some (.int (i:Nat)),x8,x9] (o'::(X ++ .dct kv::H))
theorem BC{t k:Nat}{U:d7}(w:WN t m T E U)(v:WE m E k (m-1))(ho:g9 o n)(hn:n<=2^43)(hm:m<=8)(q:∀R o',uV E R->g9 o' (n+40)->Q (webD (k0 R),o'::U)):W (ea 2 gh [.ref 0,.ref (t+m+1)] (o::U)) Q:=by
 refine xA O O (bD.mpr w.cl) ?_;unfold gh;refine lh ?_;unfold kW;have hlE:=w.el;refine eU (λr S=>S=o::(U ++ .lst (rk U.length [])::[])/\r=[Z (.ref 0),Z (.ref (t+m+1)),Z (.ref (U.length+1)),Y,Y,Y,Y,Y,Y,Y]) ?_ ?_
 ·walk_at"w";exact⟨O,trivial⟩
 rintro r S ⟨rfl,rfl⟩;refine eU (DI E U t m n m) ?_ ?_
 ·have y:∀(o:Ob) (aq:d7),(o::(U++aq))[t+m+1]?=Z (.lst (ky (t+1) m)):=λo aq=>by rw[gC1,gL1 (PB w.ends).1];exact w.ends
  walk_at"w";refine eE (y _ _) ?_;refine e6 (DI E U t m n) _ 0 _ _ (.mk 0 [] [] [] o Y Y Y (bj _) ⟨O,λi r e h=>by simp at h⟩ ⟨O,λj k row h=>by simp at h⟩ ho) ?_ ?_ ?_
  ·rintro i r S ⟨R,ks,G,o',x3,V,N,_,_,_,_⟩;exact fm (y _ _)
  ·rintro i d g r S ⟨R,ks,G,o',x3,V,N,hi,sh,rs,C⟩;have c:=(PB g).1;dsimp only at c g;rw[lU]at c;rw[bQ]at *
   rw[rr c]at g;cases g;obtain⟨row,b⟩:∃row,E[i]?=some row:=⟨_,gG1 (by lia)⟩;have hks:ks.length=i:=by rw[rs.len,sh.len,aT];lia
   walk_at"w";rw[show t+1+i=t+i+1 by lia];refine E2 (i:=t+i) (w.row i row b) C (by lia) (v.le i row b) (by lia) λo2 rs2 G2 k2 x4' x5' h1 h2 h3=>?_;exact⟨O,.mk _ (R++[rs2]) (ks++[k2]) (G++G2) o2 _ _ _ c (sh.snoc b h2) (rs.app.snoc h3) (h1.more (nR1 _))⟩
  ·intro r S h;rw[lU,bQ]at h;exact⟨O,h⟩
 rintro r S ⟨R,ks,G,o',x3,V,N,_,sh,rs,C⟩;rw[cQ (Nat.le_of_eq hlE)]at sh;generalize hX:U ++ .lst (rk U.length ks)::G=X;have F:R.length=m:=by rw[sh.len];exact hlE
 have K:∀(i:Nat) (row:List Nat),R[i]?=Z row->row.length<=4:=λi row h=>by
  obtain⟨e,he⟩:∃e,E[i]?=some e:=⟨_,gG1 (by have:=(PB h).1;lia)⟩;rw[(sh.row i row e h he).length_eq];exact v.le i e he
 have gk:∀(o:Ob) (aq:d7),(o::(X++aq))[U.length+1]?=Z (.lst (rk U.length ks)):=λo aq=>by
  rw[<- hX,gC1,bJ,ee];rfl
 have s:∀(o:Ob) (aq:d7) (i k:Nat) (row:List Nat),ks[i]?=Z k->R[i]?=Z row->(o::(X++aq))[U.length+2+k]?=Z (.lst (ei row)):=λo aq i k row h1 h2=>by
  have e:=rs.row i k row h1 h2;rw[<- hX,show U.length+2+k=U.length+(k+1)+1 by lia,gC1,bJ,fJ,bm,gC1,gL1 (PB e).1];exact e
 refine eU (λr S=>S=o'::(X ++ .dct []::[])/\r=[Z (.ref 0),Z (.ref (t+m+1)),Z (.ref (U.length+1)),x3,V,N,Z (.ref (X.length+1)),Y,Y,Y]) ?_ ?_
 ·wp_walk using l8
 rintro r S ⟨rfl,rfl⟩;have lenA:∀i,i<=m->(fB 0 (R.take i)).length<=4*i:=by
  intro i
  induction i with
  |zero=>intro _;simp[fB]
  |succ i ih=>
   intro hi;obtain⟨row,b⟩:∃row,R[i]?=some row:=⟨_,gG1 (by lia)⟩;rw[mY b,lA1];have:=ih (by lia);have:=K i row b;simp[io];lia
 refine eU (DJ R X o' (t+m+1) (U.length+1) x3 V m m) ?_ ?_
 ·unfold fz;rw[d9];refine xI (n:=U.length+1) O (gk _ _) ?_;refine e6 (DJ R X o' (t+m+1) (U.length+1) x3 V m) _ 0 _ _ (.mk 0 [] [] _ _ _ _ (bj _) ⟨λv _=>rfl,λv h=>(h O).elim,λv u h e=>by simp[ef]at e,by simp⟩) ?_ ?_ ?_
  ·rintro i r S ⟨A,H,N,x7,x8,x9,_,_⟩;exact fm (gk _ _)
  ·rintro i d g r S ⟨A,H,N,x7,x8,x9,hi,P⟩;dsimp only at g;rw[fZ]at g;obtain⟨z,B,rfl⟩:=PD g;have c:=(PB B).1;rw[rp]at c;obtain⟨k2,l⟩:∃k2,ks[i]?=some k2:=⟨_,gG1 c⟩;rw[EB l]at B;cases B;have hil:i<m:=by rw[<- F,<- rs.len];exact c
   obtain⟨row,b⟩:∃row,R[i]?=some row:=⟨_,gG1 (by lia)⟩;rw[bQ]at *
   walk_at"w";unfold jk fz;rw[d9];refine xI (n:=U.length+2+k2) O (s _ _ i k2 row l b) ?_;refine e6 (DK R X o' (t+m+1) (U.length+1) x3 V (U.length+2+k2) i row) _ 0 _ _ (.mk 0 A H _ _ (bj _) (by simpa[io]using P)) ?_ ?_ ?_
   ·rintro j r S ⟨A,H,x8,x9,_,_⟩;exact fm (s _ _ i k2 row l b)
   ·rintro j d g r S ⟨A,H,x8,x9,hj,P⟩;dsimp only at g;rw[fZ]at g;obtain⟨z,B,rfl⟩:=PD g;rw[ei,gP1]at B;obtain⟨way,I,rfl⟩:=PD B;have hjl:=(PB I).1;rw[bQ]at *
    have:=lenA i (by lia);have:=K i row b;walk_at"w";refine CZ P (by rw[lA1];simp[io];lia) λkv' H' P'=>?_;rw[bJ,<- Aa I]at P';exact⟨O,.mk _ kv' H' _ _ hjl P'⟩
   ·rintro r S ⟨A,H,x8,x9,hj,P⟩;rw[fY,eX,bQ,b4]at P;refine⟨O,.mk _ A H _ _ _ _ hil ?_⟩;rw[mY b,bQ];exact P
  ·intro r S h;rw[fY,rp,rs.len,bQ,F]at h;exact⟨O,h⟩
 rintro r S ⟨A,H,N,x7,x8,x9,_,P⟩;rw[cQ (Nat.le_of_eq F)]at P;obtain⟨aq,hY⟩:∃aq,aq=Ob.dct A::H:=⟨_,O⟩;rw[<- hY];have cnt:∀(i j a:Nat) (row:List Nat),R[i]?=Z row->row[j]?=Z a -> ∃p L h,ps (fB 0 R) a=[p,L]/\ef A (Sum.inl (a:Int))=Z (.ref (X.length+2+h))/\H[h]?=Z (.lst [pD p,pD L]):=by
  intro i j a row hr ha;have h2:=vr v sh hr ha;obtain⟨p,L,e⟩:=zk h2;obtain⟨h,e1,e2⟩:=P.yes a (by rw[e];simp);rw[e]at e2;exact⟨p,L,h,e,e1,e2⟩
 have gY:∀(o:Ob) (wq:d7) (h:Nat) (x:Ob),H[h]?=Z x->(o::(X++(aq++wq)))[X.length+2+h]?=Z x:=λo wq h x e=>by
  rw[hY,show X.length+2+h=X.length+(h+1)+1 by lia,gC1,fJ,bm,gC1,gL1 (PB e).1];exact e
 have gd:∀(o:Ob) (wq:d7),(o::(X++(aq++wq)))[X.length+1]?=Z (.dct A):=λo wq=>by rw[hY,gC1,ee];rfl
 walk_at"w";refine xI (n:=U.length+1) O (gk _ _) ?_;refine gm (λi am r S=>∃wq au ao,S=o'::(X++(aq++wq))/\r=[au,ao,Z (.ref (X.length+1))]/\am=(((k0 R).take i).map λrow=>.tup (row.map pD))) _ 0 [] _ _ ⟨[],Y,Y,by rw[aP],O,O⟩ ?_ ?_ ?_
 ·rintro i am r S ⟨wq,au,ao,rfl,_⟩;exact fm (gk _ _)
 ·rintro i d g am r S ⟨wq,au,ao,rfl,rfl,rfl⟩;dsimp only at g;rw[fZ]at g;obtain⟨z,B,rfl⟩:=PD g;have c:=(PB B).1;rw[rp]at c;obtain⟨k2,l⟩:∃k2,ks[i]?=some k2:=⟨_,gG1 c⟩;rw[EB l]at B;cases B;obtain⟨row,b⟩:∃row,R[i]?=some row:=⟨_,gG1 (by rw[<- rs.len];exact c)⟩;rw[bQ]at *
  have hl:=K i row b;walk_at"w";refine xI (n:=U.length+2+k2) O (s _ _ i k2 row l b) ?_;dsimp only;rw[ei,BB];refine jr (f:=λp:Nat×Nat=>D.tup [.int p.2,.int p.1]) (λp=>pD (jH (fB 0 R) p.1 (i,p.2))) (λr=>∃au ao,r=[au,ao,Z (.ref (X.length+1)),Z (.int (i:Nat))]) (fm (s _ _ i k2 row l b)) row.zipIdx _ ⟨_,_,O⟩ ?_ ?_
  ·rintro⟨a,j⟩ ha r ⟨y0,y1,rfl⟩;obtain⟨p,L,h,c1,c2,c3⟩:=cnt i j a row b (xM ha);have c4:=gY o' wq h _ c3;walk_at"w";refine xh (gd _ _) c2 ?_;refine xh (gd _ _) c2 ?_;refine nv (i:=0) (x:=pD p) c4 O ?_
   wp_walk using Jw
   by_cases hp:p=(i,j)
   ·rw[show(p == (i,j))=M by rw[hp];simp];walk_at"w";refine nv (i:=1) (x:=pD L) c4 O ?_;refine⟨?_,O,_,_,O⟩;simp[jH,c1,hp]
   ·rw[show(p == (i,j))=J by simp[hp]];walk_at"w";refine nv (i:=0) (x:=pD p) c4 O ?_;refine⟨?_,O,_,_,O⟩;simp[jH,c1,hp]
  ·rintro r' _;walk_at"w";refine⟨ed (by rw[lM1,List.length_zipIdx];lia),?_⟩;refine eE (xs:=row.zipIdx.map λp=>pD (jH (fB 0 R) p.1 (i,p.2))) (by rw[gC1];simp only[<- lA1,<- bn,<- bJ];rw[ee];rfl) ?_;refine⟨wq++[Ob.lst (row.zipIdx.map λp=>pD (jH (fB 0 R) p.1 (i,p.2)))],_,_,O,O,?_⟩;rw[cv,q0,b];simp[vp,Function.comp_def]
 ·rintro xs r S ⟨wq,au,ao,rfl,rfl,e⟩;dsimp only at e;have hwl:(k0 R).length=m:=by unfold k0;simp[F]
  rw[cW,bQ,fY,rp,rs.len,cQ (by lia)]at e;subst e;walk_at"w";refine⟨ed (by rw[lM1];lia),?_⟩;refine eE (xs:=(k0 R).map λrow=>.tup (row.map pD)) (by rw[gC1];simp only[<- lA1,<- bn,<- bJ];rw[ee];rfl) ?_;refine⟨webD (k0 R),o',(.lst (rk U.length ks)::G)++(aq++(wq++[Ob.lst ((k0 R).map λrow=>.tup (row.map pD))])),?_,eP _,C.und,q R o' sh (C.more (by lia))⟩;rw[<- hX];simp only[bJ];rfl
def At(w:d8)(r d:Nat)(e:Nat×Nat):Prop:=∃row,w[r]?=Z row/\row[d]?=Z e
structure WebJ (m:Nat)(w:d8):Prop where
 len:w.length=m
 le:∀(i:Nat) (row:List (Nat×Nat)),w[i]?=some row->row.length<=4
 to:∀(r d:Nat) (e:Nat×Nat),At w r d e->e.1<m
 jn:∀j,1<=j->j<m -> ∃a d e,a<j/\At w a d e/\e.1=j
structure sI (m:Nat)(w:d8):Prop extends WebJ m w where
 bk:∀(r d:Nat) (e:Nat×Nat),At w r d e->At w e.1 e.2 (r,d)
theorem j5{w:d8}{e':Nat×Nat}(h:At w r d e)(h':At w r d e'):e=e':=by
 obtain⟨g,f,c⟩:=h;obtain⟨r2,b,a⟩:=h';rw[f]at b;cases b;rw[c]at a;cases a;rfl
structure sJ (m:Nat)(w:d8):Prop extends WebJ m w where
 back:∀(r d:Nat) (e:Nat×Nat),At w r d e->At w e.1 e.2 (r,d)/\e≠(r,d)
theorem HB{R:js}:At (k0 R) i j e ↔ ∃b a,R[i]?=Z b/\b[j]?=Z a/\e=jH (fB 0 R) a (i,j):=by
 unfold At;rw[q0];constructor
 ·rintro⟨b,h1,h2⟩;obtain⟨c,g,rfl⟩:=PD h1;unfold vp at h2;rw[gP1,dz]at h2;obtain⟨x,d,rfl⟩:=PD h2;obtain⟨a,f,rfl⟩:=PD d;exact⟨c,a,g,f,by simp⟩
 ·rintro⟨b,a,h1,h2,rfl⟩;refine⟨vp (fB 0 R) i b,by rw[h1];rfl,?_⟩;unfold vp;rw[gP1,dz,h2];simp
theorem nR{R:js}{a:Nat}:((i,j),a)∈fB 0 R ↔ ∃b,R[i]?=Z b/\b[j]?=Z a:=by
 rw[oE];constructor
 ·rintro⟨d,b,h1,h2,c⟩;rw[bQ]at h1;dsimp only at h1;subst h1;exact⟨b,h2,c⟩
 ·rintro⟨b,h2,c⟩;exact⟨i,b,(bQ i).symm,h2,c⟩
theorem Cj{k:Nat}{R:js}(v:WE m E k (m-1))(sh:uV E R):sJ m (k0 R):=by
 have y:R.length=m:=by rw[sh.len];exact v.len
 have ao:∀(i:Nat) (b:List Nat),R[i]?=Z b -> ∃e,E[i]?=Z e/\b.Perm e:=λi b h=>by
  obtain⟨e,o⟩:∃e,E[i]?=some e:=⟨_,gG1 (by have:=(PB h).1;rw[v.len];lia)⟩;exact⟨e,o,sh.row i b e h o⟩
 have l:∀(r d:Nat) (e:Nat×Nat),At (k0 R) r d e->At (k0 R) e.1 e.2 (r,d)/\e≠(r,d)/\e.1<m:=λr d e h=>by
  obtain⟨b,a,h1,h2,rfl⟩:=HB.mp h;obtain⟨I,p2,L,_⟩:=wI sv (vr v sh h1 h2) (nR.mpr ⟨b,h1,h2⟩);generalize jH (fB 0 R) a (r,d)=g at *
  obtain⟨c,q,am⟩:=(nR (i:=g.1) (j:=g.2)).mp I;refine⟨HB.mpr ⟨c,a,q,am,L.symm⟩,p2,?_⟩;have:=(PB q).1;lia
 refine⟨⟨by unfold k0;simp[y],λi b h=>?_,λr d e h=>(l r d e h).2.2,λj h1 h2=>?_⟩,λr d e h=>⟨(l r d e h).1,(l r d e h).2.1⟩⟩
 ·rw[q0]at h;obtain⟨c,q,rfl⟩:=PD h;obtain⟨e,o,p⟩:=ao i c q;unfold vp;rw[lM1,List.length_zipIdx,p.length_eq];exact v.le i e o
 ·obtain⟨a,B,F,x,N,D,G,au,K⟩:=v.jn j h1 (by lia);obtain⟨t,f⟩:∃s,R[a]?=some s:=⟨_,gG1 (by lia)⟩;obtain⟨A,n⟩:∃s,R[j]?=some s:=⟨_,gG1 (by lia)⟩;obtain⟨d,w⟩:=bq ((sh.row a t B f D).mem_iff.mpr au);obtain⟨H,u⟩:=bq ((sh.row j A F n G).mem_iff.mpr K);obtain⟨_,_,_,C⟩:=wI sv (vr v sh f w) (nR.mpr ⟨t,f,w⟩);rcases C (j,H) (nR.mpr ⟨A,n,u⟩)with z|z
  ·injection z with P Q;lia
  ·exact⟨a,d,_,N,HB.mpr ⟨t,x,f,w,O⟩,by rw[<- z]⟩
theorem CY{a:Nat}(ho:g9 o n)(hn:n<=2^40)(aq:T.all (Ob.und (T.length+1))=M)(h0:1<=a)(h8:a<=8)(h:∀m w o',0<m->m<=a->sJ m w->g9 o' (n+100)->Q (webD w,o'::T)):W (ea 2 fD [.ref 0,.int a] (o::T)) Q:=by
 refine xA O O aq ?_;unfold fD;refine lh ?_;unfold i4;generalize au:T.length=t;refine eU (λr S=>∃(m:Nat) (u:Ob),0<m/\m<=a/\g9 u (n+1)/\r=[Z (.ref 0),Z (.int a),Z (.int m),Z (.int ((0:Nat):Int)),Y,Y,Y,Y,Y,Y]/\S=u::T) ?_ ?_
 ·walk_at"w";refine jy ho (by lia) (by lia) (by lia) λc u y hc=>?_;walk_at"w";exact⟨c+1,u,by lia,by lia,y,by simp[Int.add_comm],O⟩
 rintro r S ⟨m,u,F,hm,y,rfl,rfl⟩;refine eU (λr S=>∃U,WN t m T (aR m []) U/\r=[Z (.ref 0),Z (.int a),Z (.int m),Z (.int ((0:Nat):Int)),Z (.ref (t+m+1)),Y,Y,Y,Y,Y]/\S=u::U) ?_ ?_
 ·walk_at"w";refine⟨eV (by lia),?_⟩;rw[NH];refine gm (λi G r S=>G=ky (t+1) i/\S=u::(T++aR i (.lst [])) /\ ∃x,r=[x]) (gb 0 m) 0 [] _ _ ⟨O,by simp,_,O⟩ (λ_ _ _ _ _=>rfl) ?_ ?_
  ·rintro i d A G r S ⟨rfl,rfl,x,rfl⟩;walk_at"w";rw[bQ];refine⟨?_,?_,_,O⟩
   ·rw[pX,au,lR1]
    congr 3
    lia
   ·rw[List.replicate_succ']
  ·rintro xs r S ⟨e,rfl,_⟩;rw[cW,bQ,eM]at e;subst e;rw[bQ,eM];walk_at"w";rw[lU];refine⟨ed (by lia),_,ze au aq,?_,O⟩;simp[au]
 rintro r S ⟨U0,w0,rfl,rfl⟩;refine eU (λr S=>∃E k f U l p g,WN t m T E U/\WE m E k (m-1)/\g9 f (n+20)/\r=[Z (.ref 0),Z (.int a),Z (.int m),Z (.int (k:Nat)),Z (.ref (t+m+1)),l,p,g,Y,Y]/\S=f::U) ?_ ?_
 ·walk_at"w";refine⟨Hz (by decide) (by decide),eV (by lia),?_⟩;refine e6 (λi r S=>i<=m-1 /\ ∃E f U l p g,WN t m T E U/\WE m E i i/\(∀j z,i+1<=j->E[j]?=Z z->z=[])/\g9 f (n+1+i)/\r=[Z (.ref 0),Z (.int a),Z (.int m),Z (.int (i:Nat)),Z (.ref (t+m+1)),l,p,g,Y,Y]/\S=f::U) _ 0 _ _ ?_ (λ_ _ _ _=>rfl) ?_ ?_
  ·refine⟨by lia,_,u,U0,Y,Y,Y,w0,zg m,λj z _ H=>?_,y,O,O⟩;rw[aU]at H;split at H
   ·cases H;rfl
   ·cases H
  ·rintro i d A r S ⟨hi,E,f,U,l,p,g,w,v,X,b,rfl,rfl⟩;have q:=(PB A).1;rw [eM] at q;have N:d = .int ((i+1:Nat):Int):=by
    rw[rS,gP1,dA q]at A;simp at A;rw[<- A]
    push_cast
    congr 1
    lia
   subst N;rw[bQ]at *
   walk_at"w";refine Fa w v b (by lia) (by lia) (by lia) X λK o' P wq I ao am s L=>?_;exact⟨O,by lia,K,o',P,_,_,_,ao,am,L,s.more (by lia),O,O⟩
  ·rintro r S ⟨hi,E,f,U,l,p,g,w,v,X,b,rfl,rfl⟩;rw[eM,bQ]at *
   have e:((m:Int)-1).toNat=m-1:=by lia
   rw[e]at v b ⊢;exact⟨O,E,m-1,f,U,l,p,g,w,v,b.more (by lia),O,O⟩
 rintro r S ⟨E,k,f,U,l,p,g,w,v,b,rfl,rfl⟩;refine eU (λr S=>∃E k f U l p g B C,WN t m T E U/\WE m E k (m-1)/\g9 f (n+50)/\r=[Z (.ref 0),Z (.int a),Z (.int m),Z (.int (k:Nat)),Z (.ref (t+m+1)),l,p,g,B,C]/\S=f::U) ?_ ?_
 ·walk_at"w";refine jy b (by lia) (by lia) (by lia) λc o3 V hc=>?_;walk_at"w";refine⟨eV (by lia),?_⟩;rw[NH];refine e6 (λi r S=>i<=c /\ ∃E k f U l p g B C,WN t m T E U/\WE m E k (m-1)/\g9 f (n+21+2*i)/\r=[Z (.ref 0),Z (.int a),Z (.int m),Z (.int (k:Nat)),Z (.ref (t+m+1)),l,p,g,B,C]/\S=f::U) _ 0 _ _ ⟨by lia,E,k,o3,U,l,p,g,Y,Y,w,v,V,O,O⟩ (λ_ _ _ _=>rfl) ?_ ?_
  ·rintro i d A r S ⟨hi,E,k,f,U,l,p,g,B,C,w,v,b,rfl,rfl⟩;have q:=(PB A).1;rw[eM]at q;rw[bQ]at *
   walk_at"w";refine GB w v b (by lia) F (by lia) λK k' o' P I x9' ao am s=>?_;exact⟨O,by lia,K,k',o',P,_,_,_,_,_,ao,am,s.more (by lia),O,O⟩
  ·rintro r S ⟨hi,E,k,f,U,l,p,g,B,C,w,v,b,rfl,rfl⟩;rw[eM,bQ]at b;exact⟨O,E,k,f,U,_,_,_,_,_,w,v,b.more (by lia),O,O⟩
 rintro r S ⟨E,k,f,U,l,p,g,B,C,w,v,b,rfl,rfl⟩;walk_at"w";refine BC w v b (by lia) (by lia) λR o' sh s=>?_;exact⟨webD (k0 R),o',U.drop t,by rw[<- w.split],eP _,s.und,h m _ o' F hm (Cj v sh) (s.more (by lia))⟩
theorem JN{m:FA}{r:Ev}{S1:d7}{k:Nat}(h:m r S=Z ([.int k],S1))(hk:k<=1000)(q:Q (.ref S1.length,S1++[.lst (gb 0 k)])):W (AS m r S) Q:=by
 refine W.of ?_ q;unfold AS;rw[h,oS1];dsimp only;have:m8 0 (k:Int)=M:=by
  unfold m8;simp only[bA1,al];lia
 rw[ak this,NH]
theorem wK{a:Nat}(ho:g9 o n)(hn:n<=2^42)(hc:a<=8)(q:∀t o',t.Perm (af a)->g9 o' (n+a)->Q (.ref (T.length+2),o'::(T++[.lst [],.lst (ei t)]))):W (ea 2 fy [.ref 0,.int a] (o::T)) Q:=by
 refine xy O O ?_;unfold fy;refine lh ?_;unfold my;have j:∀(o:Ob) (X:Ob) (aq:d7),(o::(T++X::aq))[T.length+1]?=Z X:=λo X aq=>by rw[gC1,ee];rfl
 refine eU (λr S=>S=o::(T++[.lst (ei (af a))])/\r=[Z (.ref 0),Z (.int a),Z (.ref (T.length+1))]) ?_ ?_
 ·unfold eF;rw[d9];refine JN (k:=a) (S1:=o::T) O (by lia) ?_;rw[jl];walk_at"w";exact⟨O,trivial⟩
 rintro r S ⟨rfl,rfl⟩;walk_at"w";refine⟨eV (by lia),?_⟩;rw[NH];refine gm (λi g r S=>∃o' rs ls x,i<=a/\(rs++ls).Perm (af a)/\rs.length=i/\g=ei rs/\g9 o' (n+i)/\S=o'::(T++[.lst (ei ls)])/\r=[x,Z (.ref (T.length+1)),Z (.ref 0)]) (gb 0 a) 0 [] _ _ ⟨o,[],af a,_,by lia,.refl _,O,O,ho,O,O⟩ (λ_ _ _ _ _=>rfl) ?_ ?_
 ·rintro i d p g r S ⟨o',rs,ls,x,hi,f,s,rfl,c,rfl,rfl⟩;have h:=(PB p).1;rw[eM]at h;have b:=f.length_eq;rw[lA1,dB]at b;rw[bQ]at *
  walk_at"w";refine iL ?_;walk_at"w";refine⟨T.length+1,ei ls,O,j _ _ _,?_⟩;refine eE (j _ _ _) ?_;walk_at"w";rw[eX];refine jy c (by lia) (by lia) (by lia) λd u l p=>?_;obtain⟨y,m⟩:∃y,ls[d]?=some y:=⟨_,gG1 (by lia)⟩;walk_at"w";refine wa (j _ _ _) (Ay m) (by lia) ?_;refine⟨u,rs++[y],ls.eraseIdx d,_,by lia,tJ f m,by rw[lA1,s];rfl,jc,l.more (by lia),?_,O⟩;rw[c8,cY _ _ (nR1 _),cZ,t4];rfl
 ·rintro xs r S ⟨o',rs,ls,x,hi,f,s,e,c,rfl,rfl⟩;rw[eM,bQ]at *
  rw[cW]at e;subst e;have b:=f.length_eq;rw[lA1,dB]at b;have:ls=[]:=List.eq_nil_of_length_eq_zero (by lia);subst this;rw[aP]at f;walk_at"w";refine⟨ed (by rw[eX];lia),?_⟩;unfold gc;rw[aj (by simp[D.und])];exact q rs o' f c
noncomputable def tk3(r k d:Nat):TK:=.tup [.int r,.int k,.int d]
noncomputable def sO(r k d:Nat):D:=.tup [.int r,.int k,.int d]
theorem Hb{k:Nat}:kA (sO r k d)=Z (tk3 r k d):=rfl
theorem lB{k a k' d':Nat}(h:tk3 r k d=tk3 a k' d'):r=a/\k=k'/\d=d':=by
 simp[tk3]at h;lia
def B5(w:d8)(cp:Nat)(F:List (TK×D))(r k d:Nat):Prop:=∃e k',At w r d e/\k'<cp/\ef F (tk3 r k d)=Z (sO e.1 k' e.2)/\ef F (tk3 e.1 k' e.2)=Z (sO r k d)
def Ep(F F':List (TK×D))(p e:Nat×Nat):Prop:=∀a k b,(a,b)≠p->(a,b)≠e->ef F' (tk3 a k b)=ef F (tk3 a k b)
theorem B5.keep{w:d8}{g k:Nat}{p:Nat×Nat}{j:List (TK×D)}(h:B5 w g F r k d)(hk:Ep F j p e)(h1:(r,d)≠p)(h2:(r,d)≠e)(m:∀f,At w r d f->f≠p/\f≠e):B5 w g j r k d:=by
 obtain⟨f,i,a,b,c,l⟩:=h;have:=m f a;exact⟨f,i,a,b,by rw[hk r k d h1 h2];exact c,by rw[hk f.1 i f.2 this.1 this.2];exact l⟩
theorem JK{m:FA}{r:Ev}{Q:yQ×d7->Prop}(h:W (m r S) λp=>∃n xs,p.1=[.ref n]/\p.2[n]?=Z (.lst xs)/\Q (⟨u6 0 xs,[(n,xs)]⟩,p.2)):W (oR m r S) Q:=by
 obtain⟨⟨a,b⟩,e,n,xs,h1,h2,q⟩:=h;dsimp only at h1 h2 q;subst h1;refine W.of (x:=(⟨u6 0 xs,[(n,xs)]⟩,b)) ?_ q;simp only[oR,e,oS1,gP h2,sy h2]
theorem Ct{G:d7}{cp:Nat}{w:d8}{L au x9 X j m l s:Option D}{Q:Fl×Ev×d7->Prop}(ho:g9 o n)(hn:n<=2^42)(hc:cp<=4)(ha:At w r d e)(hb:At w e.1 e.2 (r,d))(U:e≠(r,d))(hF:F.length<900)(q:∀f G' o' x9' C,g9 o' (n+4)->Ep F f (r,d) e->(∀k,k<cp->B5 w cp f r k d/\B5 w cp f e.1 k e.2)->f.length<=F.length+8 ->
   Q (.nx,[Z (.ref 0),L,Z (.int cp),Z (.ref (T.length+1)),Z (.int r),au,Z (.int d),Z (.int e.1),Z (.int e.2),x9',C,j,m,l,s],o'::(T++dO f::G'))):
  W (fz (oR (d5 (mN (ea 2 fy) (d5 (mV 0) (d5 (mV 2) d6))) d6)) (gT 2 (fO (gN 9) (fO (gN 10) jp))) iw [Z (.ref 0),L,Z (.int cp),Z (.ref (T.length+1)),Z (.int r),au,Z (.int d),Z (.int e.1),Z (.int e.2),x9,X,j,m,l,s] (o::(T++dO F::G))) Q:=by
 unfold fz;rw[d9];refine JK ?_;simp(implicitDefEqProofs:=J) only[d5,mN,mV,dk,gC1,d6,oS1,d9,ew];refine wK ho hn (by lia) λg o' ao ho'=>?_;have E:=ao.length_eq;rw[dB]at E;have B:∀c x:Nat,g[c]?=Z x->x<cp:=λc x h=>aB.mp (ao.mem_iff.mp (gM1 h));walk_at"w";have eS:o'::(T++dO F::(G++[Ob.lst [],Ob.lst (ei g)]))=o'::((T++dO F::G)++[Ob.lst [],Ob.lst (ei g)]):=by simp
 have gO:∀(f:List (TK×D)),(o'::(T++dO f::(G++[Ob.lst [],Ob.lst (ei g)])))[T.length+(G.length+1)+2]?=Z (.lst (ei g)):=λf=>by
  rw[show T.length+(G.length+1)+2=T.length+(G.length+1+1)+1 by lia,gC1,fJ,gC1,fJ];rfl
 refine⟨T.length+(G.length+1)+2,ei g,by first|rfl|(congr 3;lia),by first|exact gO F|(rw[<- gO F];congr 1;lia),?_⟩;have gd:∀(wq:Ob) (aq:d7),(o'::(T++wq::aq))[T.length+1]?=Z wq:=λwq aq=>by rw[gC1,ee];rfl
 have sd:∀(wq V:Ob) (aq:d7),(o'::(T++wq::aq)).set (T.length+1) V=o'::(T++V::aq):=λwq V aq=>by
  rw[c8,cY _ _ (nR1 _),cZ];rfl
 refine e6 (λi u S=>∃f P p,i<=cp/\Ep F f (r,d) e/\(∀c x:Nat,c<i->g[c]?=Z x->ef f (tk3 r c d)=Z (sO e.1 x e.2)/\ef f (tk3 e.1 x e.2)=Z (sO r c d))/\f.length<=F.length+2*i/\S=o'::(T++dO f::(G++[Ob.lst [],Ob.lst (ei g)]))/\u=[Z (.ref 0),L,Z (.int cp),Z (.ref (T.length+1)),Z (.int r),au,Z (.int d),Z (.int e.1),Z (.int e.2),P,p,j,m,l,s]) _ 0 _ _ ⟨F,_,_,by lia,λ_ _ _ _ _=>rfl,λc x h=>by lia,by lia,O,O⟩ ?_ ?_ ?_
 ·rintro i u S ⟨f,P,p,_,_,_,_,rfl,_⟩;exact fm (gO f)
 ·rintro i dd hd u S ⟨f,P,p,hi,kp,R,hl,rfl,rfl⟩;rw[fZ,ei,gP1,Option.map_map]at hd;obtain⟨x,A,rfl⟩:=PD hd;have hlt:=(PB A).1;have hxc:=B i x A;rw[bQ]at *
  unfold Function.comp;walk_at"w";unfold iw;refine eU (λu S=>S=o'::(T++dO (fT f (tk3 r i d) (sO e.1 x e.2))::(G++[Ob.lst [],Ob.lst (ei g)]))/\u=[Z (.ref 0),L,Z (.int cp),Z (.ref (T.length+1)),Z (.int r),au,Z (.int d),Z (.int e.1),Z (.int e.2),Z (.int (i:Nat)),Z (.int (x:Nat)),j,m,l,s]) ?_ ?_
  ·walk_at"w";refine v9 (key:=sO r i d) (v:=sO e.1 x e.2) (F:=f) (gd _ _) Hb (by lia) ?_;walk_at"w";exact⟨sd _ _ _,trivial⟩
  rintro u S ⟨rfl,rfl⟩;have pl:=rz (k:=tk3 r i d) (v:=sO e.1 x e.2) (a:=f);have pl2:=rz (k:=tk3 e.1 x e.2) (v:=sO r i d) (a:=fT f (tk3 r i d) (sO e.1 x e.2));walk_at"w";refine v9 (key:=sO e.1 x e.2) (v:=sO r i d) (F:=fT f (tk3 r i d) (sO e.1 x e.2)) (gd _ _) Hb (by lia) ?_;have t:∀a b:Nat,tk3 r a d≠tk3 e.1 b e.2:=λa b z=>by
   obtain⟨H,_,I⟩:=lB z;exact U (by rw[H,I])
  refine⟨_,_,_,by lia,λa k b h h'=>?_,λc y h N=>?_,by lia,sd _ _ _,O⟩
  ·rw[fE,fE,aj,aj]
   ·exact kp a k b h h'
   ·intro z;obtain⟨H,_,I⟩:=lB z;exact h (by rw[H,I])
   ·intro z;obtain⟨H,_,I⟩:=lB z;exact h' (by rw[H,I])
  ·rcases Nat.lt_succ_iff_lt_or_eq.mp h with h|rfl
   ·have nx:y≠x:=fun z=>by
     subst z;have nd:=ao.nodup_iff.mpr dv;obtain⟨l1,g1⟩:=PB N;obtain⟨l2,g2⟩:=PB A;have:=(aI nd).mp (g1.trans g2.symm);lia
    obtain⟨am,K⟩:=R c y h N;refine⟨?_,?_⟩
    ·rw[fE,fE,aj (t c x),aj,am];intro z;have:=(lB z).2.1;lia
    ·rw[fE,fE,aj,aj (Mt (t i y)),K];intro z;exact nx (lB z).2.1
   ·rw[A]at N;cases N;refine⟨?_,?_⟩
    ·rw[fE,fE,aj (t c x),ak O]
    ·rw[fE,ak O]
 ·rintro u S ⟨f,P,p,hi,kp,R,hl,rfl,rfl⟩;rw[fY,eX,bQ]at *
  refine q f _ o' _ _ (ho'.more (by lia)) kp (λk hk=>⟨?_,?_⟩) (by lia)
  ·obtain⟨x,A⟩:∃x,g[k]?=some x:=⟨_,gG1 (by lia)⟩;obtain⟨am,K⟩:=R k x (by lia) A;exact⟨e,x,ha,B k x A,am,K⟩
  ·obtain⟨c,hc⟩:=bq (ao.mem_iff.mpr (aB.mpr hk));have hcl:=(PB hc).1;obtain⟨am,K⟩:=R c k hcl hc;exact⟨(r,d),c,hb,by lia,K,am⟩
noncomputable def yr(a b:Nat×Nat):Bool:=decide (a.1<b.1)||(decide (a.1=b.1)&&decide (a.2<b.2))
theorem Hk{a b:Nat×Nat}:gLt (pD a) (pD b) S=Z (.bl (yr a b),S):=by
 have c:∀(n x y:Nat),hL S (n+1) (.int x) (.int y)=Z (decide (x=y)):=λn x y=>by
  show Z ((x:Int) == (y:Int))=_
  congr 1
  rw[bT,Pq,al];lia
 have d:∀(n x y:Nat),k7 S (n+1) (.int x) (.int y)=Z (decide (x<y)):=λn x y=>by
  show Z (decide ((x:Int)<(y:Int)))=_
  congr 1
  rw[bT,al,al];lia
 unfold gLt eK;rw[show(60:Nat)=58+1+1 from rfl,k7];simp only[pD,J8,eg,NL,vJ,c,d,oS1];unfold yr;by_cases h1:a.1=b.1
 ·by_cases h2:a.2=b.2
  ·simp[h1,h2]
  ·simp[h1,h2]
 ·simp[h1]
theorem DB{a b:Nat×Nat}(h:yr a b=J)(c:b≠a):yr b a=M:=by
 unfold yr at *
 obtain⟨a1,a2⟩:=a;obtain⟨b1,b2⟩:=b;simp at *
 lia
theorem few:∀{N:Nat} {l:List Nat},l.Nodup->(∀x∈l,x<N)->l.length<=N
 |0,l,_,h=>by
  cases l with
  |nil=>simp
  |cons a l=>have:=h a mS1;lia
 |N+1,l,n,h=>by
  by_cases d:N∈l
  ·have h1:=few (N:=N) (l:=l.erase N) (n.erase N) fun x c=>by
    have b:=(List.Nodup.mem_erase_iff n).mp c;have:=h x b.2;have:=b.1;lia
   have:=List.length_erase_of_mem d;lia
  ·have:=few (N:=N) (l:=l) n fun x c=>by
    have h1:=h x c;have:x≠N:=λz=>d (z ▸ c);lia
   lia
theorem K2{A B:Nat}{l:List (Nat×Nat)}(n:l.Nodup)(h:∀x∈l,x.1<A/\x.2<B):l.length<=A*B:=by
 have h1:=few (N:=A*B) (l:=l.map λx=>x.1*B+x.2) ?_ ?_
 ·simpa using h1
 ·rw[dD,dt];refine Pz ?_ n;intro x y b d a e;apply a;have h1:=h x b;have h2:=h y d;have ex:x.1=(x.1*B+x.2)/B:=by rw[Nat.mul_comm,Nat.mul_add_div (by lia),Nat.div_eq_of_lt h1.2,c0]
  have f:y.1=(y.1*B+y.2)/B:=by rw[Nat.mul_comm,Nat.mul_add_div (by lia),Nat.div_eq_of_lt h2.2,c0]
  have c:x.1=y.1:=by rw[ex,f,e]
  rw[c]at e;exact Prod.ext c (by lia)
 ·intro z g;obtain⟨x,b,rfl⟩:=PF g;have h1:=h x b;have:(x.1+1)*B<=A*B:=Nat.mul_le_mul_right B h1.1;rw[Nat.add_mul]at this;lia
theorem yB{α:Type}[BEq α][LawfulBEq α]{l:List α}{x:α}(h:x∈l):∃j,l.findIdx? (· == x)=Z j/\l[j]?=Z x:=by
 cases e:l.findIdx? (· == x)with
 |none=>
  rw[List.findIdx?_eq_none_iff]at e;have:=e x h;simp at this
 |some j=>
  obtain⟨a,h1,_⟩:=b8.mp e;exact⟨j,O,by rw[gG1 a];simp at h1;rw[h1]⟩
theorem Bj{S:d7}{n:Nat}{x:Nat×Nat}:∀a:List (Nat×Nat),B8 (hL S (n+2)) (pD x) (a.map pD)=Z (a.contains x)
 |[]=>rfl
 |y::a=>by
  rw[mP1,B8,oW,Bj a,List.contains_cons,show(y == x)=(x == y)from Bool.beq_comm];rfl
theorem Ek{row:List (Nat×Nat)}{x:Nat×Nat}(h:S[n]?=Z (.lst (row.map pD)))(q:Q (.bl (!row.contains x),S)):W (fX (pD x) (.ref n) S) Q:=by
 refine W.of ?_ q;simp only[fX,h,iJ,mU,gP h,oS1,eK,show(60:Nat)=58+2 from rfl,Bj,oP1]
theorem EQ{m:FE}{lo hi:FO}{r:Ev}{xs:List D}{a b:Option Int}(hm:m r S=Z (.tup xs,S))(d:lo r S=Z (a,S))(c:hi r S=Z (b,S))(q:Q (.tup (Mi.pO xs a b),S)):W (oF m lo hi r S) Q:=by
 refine W.of ?_ q;unfold oF;rw[hm,oS1];dsimp only;rw[d,oS1];dsimp only;rw[c,oS1];simp only[vo,kg,oP1,bF1,NJ]
def Km(w:d8)(cp i j:Nat)(F:List (TK×D)):Prop:=∀r d e,At w r d e->yr (r,d) e=M->(r<i\/(r=i/\d<j)) -> ∀k,k<cp->B5 w cp F r k d/\B5 w cp F e.1 k e.2
inductive AI (w:d8)(cp m n:Nat)(T:d7):Nat->Ev->d7->Prop
 |mk (i:Nat) (F:List (TK×D)) (G:d7) (o':Ob) (x4 x5 x6 x7 x8 x9 x10:Option D) (hi:i<=m) (don:Km w cp i 0 F) (hF:F.length<=32*i) (ho:g9 o' (n+16*i)):AI w cp m n T i [some (.ref 0),some (webD w),some (.int cp),some (.ref (T.length+1)),x4,x5,x6,x7,x8,x9,x10,none,none,none,none] (o'::(T++dO F::G))
inductive AJ (w:d8)(cp n:Nat)(T:d7)(i:Nat)(row:List (Nat×Nat)):Nat->Ev->d7->Prop
 |mk (j:Nat) (F:List (TK×D)) (G:d7) (o':Ob) (x6 x7 x8 x9 x10:Option D) (hj:j<=row.length) (don:Km w cp i j F) (hF:F.length<=32*i+8*j) (ho:g9 o' (n+16*i+4*j)):AJ w cp n T i row j [some (.ref 0),some (webD w),some (.int cp),some (.ref (T.length+1)),some (.int (i:Nat)),some (.tup (row.map pD)),x6,x7,x8,x9,x10,none,none,none,none] (o'::(T++dO F::G))
theorem v6{p:Nat}{w:d8}{Q:Fl×Ev×d7->Prop}(hw:sJ m w)(hm:m<=8)(hc:p<=4)(ho:g9 o n)(hn:n<=2^41)(q:∀F G o' U P K A B C s,g9 o' (n+128)->(∀r d e k,At w r d e->k<p->B5 w p F r k d) ->
   Q (.nx,[Z (.ref 0),Z (webD w),Z (.int p),Z (.ref (T.length+1)),U,P,K,A,B,C,s,Y,Y,Y,Y],o'::(T++dO F::G))):
  W (fz (oR (d5 (mV 1) d6)) (gT 2 (fO (gN 4) (fO (gN 5) jp))) iu [Z (.ref 0),Z (webD w),Z (.int p),Z (.ref (T.length+1)),Y,Y,Y,Y,Y,Y,Y,Y,Y,Y,Y] (o::(T++dO []::[]))) Q:=by
 unfold fz;rw[d9];refine pz (xs:=w.map λg=>.tup (g.map pD)) O ?_;refine e6 (AI w p m n T) _ 0 _ _ (.mk 0 [] [] o _ _ _ _ _ _ _ (bj _) (λr d e h1 h2 ao=>by lia) (by simp) ho) (λ_ _ _ _=>rfl) ?_ ?_
 ·rintro i dd L r S ⟨F,G,o',U,P,K,A,B,C,s,hi,c,au,f⟩;rw[fZ,gP1,Option.map_map]at L;obtain⟨g,l,rfl⟩:=PD L;have H:=(PB l).1;rw[hw.len]at H;have hr4:=hw.le i g l;rw[bQ]at *
  unfold Function.comp;walk_at"w";unfold iu fz;rw[d9];refine pz (xs:=g.map pD) O ?_;refine e6 (AJ w p n T i g) _ 0 _ _ (.mk 0 F G o' _ _ _ _ _ (bj _) c (by lia) (f.more (by lia))) (λ_ _ _ _=>rfl) ?_ ?_
  ·rintro j dd L r S ⟨F,G,o',K,A,B,C,s,hj,c,au,f⟩;rw[fZ,gP1,Option.map_map]at L;obtain⟨e,he,rfl⟩:=PD L;have I:=(PB he).1;have E:At w i j e:=⟨g,l,he⟩;have u:=hw.back i j e E;rw[bQ]at *
   unfold Function.comp pD;walk_at"w";unfold jR;have el:∀S,gLt (D.tup [D.int (i:Int),D.int (j:Int)]) (D.tup [D.int (e.1:Int),D.int (e.2:Int)]) S=Z (.bl (yr (i,j) e),S):=λS=>Hk (a:=(i,j)) (b:=e);unfold fV;rw[d9];refine W.of (x:=(yr (i,j) e,o'::(T++dO F::G))) ?_ ?_
   ·simp only[mB,m2,fw,d5,d6,mV,gC1,dk,dq,oP1,oS1,lC1,bg,b2,el,dm,ak (show 2<=dW by decide)]
   dsimp only;have up:∀F',yr (i,j) e=M->Ep F F' (i,j) e->(∀k,k<p->B5 w p F' i k j/\B5 w p F' e.1 k e.2)->Km w p i (j+1) F':=λF' t kp new r d y h1 h2 ao k v=>by
    by_cases aq:r=i/\d=j
    ·obtain⟨rfl,rfl⟩:=aq;obtain rfl:=j5 E h1;exact new k v
    ·have X:r<i\/(r=i/\d<j):=by lia
     have R:(r,d)≠(i,j):=λz=>by injection z with z1 z2;lia
     have wq:(r,d)≠e:=λz=>by
      rw[<- z]at t;unfold yr at t;simp at t;lia
     have b1:=(hw.back r d y h1).1;have n3:y≠(i,j):=λz=>by
      rw[z]at b1;exact wq (j5 b1 E)
     have n4:y≠e:=λz=>by
      rw[z]at b1;exact R (j5 b1 u.1)
     have:=c r d y h1 h2 X k v;refine⟨this.1.keep kp R wq λe2 h=>?_,this.2.keep kp n3 n4 λe2 h=>?_⟩
     ·rw[<- j5 h1 h];exact⟨n3,n4⟩
     ·rw[<- j5 b1 h];exact⟨R,wq⟩
   have V:yr (i,j) e=J->Km w p i (j+1) F:=λt r d y h1 h2 ao k v=>by
    by_cases aq:r=i/\d=j
    ·obtain⟨rfl,rfl⟩:=aq;obtain rfl:=j5 E h1;rw[t]at h2;cases h2
    ·exact c r d y h1 h2 (by lia) k v
   cases hl:yr (i,j) e with
   |false=>
    rw[aj (by decide)];exact ew.mpr ⟨O,.mk _ F G o' _ _ _ _ _ I (V hl) (by lia) (f.more (by lia))⟩
   |true=>
    rw[ak O];refine Ct (w:=w) f (by lia) hc E u.1 u.2 (by lia) λF' G' o2 x9' x10' h1 h2 ao h4=>?_;exact⟨O,.mk _ F' G' o2 _ _ _ _ _ I (up F' hl h2 ao) (by lia) (h1.more (by lia))⟩
  ·rintro r S ⟨F,G,o',K,A,B,C,s,hj,c,au,f⟩;rw[fY,lM1,bQ]at *
   refine⟨O,.mk _ F G o' _ _ _ _ _ _ _ H (λr d e h1 h2 ao=>c r d e h1 h2 ?_) (by lia) (f.more (by lia))⟩;rcases(show r<i\/r=i by lia)with h|rfl
   ·exact .inl h
   ·obtain⟨row',N,g2⟩:=h1;rw[l]at N;cases N;exact .inr ⟨O,(PB g2).1⟩
 ·rintro r S ⟨F,G,o',U,P,K,A,B,C,s,hi,c,au,f⟩;rw[fY,lM1,bQ,hw.len]at *
  refine q F G o' _ _ _ _ _ _ _ (f.more (by lia)) λr d e k h v=>?_;have am:∀r d e,At w r d e->r<m:=λr d e h=>by
   obtain⟨g,N,_⟩:=h;rw[<- hw.len];exact(PB N).1
  have u:=hw.back r d e h;cases hl:yr (r,d) e with
  |true=>exact(c r d e h hl (.inl (am r d e h)) k v).1
  |false=>exact(c e.1 e.2 (r,d) u.1 (DB hl u.2) (.inl (am _ _ _ u.1)) k v).2
def hh(F:List (TK×D))(x:Nat×Nat)(d:Nat):(Nat×Nat)×Nat:=match ef F (tk3 x.1 x.2 d)with
 |some (.tup [.int a,.int b,.int c])=>((a.toNat,b.toNat),c.toNat)
 |_=>((0,0),0)
noncomputable def nS(w:d8)(r:Nat):Nat:=(w.getD r []).length
def Dg(p:(Nat×Nat)×Nat):D:=sO p.1.1 p.1.2 p.2
structure MI (m cp:Nat)(met:List (Nat×Nat)):Prop where
 nd:met.Nodup
 inn:∀x∈met,x.1<m/\x.2<cp
theorem MI.few{a:Nat}(i:MI m a met)(h:m*a<=8):met.length<=8:=aC (K2 i.nd i.inn) h
def All(w:d8)(cp:Nat)(F:List (TK×D)):Prop:=∀r d e k,At w r d e->k<cp->B5 w cp F r k d
theorem vC{w:d8}{b:Nat}{x:Nat×Nat}(hw:sJ m w)(all:All w b F)(hx:x.1<m/\x.2<b)(hd:d<nS w x.1):
  ef F (tk3 x.1 x.2 d)=Z (Dg (hh F x d))/\((hh F x d).1.1<m/\(hh F x d).1.2<b)/\hh F (hh F x d).1 (hh F x d).2=(x,d)/\(hh F x d).2<nS w (hh F x d).1.1:=by
 obtain⟨row,a⟩:∃row,w[x.1]?=some row:=⟨_,gG1 (by rw[hw.len];exact hx.1)⟩;have c:d<row.length:=by
  unfold nS at hd;rw[bM,a,b9]at hd;exact hd
 obtain⟨e,f,h1,h2,h,i⟩:=all x.1 d row[d] x.2 ⟨row,a,gG1 c⟩ hx.2;have j:hh F x d=((e.1,f),e.2):=by
  unfold hh;rw[h];simp[sO]
 rw[j];have n:hh F (e.1,f) e.2=(x,d):=by
  unfold hh;rw[i];simp[sO]
 refine⟨h,⟨hw.to x.1 d e h1,h2⟩,n,?_⟩;obtain⟨g,l,k⟩:=(hw.back x.1 d e h1).1;unfold nS;rw[bM,l];exact(PB k).1
def Cl(w:d8)(F:List (TK×D))(met:List (Nat×Nat))(i j:Nat):Prop:=∀a d x,met[a]?=Z x->d<nS w x.1->(a<i\/(a=i/\d<j))->(hh F x d).1∈met
def Jn(w:d8)(F:List (TK×D))(met:List (Nat×Nat)):Prop:=∀b y,1<=b->met[b]?=Z y -> ∃a d x,a<b/\met[a]?=Z x/\d<nS w x.1/\(hh F x d).1=y
theorem Jn.snoc{w:d8}{a:Nat}{x:Nat×Nat}(j:Jn w F met)(ha:met[a]?=Z x)(hd:d<nS w x.1):Jn w F (met++[(hh F x d).1]):=by
 have c:=(PB ha).1;intro b y l f;by_cases g:b<met.length
 ·rw[gL1 g]at f;obtain⟨k,n,p,o,m,h,i⟩:=j b y l f;exact⟨k,n,p,o,by rw[gL1 (by lia)];exact m,h,i⟩
 ·have:=(PB f).1;rw[lA1,a0]at this;have e:b=met.length:=by lia
  subst e;rw[dy]at f;cases f;exact⟨a,d,x,c,by rw[gL1 c];exact ha,hd,O⟩
theorem Jl{x:Nat×Nat}(h:S[n]?=Z (dO F))(a:ef F (tk3 x.1 x.2 d)=Z (Dg (hh F x d))):ez (.ref n) (sO x.1 x.2 d) S=Z (Dg (hh F x d),S):=by
 obtain⟨p,e,rfl⟩:=HF (Q:=λp=>p=(Dg (hh F x d),S)) h Hb a O;exact e
theorem Ld{f:FN}{a b:FE}{r:Ev}(h:W (a r S) λp=>W (b r p.2) λq=>W (f [p.1,q.1] q.2) Q):W (m2 f a b r S) Q:=by
 unfold m2;rw[d9];exact h.mono λp c=>by rw[d9];exact c
theorem K5{p:(Nat×Nat)×Nat}:D.tup (Mi.pO [.int p.1.1,.int p.1.2,.int p.2] Y (Z 2))=pD p.1:=rfl
theorem IT{V:d7}{v:Nat}{w:d8}{x4 ao x6 am K x9 t u A:Option D}{Q:Fl×Ev×d7->Prop}(hw:sJ m w)(hm0:0<m)(hc0:0<v)(h8:m*v<=8)(all:All w v F)(hV:V[n]? = some (dO F))(q:∀met T H U y12,MI m v met->0<met.length->Cl w F met met.length 0->Jn w F met->Q (.nx,[some (.ref 0),some (webD w),some (.int v),some (.ref (n+1)),T,ao,H,am,K,U,t,some (.ref (V.length+1)),y12,u,A],o::(V++[.lst (met.map pD)]))):
  W (sX iq ip 100000 [Z (.ref 0),Z (webD w),Z (.int v),Z (.ref (n+1)),x4,ao,x6,am,K,x9,t,Z (.ref (V.length+1)),Z (.int ((0:Nat):Int)),u,A] (o::(V++[.lst ([(0,0)].map pD)]))) Q:=by
 have au:∀(X:Ob),(o::(V++[X]))[V.length+1]?=Z X:=λX=>by rw[gC1,ee];rfl
 have gs:∀(aq:d7),(o::(V++aq))[n+1]?=Z (dO F):=λaq=>by rw[gC1,gL1 (PB hV).1];exact hV
 refine sV (λk r S=>∃met T H U,MI m v met/\k<=met.length/\0<met.length/\Cl w F met k 0/\Jn w F met/\S=o::(V++[.lst (met.map pD)])/\r=[Z (.ref 0),Z (webD w),Z (.int v),Z (.ref (n+1)),T,ao,H,am,K,U,t,Z (.ref (V.length+1)),Z (.int (k:Nat)),u,A]) 8 ?_ 100000 0 _ _ (by lia) ⟨[(0,0)],_,_,_,⟨by simp,λx N=>by simp at N;subst N;exact⟨hm0,hc0⟩⟩,by lia,by simp,λa d x _ _ h=>by lia,λb y h1 h2=>by have:=(PB h2).1;simp at this;lia,O,O⟩;rintro k r S ⟨met,T,H,U,wq,hk,hp,cl,jn,rfl,rfl⟩;have hf:=wq.few h8;unfold iq;walk_at"w";refine eE (au _) ?_;walk_at"w";rw[lM1];by_cases hlt:k<met.length
 ·rw[ak (by rw[al];lia)];refine⟨by lia,?_⟩;obtain⟨x,N⟩:∃x,met[k]?=some x:=⟨_,gG1 hlt⟩;have R:=wq.inn x (gM1 N);obtain⟨row,E⟩:∃row,w[x.1]?=some row:=⟨_,gG1 (by rw[hw.len];exact R.1)⟩;have B:nS w x.1=row.length:=by unfold nS;rw[bM,E];rfl
  have hr4:=hw.le _ row E;unfold ip;refine eU (λr S=>S=o::(V++[.lst (met.map pD)])/\r=[Z (.ref 0),Z (webD w),Z (.int v),Z (.ref (n+1)),Z (.int (x.1:Nat)),ao,H,am,K,Z (.int (x.2:Nat)),t,Z (.ref (V.length+1)),Z (.int (k:Nat)),u,A]) ?_ ?_
  ·walk_at"w";refine nv (i:=k) (xs:=met.map pD) (x:=pD x) (au _) (by rw[gP1,N];rfl) ?_;rw[pD];walk_at"w"
  rintro r S ⟨rfl,rfl⟩;refine eU (λr S=>∃c H,c[k]?=Z x/\MI m v c/\Cl w F c k row.length/\Jn w F c/\S=o::(V++[.lst (c.map pD)])/\r=[Z (.ref 0),Z (webD w),Z (.int v),Z (.ref (n+1)),Z (.int (x.1:Nat)),ao,H,am,K,Z (.int (x.2:Nat)),t,Z (.ref (V.length+1)),Z (.int (k:Nat)),u,A]) ?_ ?_
  ·walk_at"w";unfold webD;refine ka (i:=x.1) (x:=.tup (row.map pD)) (by rw[gP1,E];rfl) ?_;walk_at"w";rw[lM1];refine⟨eV (by lia),?_⟩;rw[jl,NH];refine e6 (λj r S=>∃c H,j<=row.length/\c[k]?=Z x/\MI m v c/\Cl w F c k j/\Jn w F c/\S=o::(V++[.lst (c.map pD)])/\r=[Z (.ref 0),Z (webD w),Z (.int v),Z (.ref (n+1)),Z (.int (x.1:Nat)),ao,H,am,K,Z (.int (x.2:Nat)),t,Z (.ref (V.length+1)),Z (.int (k:Nat)),u,A]) _ 0 _ _ ⟨met,_,by lia,N,wq,cl,jn,O,O⟩ (λ_ _ _ _=>rfl) ?_ ?_
   ·rintro j dd hd r S ⟨c,z6,hj,f,g,C,s,rfl,rfl⟩;have I:=(PB hd).1;rw[lM1,dB]at I;rw[gP1,dA I]at hd;cases hd;rw[bQ]at *
    have hf':=g.few h8;obtain⟨n1,⟨n2,n3⟩,_⟩:=vC hw all R (d:=j) (by rw[B];exact I);have sl:∀(r:Ev) (S:d7) (P:D×d7->Prop),S[n+1]?=Z (dO F)->r[3]?=Z (Z (.ref (n+1)))->r[4]?=Z (Z (.int (x.1:Nat)))->r[9]?=Z (Z (.int (x.2:Nat)))->r[6]?=Z (Z (.int (j:Nat)))->P (pD (hh F x j).1,S)->W (oF (m2 (b2 ez) (mV 3) (fw (d5 (mV 4) (d5 (mV 9) (d5 (mV 6) d6))))) kM (ni (mC (D.int (2)))) r S) P:=by
     intro r S P hS h3 h4 h9 h6 p;refine EQ (xs:=[.int (hh F x j).1.1,.int (hh F x j).1.2,.int (hh F x j).2]) (a:=Y) (b:=Z 2) ?_ O O p;have:=Jl hS n1;simp only[m2,fw,d5,d6,mV,h3,h4,h9,h6,dq,oP1,oS1,lC1,bg,b2,dm,ak (show 3<=dW by decide)];exact this
    walk_at"w";unfold jQ fV mB;rw[d9,d9];refine Ld ?_;refine sl _ _ _ (gs _) O O O O ?_;walk_at"w";refine Ek (au _) ?_;walk_at"w";have step:∀l:List (Nat×Nat),(∀a,a<=k->l[a]?=c[a]?)->(∀z∈c,z∈l)->(hh F x j).1∈l->Cl w F l k (j+1):=λl hg hs hm a d y h1 h2 h3=>by
     rw[hg a (by lia)]at h1;by_cases hz:a=k/\d=j
     ·obtain⟨rfl,rfl⟩:=hz;rw[f]at h1;cases h1;exact hm
     ·exact hs _ (C a d y h1 h2 (by lia))
    have hkl:=(PB f).1;by_cases G:(hh F x j).1∈c
    ·rw[aj (by simpa using G)];exact⟨c,_,by lia,f,g,step c (λ_ _=>rfl) (λ_ h=>h) G,s,O,O⟩
    ·rw[ak (by simpa using G)];refine iL ?_;walk_at"w";refine⟨V.length+1,c.map pD,O,au _,?_⟩;refine sl _ _ _ (gs _) O O O O ?_;walk_at"w";refine(kY (au _)).mpr ⟨ed (by rw[lM1];lia),?_⟩;refine⟨c++[(hh F x j).1],_,by lia,by rw[gL1 hkl];exact f,⟨?_,?_⟩,step _ (λa ha=>gL1 (by lia)) (λz h=>aH _ h) (by simp),s.snoc f (by rw[B];exact I),?_,O⟩
     ·refine bB.mpr ⟨g.nd,by simp,λa ha b hb e=>?_⟩;rw[cA]at hb;exact G (by rw[<- hb,<- e];exact ha)
     ·intro y L;rcases aG.mp L with L|L
      ·exact g.inn y L
      ·rw[cA]at L;subst L;exact⟨n2,n3⟩
     ·rw[c8,cY _ _ (nR1 _),cZ,cx];rfl
   ·rintro r S ⟨c,z6,hj,f,g,C,s,rfl,rfl⟩;rw[lM1,dB,bQ]at *
    exact⟨O,c,_,f,g,C,s,O,O⟩
  rintro r S ⟨c,z6,f,g,C,s,rfl,rfl⟩;have hlt':=(PB f).1;walk_at"w";refine⟨c,_,_,_,g,by lia,by lia,λa d y h1 h2 h3=>C a d y h1 h2 ?_,s,O,by push_cast;rfl⟩;rcases(show a<k\/a=k by lia)with h|rfl
  ·exact .inl h
  ·rw[f]at h1;cases h1;exact .inr ⟨O,by rw[<- B];exact h2⟩
 ·rw[aj (by rw[al];lia)];have e:k=met.length:=by lia
  subst e;exact q met _ _ _ _ wq hp cl jn
noncomputable def idx(met:List (Nat×Nat))(y:Nat×Nat):Nat:=(met.findIdx? (· == y)).getD 0
def tw(w:d8)(F:List (TK×D))(met:List (Nat×Nat))(x:Nat×Nat):List (Nat×Nat):=(af (nS w x.1)).map λd=>(idx met (hh F x d).1,(hh F x d).2)
def u7(w:d8)(F:List (TK×D))(met:List (Nat×Nat)):d8:=met.map (tw w F met)
theorem oQ{y:Nat×Nat}(h:y∈met):met.findIdx? (· == y)=Z (idx met y)/\met[idx met y]?=Z y:=by
 obtain⟨j,h1,h2⟩:=yB h;unfold idx;rw[h1];exact⟨O,h2⟩
theorem sG{w:d8}:At (u7 w F met) r d e ↔ ∃x,met[r]?=Z x/\d<nS w x.1/\e=(idx met (hh F x d).1,(hh F x d).2):=by
 unfold At u7;rw[gP1];constructor
 ·rintro⟨c,h1,h2⟩;obtain⟨x,f,rfl⟩:=PD h1;unfold tw at h2;rw[gP1]at h2;obtain⟨g,a,rfl⟩:=PD h2;have b:=(PB a).1;rw[dB]at b;rw[dA b]at a;cases a;exact⟨x,f,b,O⟩
 ·rintro⟨x,h1,h2,rfl⟩;refine⟨tw w F met x,by rw[h1];rfl,?_⟩;unfold tw;rw[gP1,dA h2];rfl
theorem Hq{w:d8}(hw:sJ m w)(r:Nat):nS w r<=4:=by
 unfold nS;rw[bM];cases h:w[r]? with
 |none=>simp
 |some a=>exact hw.le r a h
theorem zf{l:Nat}{w:d8}(hw:sJ m w)(all:All w l F)(C:MI m l met)(nd:met.Nodup)(k:Cl w F met met.length 0)(q:Jn w F met):sI met.length (u7 w F met):=by
 refine⟨⟨by unfold u7;rw[lM1],λi B h=>?_,λr d e h=>?_,λj h1 h2=>?_⟩,λr d e h=>?_⟩
 ·unfold u7 at h;rw[gP1]at h;obtain⟨x,_,rfl⟩:=PD h;unfold tw;rw[lM1,dB];exact Hq hw _
 ·obtain⟨x,h1,h2,rfl⟩:=sG.mp h;have:=(oQ (k r d x h1 h2 (.inl (PB h1).1))).2;exact(PB this).1
 ·obtain⟨y,c⟩:∃y,met[j]?=some y:=⟨_,gG1 h2⟩;obtain⟨a,d,x,v,n,p,z⟩:=q j y h1 c;refine⟨a,d,_,v,sG.mpr ⟨x,n,p,O⟩,?_⟩;dsimp only;rw[z];have g:=(oQ (gM1 c)).2;obtain⟨A,f⟩:=PB g;obtain⟨o,b⟩:=PB c;exact(aI nd).mp (by rw[f,b])
 ·obtain⟨x,h1,h2,rfl⟩:=sG.mp h;have E:=C.inn x (gM1 h1);obtain⟨_,_,s,t⟩:=vC hw all E h2;have u:=(oQ (k r d x h1 h2 (.inl (PB h1).1))).2;refine sG.mpr ⟨_,u,t,?_⟩;rw[s];dsimp only;have g:=(oQ (gM1 h1)).2;obtain⟨A,f⟩:=PB g;obtain⟨o,b⟩:=PB h1;rw[(aI nd).mp (f.trans b.symm)]
theorem wO{a b X:Ob}{V G:d7}:(o::(V++a::b::(G++[X])))[V.length+(G.length+2)+1]?=Z X:=by
 rw[gC1,fJ,gC1,gC1,ee];rfl
inductive CI (w:d8)(cp n:Nat)(T:d7):Ev->d7->Prop
 |mk (F:List (TK×D)) (G:d7) (o':Ob) (x4 x5 x6 x7 x8 x9 x10:Option D) (ho:g9 o' (n+128)) (all:All w cp F):CI w cp n T [some (.ref 0),some (webD w),some (.int cp),some (.ref (T.length+1)),x4,x5,x6,x7,x8,x9,x10,none,none,none,none] (o'::(T++dO F::G))
inductive CJ (w:d8)(m cp:Nat)(T V:d7)(F:List (TK×D))(o':Ob)(x5 x7 x8 x10:Option D):Ev->d7->Prop
 |mk (met:List (Nat×Nat)) (y4 y6 y9 y12:Option D) (mi:MI m cp met) (hp:0<met.length) (cl:Cl w F met met.length 0) (jn:Jn w F met):CJ w m cp T V F o' x5 x7 x8 x10 [some (.ref 0),some (webD w),some (.int cp),some (.ref (T.length+1)),y4,x5,y6,x7,x8,y9,x10,some (.ref (V.length+1)),y12,none,none] (o'::(V++[.lst (met.map pD)]))
theorem Ed{g:Nat}{w:d8}(hw:sJ m w)(au:0<m)(H:0<g)(hc:g<=4)(h8:m*g<=8)(ho:g9 o n)(hn:n<=2^40)(hT:T.all (Ob.und (T.length+1))=M)(q:∀N cw rs o',0<N->N<=8->sI N cw->rs.length=N->g9 o' (n+128)->Q (.tup [webD cw,.tup (ei rs)],o'::T)):W (ea 3 gG [.ref 0,webD w,.int g] (o::T)) Q:=by
 have U:m<=8:=aC (Nat.le_mul_of_pos_right m H) h8;refine xA O O hT ?_;unfold gG;refine lh ?_;unfold mD;refine eU (λr S=>S=o::(T++dO []::[])/\r=[Z (.ref 0),Z (webD w),Z (.int g),Z (.ref (T.length+1)),Y,Y,Y,Y,Y,Y,Y,Y,Y,Y,Y]) ?_ ?_
 ·have d0:dO [] = .dct []:=ak O;rw[d0]
  wp_walk using l8
 rintro r S ⟨rfl,rfl⟩;refine eU (CI w g n T) ?_ ?_
 ·exact v6 hw U hc ho (by lia) λF G o' x4 s x6 l p x9 c h1 h2=>⟨O,.mk F G o' _ _ _ _ _ _ _ h1 h2⟩
 rintro r S ⟨F,G,o',x4,s,x6,l,p,x9,c,I,all⟩;generalize hV:T++dO F::G=V;have t:V[T.length]?=Z (dO F):=by rw[<- hV,ee];rfl
 refine eU (λr S=>S=o'::(V++[.lst ([(0,0)].map pD)])/\r=[Z (.ref 0),Z (webD w),Z (.int g),Z (.ref (T.length+1)),x4,s,x6,l,p,x9,c,Z (.ref (V.length+1)),Z (.int ((0:Nat):Int)),Y,Y]) ?_ ?_
 ·walk_at"w";exact⟨O,O⟩
 rintro r S ⟨rfl,rfl⟩;refine eU (CJ w m g T V F o' s l p c) ?_ ?_
 ·exact IT hw au H h8 all t λmet z K B h h1 h2 h3 h4=>⟨O,.mk met _ _ _ _ h1 h2 h3 h4⟩
 rintro r S ⟨met,z,K,B,h,ao,hp,cl,jn⟩;have hf:=ao.few h8;refine eU (λr S=>S=o'::(V ++ .lst (met.map pD) :: .lst []::[])/\r=[Z (.ref 0),Z (webD w),Z (.int g),Z (.ref (T.length+1)),z,s,K,l,p,B,c,Z (.ref (V.length+1)),h,Z (.ref (V.length+2)),Y]) ?_ ?_
 ·walk_at"w"
 rintro r S ⟨rfl,rfl⟩;have A:∀(X:Ob) (aq:d7),(o'::(V++X::aq))[V.length+1]?=Z X:=λX aq=>by rw[gC1,ee];rfl
 have gf:∀(X wq:Ob) (aq:d7),(o'::(V++X::wq::aq))[V.length+2]?=Z wq:=λX wq aq=>by rw[gC1,fJ];rfl
 have gs:∀(aq:d7),(o'::(V++aq))[T.length+1]?=Z (dO F):=λaq=>by rw[gC1,gL1 (PB t).1];exact t
 let rD:List (Nat×Nat)->D:=λrow=>.tup (row.map pD)
 refine eU (λr S=>∃G2 z B u,S=o'::(V ++ .lst (met.map pD) :: .lst ((u7 w F met).map rD)::G2)/\r=[Z (.ref 0),Z (webD w),Z (.int g),Z (.ref (T.length+1)),z,s,K,l,p,B,c,Z (.ref (V.length+1)),h,Z (.ref (V.length+2)),u]) ?_ ?_
 ·walk_at"w";refine eE (A _ _) ?_;refine e6 (λi r S=>∃G2 z B u,i<=met.length/\S=o'::(V ++ .lst (met.map pD) :: .lst (((u7 w F met).take i).map rD)::G2)/\r=[Z (.ref 0),Z (webD w),Z (.int g),Z (.ref (T.length+1)),z,s,K,l,p,B,c,Z (.ref (V.length+1)),h,Z (.ref (V.length+2)),u]) _ 0 _ _ ⟨[],_,_,_,by lia,O,O⟩ ?_ ?_ ?_
  ·rintro i r S ⟨G2,_,_,_,_,rfl,_⟩;exact fm (A _ _)
  ·rintro i dd v r S ⟨G2,z4,z9,E,hi,rfl,rfl⟩;dsimp only at v;rw[gP1]at v;obtain⟨x,L,rfl⟩:=PD v;have R:=(PB L).1;have am:=ao.inn x (gM1 L);obtain⟨row,k⟩:∃row,w[x.1]?=some row:=⟨_,gG1 (by rw[hw.len];exact am.1)⟩;have C:nS w x.1=row.length:=by unfold nS;rw[bM,k];rfl
   have hr4:=hw.le _ row k;rw[bQ]at *
   rw[pD];walk_at"w";unfold jP;refine eU (λr S=>S=o'::(V ++ .lst (met.map pD) :: .lst (((u7 w F met).take i).map rD)::(G2++[.lst ((af (nS w x.1)).map λd=>Dg (hh F x d))]))/\r=[Z (.ref 0),Z (webD w),Z (.int g),Z (.ref (T.length+1)),Z (.int (x.1:Nat)),s,K,l,p,Z (.int (x.2:Nat)),c,Z (.ref (V.length+1)),h,Z (.ref (V.length+2)),Z (.ref (V.length+(G2.length+2)+1))]) ?_ ?_
   ·walk_at"w";rw[show webD w = .tup (w.map λrow=>.tup (row.map pD))from rfl];refine ka (i:=x.1) (x:=.tup (row.map pD)) (by rw[gP1,k];rfl) ?_;walk_at"w";rw[lM1];refine⟨eV (by lia),?_⟩;rw[jl,NH,<- C];refine jr (f:=λj:Nat=>D.int j) (λd=>Dg (hh F x d)) (λr=>∃y,r=[y,Z (.ref (T.length+1)),Z (.int (x.1:Nat)),Z (.int (x.2:Nat))]) O (af (nS w x.1)) _ ⟨_,O⟩ ?_ ?_
    ·rintro d v r ⟨y,rfl⟩;have n1:=(vC hw all am (aB.mp v)).1;walk_at"w";refine W.of (Jl (gs _) n1) ⟨O,O,_,O⟩
    ·rintro r' _;refine⟨ed (by rw[lM1,dB];lia),?_⟩;walk_at"w"
   rintro r S ⟨rfl,rfl⟩;walk_at"w";refine iL ?_;walk_at"w";refine⟨V.length+2,_,O,gf _ _ _,?_⟩;refine eE wO ?_;refine jr (f:=λd=>Dg (hh F x d)) (λd=>pD (idx met (hh F x d).1,(hh F x d).2)) (λr=>∃y,r=[y,Z (.ref (V.length+1))]) (fm wO) (af (nS w x.1)) _ ⟨_,O⟩ ?_ ?_
   ·rintro d v r ⟨y,rfl⟩;have P:=cl i d x L (aB.mp v) (.inl R);walk_at"w";refine iL ?_;walk_at"w";refine⟨V.length+1,_,O,A _ _,?_⟩;refine EQ (xs:=[.int (hh F x d).1.1,.int (hh F x d).1.2,.int (hh F x d).2]) (a:=Y) (b:=Z 2) O O O ?_;rw[K5];walk_at"w";refine HE (e:=(hh F x d).1) (A _ _) (by lia) (oQ P).1 ?_;refine ka (i:=2) (xs:=[.int (hh F x d).1.1,.int (hh F x d).1.2,.int (hh F x d).2]) (x:=.int (hh F x d).2) O ?_;walk_at"w";exact⟨O,_,O⟩
   ·rintro r' _;refine⟨ed (by rw[lM1,dB];lia),?_⟩;walk_at"w";refine eE (xs:=(af (nS w x.1)).map λd=>pD (idx met (hh F x d).1,(hh F x d).2)) ?_ ?_
    ·rw[show∀(a b:Ob),G2++[a,b]=(G2++[a])++[b]from λa b=>by simp];have:=wO (o:=o') (a:=.lst (met.map pD)) (b:=.lst (((u7 w F met).take i).map rD)) (V:=V) (G:=G2++[.lst ((af (nS w x.1)).map λd=>Dg (hh F x d))]) (X:=.lst ((af (nS w x.1)).map λd=>pD (idx met (hh F x d).1,(hh F x d).2)));rw[<- this]
     congr 1
     simp
     try lia
    refine(kY (gf _ _ _)).mpr ⟨ed (by rw[lM1,aT];lia),?_⟩;refine⟨G2++[.lst ((af (nS w x.1)).map λd=>Dg (hh F x d)),.lst ((af (nS w x.1)).map λd=>pD (idx met (hh F x d).1,(hh F x d).2))],_,_,_,by lia,?_,O⟩
    ·rw[c8,cY _ _ (by lia),show V.length+1-V.length=1 by lia,cv];rw[show(u7 w F met)[i]?=Z (tw w F met x) by unfold u7;rw[gP1,L];rfl];rw[Option.toList_some,cx];rw[show[tw w F met x].map rD=[.tup ((af (nS w x.1)).map λd=>pD (idx met (hh F x d).1,(hh F x d).2))] by simp[rD,tw,Function.comp_def]];rfl
  ·rintro r S ⟨G2,z4,z9,E,hi,rfl,rfl⟩;rw[lM1,bQ,cQ (by unfold u7;rw[lM1];exact nR1 _)];exact⟨O,G2,_,_,_,O,O⟩
 rintro r S ⟨G2,z4,z9,E,rfl,rfl⟩;have hcl:(u7 w F met).length=met.length:=by unfold u7;rw[lM1]
 walk_at"w";refine eE (gf _ _ _) ?_;refine eE (A _ _) ?_;refine jr (f:=pD) (λx:Nat×Nat=>D.int (x.1:Nat)) (λr=>∃y0 y1,r=[y0,y1]) (fm (A _ _)) met _ ⟨_,_,O⟩ ?_ ?_
 ·rintro x L r ⟨y0,y1,rfl⟩;rw[pD];walk_at"w";exact⟨_,_,O⟩
 ·rintro r' _;refine⟨ed (by rw[lM1];lia),?_⟩;walk_at"w";refine eE (xs:=met.map λx:Nat×Nat=>D.int (x.1:Nat)) wO ?_;walk_at"w";have e:met.map (λx:Nat×Nat=>D.int (x.1:Nat))=ei (met.map (·.1)):=by rw[ei,bv];rfl
  rw[e];refine⟨.tup [webD (u7 w F met),.tup (ei (met.map (·.1)))],o',(dO F::G)++(.lst (met.map pD) :: .lst ((u7 w F met).map rD)::(G2++[.lst (ei (met.map (·.1)))])),?_,?_,I.und,q met.length _ _ o' hp hf (zf hw all ao ao.nd cl jn) (by rw[lM1]) I⟩
  ·rw[<- hV,bJ];rfl
  ·rw[D.und,D.unds,eP,D.unds,D.unds,D.und,fv];rfl
theorem JM{m:FA}{r:Ev}{S1:d7}{k:Nat}(h:m r S=Z ([.int k],S1))(hk:k<=1000)(q:Q (.tup (ei (af k)),S1)):W (Dw m r S) Q:=by
 refine W.of ?_ q;unfold Dw;rw[h,oS1];dsimp only;have:m8 0 (k:Int)=M:=by
  unfold m8;simp only[bA1,al];lia
 rw[ak this,NH,jl];rfl
theorem K3{a:Nat}(h1:1<=a)(b:a<=4):ss (.int 8) (.int a) S=Z (.int ((8/a:Nat):Int),S):=by
 match a,h1,b with
 |1,_,_=>rfl
 |2,_,_=>rfl
 |3,_,_=>rfl
 |4,_,_=>rfl
theorem gH{w:d8}:eQ (webD w) S=Z (.int w.length,S):=by
 unfold webD;rw[wW,lM1]
theorem LZ(h:d<6):∃a:Nat,([.int 1,.int 1,.int 2,.int 2,.int 3,.int 4]:List D)[d]?=Z (.int a)/\1<=a/\a<=4:=by
 match d,h with
 |0,_=>exact⟨1,O,by decide,by decide⟩
 |1,_=>exact⟨1,O,by decide,by decide⟩
 |2,_=>exact⟨2,O,by decide,by decide⟩
 |3,_=>exact⟨2,O,by decide,by decide⟩
 |4,_=>exact⟨3,O,by decide,by decide⟩
 |5,_=>exact⟨4,O,by decide,by decide⟩
theorem KP{a:Nat}(h:m<=8/a):m*a<=8:=aC (Nat.mul_le_mul_right a h) (Nat.div_mul_le_self 8 a)
theorem HV(ho:g9 o n)(hn:n<=2^39)(F:T.all (Ob.und (T.length+1))=M)(q:∀m w rs o',0<m->m<=8->sI m w->rs.length=m->g9 o' (n+300)->Q (.tup [webD w,.tup (ei rs)],o'::T)):W (ea 1 iA [.ref 0] (o::T)) Q:=by
 refine xA O O F ?_;unfold iA;refine lh ?_;unfold px;generalize v:T++[Ob.lst [.int 1,.int 1,.int 2,.int 2,.int 3,.int 4]]=X;have p:X.all (Ob.und (X.length+1))=M:=by rw[<- v];exact K8 F O
 refine eU (λr S=>∃(cp:Nat) (s:Ob),1<=cp/\cp<=4/\g9 s (n+1)/\S=s::X/\r=[Z (.ref 0),Z (.int cp),Y]) ?_ ?_
 ·walk_at"w";refine jy ho (by lia) (by lia) (by lia) λd s f ao=>?_;obtain⟨cp,h1,h2,I⟩:=LZ (d:=d) (by lia);walk_at"w";refine nv (i:=d) (xs:=[.int 1,.int 1,.int 2,.int 2,.int 3,.int 4]) (x:=.int cp) (by rw[gC1,ee];rfl) h1 ?_;exact⟨cp,s,h2,I,f,by rw[v],O⟩
 rintro r S ⟨cp,s,h1,G,f,rfl,rfl⟩;refine eU (λr S=>∃(m:Nat) (w:d8) (b:Ob),0<m/\m<=8/cp/\sJ m w/\g9 b (n+101)/\S=b::X/\r=[Z (.ref 0),Z (.int cp),Z (webD w)]) ?_ ?_
 ·wp_walk using K3 h1 G
  have am:1<=8/cp:=Nat.div_pos (by lia) (by lia);refine CY f (by lia) p am (Nat.div_le_self 8 cp) λm w b c y g a=>?_;exact⟨m,w,b,c,y,g,a.more (by lia),O,O⟩
 rintro r S ⟨m,w,b,c,y,g,a,rfl,rfl⟩;have B:m<=8:=aC y (Nat.div_le_self 8 cp);have K:((cp:Int) == 1)=decide (cp=1):=by
  rw[bT,Pq,al];lia
 unfold et fV;rw[d9];have j:mB (m2 (b2 gEq) (mV 1) (mC (D.int (1)))) [Z (.ref 0),Z (.int cp),Z (webD w)] (b::X)=Z (decide (cp=1),b::X):=by
  rw[<- K];rfl
 rw[d9];refine W.of j ?_;dsimp only;by_cases t:cp=1
 ·rw[ah t,ak O];simp(implicitDefEqProofs:=J) only[eW,mN,d5,mV,d6,oS1,d9,ew,BZ,gC1,dk,lC1,bg,dm,LC,LA,true_and];refine JM (k:=m) (S1:=b::X) ?_ (by lia) ?_
  ·simp only[d5,d6,mN,mV,b1,gC1,dk,dq,oP1,oS1,gH,g.len]
  walk_at"w";refine⟨.tup [webD w,.tup (ei (af m))],b,[Ob.lst [.int 1,.int 1,.int 2,.int 2,.int 3,.int 4]],by rw[v],?_,a.und,q m w _ b c B ⟨g.toWebJ,λr d e h=>(g.back r d e h).1⟩ dB (a.more (by lia))⟩;rw[D.und,D.unds,eP,D.unds,D.unds,D.und,fv];rfl
 ·rw[ai t,aj (by decide)];walk_at"w";refine Ed g c (by lia) G (KP y) a (by lia) p λL E rs H l C z A u=>?_;refine⟨.tup [webD E,.tup (ei rs)],H,[Ob.lst [.int 1,.int 1,.int 2,.int 2,.int 3,.int 4]],by rw[v],?_,u.und,q L E rs H l C z A (u.more (by lia))⟩;rw[D.und,D.unds,eP,D.unds,D.unds,D.und,fv];rfl
structure fS (m:Nat)(w:d8):Prop where
 len:w.length=m
 le:∀(i:Nat) (row:List (Nat×Nat)),w[i]?=some row->row.length<=4
 to:∀(r d:Nat) (e:Nat×Nat),At w r d e->e.1<m
 rc:∀P:Nat->Prop,P 0->(∀a d e,At w a d e->P a->P e.1) -> ∀j,j<m->P j
theorem WebJ.toK{w:d8}(h:WebJ m w):fS m w:=⟨h.len,h.le,h.to,λP f g j=>by
 induction j using Nat.strongRecOn with
 |ind j ih=>
  intro c;by_cases z:j=0
  ·rw[z];exact f
  ·obtain⟨a,d,e,h1,h2,b⟩:=h.jn j (by lia) c;rw[<- b];exact g a d e h2 (ih a h1 (by lia))⟩
open Classical in
def tf(P:Prop):Bool:=decide P
theorem rf{P:Prop}:tf P=M↔P:=by unfold tf;exact @decide_eq_true_iff P (Classical.propDecidable P)
theorem xV{P:Prop}(h:P):tf P=M:=rf.mpr h
theorem vi{P:Prop}{b:Bool}(h:b=M↔P):b=tf P:=by rw[bT,rf];exact h
theorem re{P:Prop}(h:¬ P):tf P=J:=(vi ⟨λz=>(by cases z),λz=>(h z).elim⟩).symm
theorem HX{P Q:Prop}(h:P↔Q):tf P=tf Q:=vi (rf.trans h)
theorem sx:∀(ns acc:List Int),acc.Nodup->((ns.foldl OP acc).length<=acc.length+ns.length/\((ns.foldl OP acc).length=acc.length+ns.length↔(acc++ns).Nodup))
 |[],acc,h=>by simp[h]
 |n::ns,acc,h=>by
  rw[ca];by_cases c:n∈acc
  ·have e:OP acc n=acc:=by
    unfold OP;rw[ak (bU.mpr ⟨n,c,by simp⟩)]
   rw[e];obtain⟨h1,h2⟩:=sx ns acc h;rw[lC1];refine⟨by lia,⟨λz=>by lia,λz=>?_⟩⟩;rw[bB]at z;exact(z.2.2 n c n mS1 O).elim
  ·have e:OP acc n=acc++[n]:=by
    unfold OP;rw[aj (by rw[bU];rintro⟨x,i,d⟩;exact c (by rw[<- Pq.mp d];exact i))]
   rw[e];have hnd:(acc++[n]).Nodup:=by
    rw[bB];exact⟨h,by simp,λa g b f z=>by rw[cA]at f;subst f;subst z;exact c g⟩
   obtain⟨h1,h2⟩:=sx ns (acc++[n]) hnd;rw[lA1,a0,bJ,List.singleton_append]at *
   rw[lC1];refine⟨by lia,?_⟩;rw[<- h2];constructor<;>intro z<;>lia
theorem sZ:(rs.map λ(r:Nat)=>(r:Int)).Nodup↔rs.Nodup:=by
 unfold List.Nodup;rw[dt];exact⟨λh=>h.imp λz e=>z (by rw[e]),λh=>h.imp λz e=>z (by lia)⟩
theorem zj(a:rs.length<=100)(q:Q (.bl (tf rs.Nodup),S)):W (ea 1 gD [.tup (ei rs)] S) Q:=by
 refine g0 O (by rw[D.unds,D.und,fv];rfl) ?_;unfold gD;refine lh ?_;unfold ms;have e:ij (.tup (ei rs)) []=Z (.ref 0,[.iset (ddI (rs.map λ(r:Nat)=>(r:Int)))]):=by
  unfold ij;rw[kg];dsimp only;rw[w6,oS1,ak (by rw[lM1];unfold OQ;lia)];rfl
 wp_walk using e
 refine B0 O ?_;walk_at"w";refine⟨O,?_⟩;have:((((ddI (rs.map λ(r:Nat)=>(r:Int))).length:Nat):Int) == (((ei rs).length:Nat):Int))=tf rs.Nodup:=vi (by
  have:=(sx (rs.map λ(r:Nat)=>(r:Int)) [] bp).2;rw[bg,bQ,lM1,cW,sZ]at this;rw[Pq,eX,<- this];unfold ddI;lia)
 rw[this];exact q
theorem rF(d:rs.length=m)(hr:∀x∈rs,x<m)(nd:rs.Nodup):rs.Perm (af m):=by
 refine(List.perm_ext_iff_of_nodup nd dv).mpr λa=>⟨λh=>aB.mpr (hr a h),λh=>?_⟩;refine OL λc=>?_;have:=few (N:=m) (l:=a::rs) (aQ.mpr ⟨c,nd⟩) λx b=>by
  rcases aF.mp b with rfl|b
  ·exact aB.mp h
  ·exact hr x b
 rw[lC1]at this;lia
theorem ja(h:rs.Perm (af m)):rs.length=m/\(∀x∈rs,x<m)/\rs.Nodup:=by
 refine⟨by have:=h.length_eq;rwa [dB]at this,λx a=>aB.mp (h.mem_iff.mp a),h.nodup_iff.mpr dv⟩
theorem l9{c:List (Nat×List D)}{g:FG}{b:FS}{Q:Fl×Ev×d7->Prop}(I:Nat->Ev->d7->Prop):∀ (items:List D) (k:Nat) (r:Ev) (S:d7),I k r S ->
  (∀i r S,I i r S->pC S c=M) ->
  (∀i d,items[i]?=Z d -> ∀r S,I (k+i) r S->W (g d r S) λp=>W (b p.1 p.2) λq=>(q.1 = .nx/\I (k+i+1) q.2.1 q.2.2) \/ ∃v,q.1 = .rt v/\Q (.rt v,q.2)) ->
  (∀r S,I (k+items.length) r S->Q (.nx,r,S))->W (jm c g b items r S) Q:=by
 intro items
 induction items with
 |nil=>intro k r S hi a _ j;rw[jm];dsimp only;rw[ak (a _ _ _ hi),ew];exact j r S (by simpa using hi)
 |cons d ds ih=>
  intro k r S hi a l j;rw[jm];dsimp only;rw[ak (a _ _ _ hi),d9];obtain⟨p,u,⟨f,t,n⟩,s,h⟩:=l 0 d O r S (by simpa using hi);refine⟨p,u,?_⟩;dsimp only;rw[d9];refine⟨_,s,?_⟩;dsimp only at h ⊢;rcases h with⟨rfl,e⟩|⟨v,rfl,m⟩
  ·exact ih (k+1) t n e a (fun i d o r S e=>by
    have:=l (i+1) d o r S (by rw[show k+(i+1)=k+1+i by lia];exact e);rw[show k+(i+1)+1=k+1+i+1 by lia]at this;exact this) λr S e=>j r S (by rw[lC1,show k+(ds.length+1)=k+1+ds.length by lia];exact e)
  ·exact ew.mpr m
theorem zN{a b:FS}{r:Ev}{Q:Fl×Ev×d7->Prop}(h:W (a r S) λp=>(p.1 = .nx/\W (b p.2.1 p.2.2) Q) \/ ∃v,p.1 = .rt v/\Q (.rt v,p.2)):W (et a b r S) Q:=by
 obtain⟨⟨f,c,d⟩,e,h⟩:=h;unfold et;rw[e];dsimp only at h;rcases h with⟨rfl,h⟩|⟨v,rfl,h⟩
 ·exact h
 ·exact ew.mpr h
theorem Bm{c:FT}{m:FE}{b:FS}{r:Ev}{Q:Fl×Ev×d7->Prop}(C:Bool×d7->Prop)(h1:W (c r S) C)(h2:∀V,C (M,V)->W (m r V) λp=>Q (.rt p.1,r,p.2))(d:∀V,C (J,V)->W (b r V) Q):W (et (fV c (eW m) nA) b r S) Q:=by
 obtain⟨⟨t,V⟩,e,a⟩:=h1;unfold et fV;simp only[e,oS1];cases t with
 |true=>
  rw[ak O];unfold eW;rw[d9,d9];exact(h2 V a).mono λp f=>ew.mpr (ew.mpr f)
 |false=>
  rw[aj (by decide)];exact d V a
theorem k6{w:d8}(hw:fS m w)(hr:r<m):∃row,w[r]?=Z row:=⟨_,gG1 (by rw[hw.len];exact hr)⟩
theorem kX{w:d8}{row:List (Nat×Nat)}(h:w[r]?=Z row)(q:Q (.tup (row.map pD),S)):W (ez (webD w) (.int r) S) Q:=
 ka (i:=r) (x:=.tup (row.map pD)) (by rw[gP1,h];rfl) q
theorem uU(hi:i<rs.length)(q:Q (.int (rs.getD i 0:Nat),S)):W (ez (.tup (ei rs)) (.int i) S) Q:=
 ka (i:=i) (x:=.int (rs.getD i 0:Nat)) (by rw[ei,gP1,bM,gG1 hi];rfl) q
theorem nQ(hm:0<m)(h:∀x∈rs,x<m):rs.getD i 0<m:=by
 rw[bM];cases e:rs[i]? with
 |none=>exact hm
 |some x=>exact h x (gM1 e)
noncomputable def gz(w:d8)(r:Nat):List (Nat×Nat):=w[r]?.getD []
theorem gy{w:d8}{row:List (Nat×Nat)}(h:w[r]?=Z row):gz w r=row:=by unfold gz;rw[h];rfl
noncomputable def oC(rs:List Nat)(e:Nat×Nat):Nat×Nat:=(rs.getD e.1 0,e.2)
def Car(w:d8)(rs:List Nat)(r:Nat):Prop:=gz w (rs.getD r 0)=(gz w r).map (oC rs)
theorem uD{S:d7}{n:Nat}:∀(a b:List (Nat×Nat)),xr (hL S (n+2)) (a.map pD) (b.map pD)=Z (tf (a=b))
 |[],[]=>by rw[xV O];rfl
 |[],_::_=>by rw[re (by simp)];rfl
 |_::_,[]=>by rw[re (by simp)];rfl
 |x::a,y::b=>by
  rw[mP1,mP1,xr,oW,uD a b,oS1];refine congrArg Z (vi ?_);rw[bA1,Pq,rf,List.cons.injEq]
theorem Eb(a b:List (Nat×Nat)):gEq (.tup (a.map pD)) (.tup (b.map pD)) S=Z (.bl (tf (a=b)),S):=by
 show(hL S eK (.tup (a.map pD)) (.tup (b.map pD))).map _=_;unfold eK;rw[show(60:Nat)=59+1 from rfl,hL];simp only[kg,uD (S:=S) (n:=57) a b];simp
theorem Hj{a b:Nat×Nat}:gNe (pD a) (pD b) S=Z (.bl (!(a == b)),S):=by
 show(hL S eK (pD a) (pD b)).map _=_;rw[show eK=58+2 from rfl,oW];rfl
theorem DU{w:d8}(hw:fS m w)(H:0<m)(wq:rs.length=m)(hr:∀x∈rs,x<m)(q:Q (.bl (tf (∀r,r<m->Car w rs r)),S)):W (ea 2 fU [webD w,.tup (ei rs)] S) Q:=by
 refine g0 O (by rw[D.unds,eP,D.unds,D.und,fv];rfl) ?_;unfold fU;refine lh ?_;unfold mz;refine zN ?_;unfold fz;rw[d9];refine pz (xs:=w.map λf=>.tup (f.map pD)) O ?_;refine l9 (λi r V=>(∀j,j<i->Car w rs j)/\V=[] /\ ∃N L A y B,r=[Z (webD w),Z (.tup (ei rs)),N,L,A,y,B]) _ 0 _ _ ⟨λj h=>by lia,O,_,_,_,_,_,O⟩ (λ_ _ _ _=>rfl) ?_ ?_
 ·rintro i R p r V ⟨g,rfl,N,L,A,y,B,rfl⟩;rw[fZ,gP1]at p;obtain⟨z,au,rfl⟩:=PD p;obtain⟨f,n,rfl⟩:=PD au;have K:i<m:=by rw[<- hw.len];exact(PB n).1
  rw[bQ]at *
  obtain⟨c,k⟩:=k6 hw (nQ (i:=i) H hr);have C:¬ Car w rs i->Q (.bl J,S):=λG=>by
   rw[re (λh=>G (h i K))]at q;exact q
  have o:Car w rs i↔c=f.map (oC rs):=by
   unfold Car;rw[gy n,gy k]
  walk_at"w";unfold jN;refine Bm (λt=>t=(!(c.length == f.length),[])) ?_ (λT e=>?_) λT e=>?_
  ·walk_at"w";refine uU (by lia) ?_;refine kX k ?_;walk_at"w";rw [lM1,lM1];have:(((c.length:Nat):Int) == ((f.length:Nat):Int))=(c.length == f.length):=by
    rw[bT,Pq,Pq];lia
   rw[this]
  ·injection e with E F;subst F;have:¬ Car w rs i:=fun hc=>by
    rw[o.mp hc,lM1,OB]at E;cases E
   walk_at"w";exact .inr ⟨_,O,.inr ⟨_,O,O,C this⟩⟩
  ·injection e with E F;subst F;have P:c.length=f.length:=by
    have:(c.length == f.length)=M:=by
     cases h:c.length == f.length with
     |true=>rfl
     |false=>rw[h]at E;cases E
    exact Pq.mp this
   unfold fz;rw[d9];refine pz (xs:=f.map pD) O ?_;refine l9 (λj r V=>(∀d e,d<j->f[d]?=Z e->c[d]?=Z (oC rs e))/\V=[] /\ ∃A y B,r=[Z (webD w),Z (.tup (ei rs)),Z (.int (i:Nat)),Z (.tup (f.map pD)),A,y,B]) _ 0 _ _ ⟨λd e h=>by lia,O,_,_,_,O⟩ (λ_ _ _ _=>rfl) ?_ ?_
   ·rintro j R p r V ⟨v,rfl,A,y,B,rfl⟩;rw[fZ,gP1]at p;obtain⟨z,au,rfl⟩:=PD p;obtain⟨e,u,rfl⟩:=PD au;have X:=(PB u).1;rw[bQ]at *
    have U:=hw.to i j e ⟨f,n,u⟩;have l:c[j]?=Z c[j]:=gG1 (by lia);generalize c[j]=e' at l;rw[show pD e = .tup [.int (e.1:Nat),.int (e.2:Nat)]from rfl];walk_at"w";unfold jO;walk_at"w";refine uU (by lia) ?_;refine kX k ?_;refine ka (i:=j) (x:=pD e') (by rw[gP1,l];rfl) ?_;refine uU (by lia) ?_;walk_at"w";refine W.of (Hj (a:=e') (b:=oC rs e)) ?_;walk_at"w";by_cases s:e'=oC rs e
    ·rw[Pq.mpr s];walk_at"w";refine .inl ⟨λd I aq h=>?_,_,_,_,O⟩;by_cases ao:d=j
     ·subst ao;rw[u]at h;cases h;rw[l,s]
     ·exact v d I (by lia) h
    ·rw [beq_false_of_ne s];walk_at"w";have:¬ Car w rs i:=fun hc=>s (by
      have h2:=o.mp hc;rw[h2,gP1,u]at l;cases l;rfl)
     exact .inr ⟨_,O,.inr ⟨_,O,.inr ⟨_,O,O,C this⟩⟩⟩
   ·rintro r V ⟨v,rfl,A,y,B,rfl⟩;refine .inl ⟨O,λj hj=>?_,O,_,_,_,_,_,O⟩;by_cases am:j=i
    ·subst am;refine o.mpr (b5 λd=>?_);rw[gP1];cases u:f[d]? with
     |none=>
      rw[List.getElem?_eq_none_iff]at u;exact b6 (by lia)
     |some e=>
      have:=(PB u).1;exact v d e (by rw[fY,lM1];lia) u
    ·exact g j (by lia)
 ·rintro r V ⟨g,rfl,N,L,A,y,B,rfl⟩;rw[fY,lM1,bQ,hw.len]at g;rw[xV g]at q;refine .inl ⟨O,?_⟩;walk_at"w";exact⟨O,q⟩
theorem vD(h:D.tup (ei a) = .tup (ei b)):a=b:=by
 injection h with h;unfold ei at h;exact(List.map_inj_right λx y e=>by injection e with e;lia).mp h
def dF(L:List (Nat×List Nat)):List (Key×D):=L.map λp=>(Sum.inl (p.1:Int),D.tup (ei p.2))
theorem ig:∀{L:List (Nat×List Nat)} {p:Nat×List Nat},(L.map (·.1)).Nodup->p∈L->ef (dF L) (Sum.inl (p.1:Int))=Z (.tup (ei p.2))
 |[],_,_,h=>by cases h
 |x::L,p,nd,h=>by
  rw[mP1,aQ]at nd;unfold dF ef;rw[mP1,bd];rcases aF.mp h with z|z
  ·subst z;simp
  ·have a:x.1≠p.1:=λe=>nd.1 (by rw[e];exact cg.mpr ⟨p,z,O⟩);have:decide ((Sum.inl (x.1:Int):Key)=Sum.inl (p.1:Int))=J:=ai λe=>a (by injection e with e;lia);dsimp only;rw[this];exact ig (L:=L) nd.2 z
theorem xF{v:Nat}(h:v∉L.map (·.1)):((dF L).any λp=>decide (p.1=Sum.inl (v:Int)))=J:=by
 rw[dh];intro z;obtain⟨x,a,e⟩:=bU.mp z;obtain⟨p,b,rfl⟩:=PF a;have e:=N9 e;dsimp only at e;injection e with e;exact h (cg.mpr ⟨p,b,by lia⟩)
theorem uc{v:Nat}(h:v∉L.map (·.1)):ef (dF L) (Sum.inl (v:Int))=Y:=by
 unfold ef;rw[Option.map_eq_none_iff,List.find?_eq_none];intro x a z;have:=xF h;rw[dh]at this;exact this (bU.mpr ⟨x,a,z⟩)
theorem wD{v:Nat}{ws:List Nat}(h:v∉L.map (·.1)):fT (dF L) (Sum.inl (v:Int)) (.tup (ei ws))=dF (L++[(v,ws)]):=by
 unfold fT;rw[xF h,aj (by decide)];unfold dF;rw[cx];rfl
theorem t0{v:Nat}{F:List (Key×D)}(h:S[n]?=Z (.dct F)):fX (.int (v:Nat)) (.ref n) S=Z (.bl (!(ef F (Sum.inl (v:Int))).isSome),S):=by
 simp only[fX,iJ,h,kB,oP1]
theorem Be{v:Nat}{F:List (Key×D)}{d:D}(h:S[n]?=Z (.dct F))(a:ef F (Sum.inl (v:Int))=Z d):ez (.ref n) (.int (v:Nat)) S=Z (d,S):=by
 simp only[ez,mh,h,kB,oS1,a,oP1]
theorem zM{v:Nat}{F:List (Key×D)}{d:D}(h:S[n]?=Z (.dct F))(a:F≠[])(b:F.length<1000):f0 (.ref n) (.int (v:Nat)) d S=Z (.non,S.set n (.dct (fT F (Sum.inl (v:Int)) d))):=by
 cases F with
 |nil=>exact absurd O a
 |cons x F=>
  have h2:f0 (.ref n) (.int (v:Nat)) d S=jo (.ref n) (.int (v:Nat)) d S:=by simp only[f0,h]
  rw[h2];simp only[jo,h,kB,oS1];rw[ak (bi b (by decide))]
def eL(w:d8):Nat->List Nat->Option Nat
 |r,[]=>Z r
 |r,d::ds=>((gz w r)[d]?).bind λe=>eL w e.1 ds
theorem ue{w:d8}:∀{ds:List Nat} {r v d:Nat} {e:Nat×Nat},eL w r ds=Z v->(gz w v)[d]?=Z e->eL w r (ds++[d])=Z e.1
 |[],r,v,d,e,h,he=>by
  rw[eL]at h;cases h;rw[cW,eL,he];rfl
 |x::ds,r,v,d,e,h,he=>by
  rw[eL]at h;rw[bm,eL];cases hx:(gz w r)[x]? with
  |none=>rw[hx]at h;cases h
  |some y=>
   rw[hx]at h;exact ue (ds:=ds) h he
theorem BS{w:d8}(h:At w r d e):(gz w r)[d]?=Z e:=by
 obtain⟨a,h1,h2⟩:=h;rw[gy h1];exact h2
theorem kk{w:d8}(h:(gz w r)[d]?=Z e):At w r d e:=by
 unfold gz at h;cases hr:w[r]? with
 |none=>rw[hr]at h;simp at h
 |some a=>rw[hr]at h;exact⟨a,hr,h⟩
theorem r6{m:Nat}{w:d8}(hw:fS m w):∀{ds:List Nat} {r v:Nat},r<m->eL w r ds=Z v->v<m
 |[],r,v,hr,h=>by rw[eL]at h;cases h;exact hr
 |d::ds,r,v,hr,h=>by
  rw[eL]at h;cases hx:(gz w r)[d]? with
  |none=>rw[hx]at h;cases h
  |some y=>
   rw[hx]at h;exact r6 hw (ds:=ds) (hw.to r d y (kk hx)) h
structure BJ (m:Nat)(w:d8)(L:List (Nat×List Nat))(a j:Nat):Prop where
 nd:(L.map (·.1)).Nodup
 inn:∀p∈L,p.1<m
 hd:L[0]?=some (0,[])
 ok:∀p∈L,eL w 0 p.2=some p.1
 len:∀(i:Nat) (p:Nat×List Nat),L[i]?=some p->p.2.length<=i
 cl:∀(i d:Nat) (p:Nat×List Nat) (e:Nat×Nat),L[i]?=some p->At w p.1 d e->(i<a\/(i=a/\d<j))->e.1∈L.map (·.1)
theorem BJ.few{a:Nat}{w:d8}(b:BJ m w L a j):L.length<=m:=by
 have:=Law.few b.nd (N:=m) λx c=>by
  obtain⟨p,d,rfl⟩:=PF c;exact b.inn p d
 rwa [lM1]at this
theorem BJ.old{a:Nat}{w:d8}{g:Nat×List Nat}(b:BJ m w L a j)(h:L[a]?=Z g)(f:At w g.1 j e)(c:e.1∈L.map (·.1)):BJ m w L a (j+1):=by
 refine⟨b.nd,b.inn,b.hd,b.ok,b.len,λi d p l h1 h2 n=>?_⟩;by_cases k:i=a/\d=j
 ·obtain⟨rfl,rfl⟩:=k;rw[h]at h1;cases h1;rw[<- j5 f h2];exact c
 ·exact b.cl i d p l h1 h2 (by lia)
theorem BJ.new{a:Nat}{w:d8}{f:Nat×List Nat}(b:BJ m w L a j)(k:L[a]?=Z f)(g:At w f.1 j e)(hm:e.1<m)(n:e.1∉L.map (·.1)):BJ m w (L++[(e.1,f.2++[j])]) a (j+1):=by
 have r:=(PB k).1;have o:∀x,x∈L.map (·.1)->x∈(L++[(e.1,f.2++[j])]).map (·.1):=λx q=>by rw[cx];exact aH _ q
 refine⟨?_,λp c=>?_,?_,λp c=>?_,λi p h=>?_,λi d p v h1 h2 A=>?_⟩
 ·rw[cx,bB];refine⟨b.nd,by simp,λx q y s z=>?_⟩;have:y=e.1:=by simpa using s
  exact n (by rw[<- this,<- z];exact q)
 ·rcases aG.mp c with c|c
  ·exact b.inn p c
  ·rw[cA]at c;subst c;exact hm
 ·rw[gL1 (by lia)];exact b.hd
 ·rcases aG.mp c with c|c
  ·exact b.ok p c
  ·rw[cA]at c;subst c;exact ue (b.ok f (gM1 k)) (BS g)
 ·by_cases l:i<L.length
  ·rw[gL1 l]at h;exact b.len i p h
  ·have:=(PB h).1;rw[lA1,a0]at this;have t:i=L.length:=by lia
   subst t;rw[dy]at h;cases h;have:=b.len a f k;rw[lA1,a0];lia
 ·rw[gL1 (by lia)]at h1;by_cases u:i=a/\d=j
  ·obtain⟨rfl,rfl⟩:=u;rw[k]at h1;cases h1;rw[<- j5 g h2,cx];exact mA1 _ (by simp)
  ·exact o _ (b.cl i d p v h1 h2 (by lia))
theorem BJ.zero{a:Nat}{w:d8}(b:BJ m w L a j):0∈L.map (·.1):=cg.mpr ⟨_,gM1 b.hd,O⟩
theorem BJ.all{a:Nat}{w:d8}(hw:fS m w)(b:BJ m w L a 0)(ha:L.length<=a):∀v,v<m->v∈L.map (·.1):=by
 refine hw.rc (λv=>v∈L.map (·.1)) b.zero λu d e h2 f=>?_;obtain⟨p,g,c⟩:=PF f;obtain⟨i,hi⟩:=bq g;exact b.cl i d p e hi (by rw[c];exact h2) (.inl (by have:=(PB hi).1;lia))
structure Wlk (m:Nat)(w:d8)(ws:List (List Nat)):Prop where
 len:ws.length=m
 short:∀x∈ws,x.length<=8
 hd:ws[0]?=some []
 to:∀(v:Nat) (x:List Nat),ws[v]?=some x->eL w 0 x=some v
def kw(ws:List (List Nat)):List D:=ws.map λx=>.tup (ei x)
noncomputable def oD:Option Nat->D
 |none=>.non
 |some v=>.int v
theorem vB(o:Option Nat):(oD o).und 0=M:=by cases o<;>rfl
theorem Au(h:o.und 0=M):o.sh n=o:=by
 have a:∀{κ:Type} (l:List (κ×D)),D.unds 0 (l.map (·.2))=M->(l.map λp=>(p.1,p.2.sh n))=l:=λl=>by
  induction l with
  |nil=>intro _;rfl
  |cons x l ih=>
   intro h;rw[mP1,D.unds,bA1]at h;rw[mP1,ih h.2,zK h.1]
 cases o with
 |lst xs=>rw[Ob.und]at h;rw[Ob.sh,nL h]
 |dct l=>rw[Ob.und]at h;rw[Ob.sh,a l h]
 |dcT l=>rw[Ob.und]at h;rw[Ob.sh,a l h]
 |dcF l=>rw[Ob.und]at h;rw[Ob.sh,a l h]
 |iset l=>rfl
 |tst l=>rfl
theorem zC(h:S.all (Ob.und 0)=M):S.map (Ob.sh n)=S:=by
 have:S.map (Ob.sh n)=S.map id:=de λo a=>Au (bD.mp h o a);rw[this,di]
theorem xz{f:FN}{ds:List D}(hn:ds.length=n)(c:D.unds 0 ds=M)(h:W (f ds []) λp=>∃k xs,p.1 = .ref k/\p.2[k]?=Z (.lst xs)/\p.2.all (Ob.und 0)=M /\ ∀G j,(S++G)[j]?=Z (.lst xs)->G.all (Ob.und 0)=M->S.length<=j->Q (.ref j,S++G)):W (ea n f ds S) Q:=by
 obtain⟨⟨d,G⟩,e,k,xs,rfl,b,a,q⟩:=h;refine⟨_,uN e hn c O,?_⟩;dsimp only at b a;rw[zC a];exact q G _ (by rw[fJ];exact b) a (br _ _)
def ri(L:List (Nat×List Nat))(k:Nat)(G:d7):d7:=.dct (dF L) :: .lst (ei ((L.map (·.1)).drop k))::G
theorem Hu(L:List (Nat×List Nat)):(Ob.dct (dF L)).und 0=M:=by
 rw[Ob.und,dF,bv];exact fj λp _=>by show(D.tup (ei p.2)).und 0=M;rw[D.und];exact fv _
theorem Cu{k:Nat}{G:d7}(h:G.all (Ob.und 0)=M):(ri L k G).all (Ob.und 0)=M:=by
 rw[ri,bS,bS,h,Hu,Ob.und,fv];rfl
theorem Ck{w:d8}(hw:fS m w)(E:0<m)(hm:m<=8):W (gE [webD w] []) λp=>∃k ws,p.1 = .ref k/\p.2[k]?=Z (.lst (kw ws))/\p.2.all (Ob.und 0)=M/\Wlk m w ws:=by
 unfold gE;refine lh ?_;unfold mw;refine eU (λg V=>V=ri [(0,[])] 0 []/\g=[Z (webD w),Z (.ref 0),Z (.ref 1),Y,Y,Y,Y]) ?_ ?_
 ·exact W.of (x:=(.nx,[Z (webD w),Z (.ref 0),Z (.ref 1),Y,Y,Y,Y],ri [(0,[])] 0 [])) O ⟨O,O,O⟩
 rintro g V ⟨rfl,rfl⟩;refine eU (λg V=>∃L a G R N K au,BJ m w L a 0/\L.length<=a/\G.all (Ob.und 0)=M/\V=ri L a G/\g=[Z (webD w),Z (.ref 0),Z (.ref 1),R,N,K,au]) ?_ ?_
 ·refine sV (λk g V=>∃L G R N K au,BJ m w L k 0/\G.all (Ob.und 0)=M/\V=ri L k G/\g=[Z (webD w),Z (.ref 0),Z (.ref 1),R,N,K,au]) 8 ?_ 100000 0 _ _ (by lia) ⟨[(0,[])],[],_,_,_,_,⟨by simp,λp A=>by simp at A;subst A;exact E,O,λp A=>by simp at A;subst A;rfl,λi p h=>by cases i with|zero=>cases h;simp|succ i=>simp at h,λi d p e _ _ h=>by lia⟩,O,O,O⟩;rintro k g V ⟨L,G,R,N,K,au,b,hG,rfl,rfl⟩;have hLf:=b.few;unfold jK;have hne:=xc (S:=ri L k G++[.lst []]) (i:=1) (j:=(ri L k G).length) (xs:=ei ((L.map (·.1)).drop k)) O (by rw[ee];rfl)
  wp_walk using hne
  have P:(G++[Ob.lst []]).all (Ob.und 0)=M:=by rw[df,hG];rfl
  have hst:ri L k G++[Ob.lst []]=ri L k (G++[.lst []]):=rfl;by_cases C:k<L.length
  ·obtain ⟨t,h0⟩:∃ p,L[k]? = some p:=⟨_,gG1 C⟩;have I:(L.map (·.1)).drop k=t.1::(L.map (·.1)).drop (k+1):=by
    rw[bX (by rw[lM1];exact C)]
    congr 1
    rw[List.getElem_map];rw[gG1 C]at h0;cases h0;rfl
   rw[ak (by rw[I];rfl)];refine⟨by lia,?_⟩;have hp0:=b.inn t (gM1 h0);obtain⟨u,q⟩:=k6 hw hp0;have hr4:=hw.le _ u q;rw[hst];unfold jJ;refine eU (λg V=>V=ri L (k+1) (G++[.lst []])/\g=[Z (webD w),Z (.ref 0),Z (.ref 1),Z (.int (t.1:Nat)),N,K,au]) ?_ ?_
   ·unfold eF;rw[d9];refine iL ?_;walk_at"w";refine⟨1,ei ((L.map (·.1)).drop k),O,O,?_⟩;refine wa (n:=1) (i:=0) (xs:=ei ((L.map (·.1)).drop k)) (x:=.int (t.1:Nat)) O (by rw[I];rfl) (by lia) ?_;walk_at"w";rw[I];exact⟨O,trivial⟩
   rintro g V ⟨rfl,rfl⟩;unfold fz;rw[d9];refine pz (xs:=u.map pD) ?_ ?_
   ·obtain⟨p,e,rfl⟩:=kX (S:=ri L (k+1) (G++[.lst []])) (Q:=λp=>p=(.tup (u.map pD),ri L (k+1) (G++[.lst []]))) q O;simp only[d5,d6,m2,b2,mV,gC1,dk,oS1,e]
   refine e6 (λj g V=>∃l y4 y5 y6,j<=u.length/\BJ m w l k j/\l[k]?=Z t/\V=ri l (k+1) (G++[.lst []])/\g=[Z (webD w),Z (.ref 0),Z (.ref 1),Z (.int (t.1:Nat)),y4,y5,y6]) _ 0 _ _ ⟨L,_,_,_,by lia,b,h0,O,O⟩ (λ_ _ _ _=>rfl) ?_ ?_
   ·rintro j dd T g V ⟨l,y4,y5,y6,hj,o,c,rfl,rfl⟩;rw[fZ,gP1]at T;obtain⟨z,hz,rfl⟩:=PD T;obtain⟨goal,y,rfl⟩:=PD hz;have hjlt:=(PB y).1;rw[bQ]at *
    have am:At w t.1 j goal:=⟨u,q,y⟩;have hLf':=o.few;have X:=ig o.nd (gM1 c);have aq:l≠[]:=λz=>by rw[z]at c;simp at c
    unfold pD;walk_at"w";unfold jL
    ((try walk_at"w");repeat(simp only[t0 (S:=ri l (k+1) (G++[.lst []])) (n:=0) (F:=dF l) O];try walk_at"w"))
    by_cases s:goal.1∈l.map (·.1)
    ·obtain⟨p',hp',e'⟩:=PF s;have r:=ig o.nd hp';rw[e']at r;rw[r,aj (by simp)];exact⟨l,_,_,_,by lia,o.old c am s,c,O,O⟩
    ·rw[uc s,ak (by simp)]
     ((try walk_at"w");repeat(simp only[Be (S:=ri l (k+1) (G++[.lst []])) (n:=0) (F:=dF l) O X];try walk_at"w"))
     have hkl:=(PB c).1;have hpl:t.2.length<=8:=by
      have h1:=o.len k t c;lia
     refine⟨ed (by rw[eX];lia),?_⟩;rw[jc]
     ((try walk_at"w");repeat(simp only[zM (S:=ri l (k+1) (G++[.lst []])) (n:=0) (v:=goal.1) (F:=dF l) (d:=.tup (ei (t.2++[j]))) O (by unfold dF;simpa using aq) (by unfold dF;rw[lM1];lia)];try walk_at"w"))
     rw[wD s];refine iL ?_;walk_at"w";refine⟨1,ei ((l.map (·.1)).drop (k+1)),O,O,?_⟩;refine(kY (n:=1) (xs:=ei ((l.map (·.1)).drop (k+1))) O).mpr ⟨ed (by rw[eX,aX,lM1];lia),?_⟩;refine⟨l++[(goal.1,t.2++[j])],_,_,_,by lia,o.new c am (hw.to _ _ _ am) s,by rw[gL1 hkl];exact c,?_,O⟩;unfold ri;rw[cx,cV (by rw[lM1];lia)];simp[ei]
   ·rintro g V ⟨l,y4,y5,y6,hj,o,c,rfl,rfl⟩;rw[fY,lM1,bQ]at o;refine⟨O,l,_,_,_,_,_,⟨o.nd,o.inn,o.hd,o.ok,o.len,λi d p e h1 h2 h3=>o.cl i d p e h1 h2 ?_⟩,P,O,O⟩;rcases(show i<k\/i=k by lia)with h|rfl
    ·exact .inl h
    ·rw[c]at h1;cases h1;obtain⟨row',g1,g2⟩:=h2;rw[q]at g1;cases g1;exact .inr ⟨O,(PB g2).1⟩
  ·rw[aj (by rw[cS (by rw[lM1];lia)];decide)];exact⟨L,k,G++[.lst []],_,_,_,_,b,by lia,P,O,O⟩
 rintro g V ⟨L,a,G,R,N,K,au,b,ha,hG,rfl,rfl⟩;have U:∀v,∃x:List Nat,v<m->x.length<=8/\eL w 0 x=Z v/\ef (dF L) (Sum.inl (v:Int))=Z (.tup (ei x))/\(v=0->x=[]):=λv=>by
  by_cases ao:v<m
  ·obtain⟨p,A,e⟩:=PF (b.all hw ha v ao);have h1:=ig b.nd A;have h5:=b.ok p A;rw[e]at h1 h5;obtain⟨i,hi⟩:=bq A;have h2:=b.len i p hi;have h3:=(PB hi).1;have h4:=b.few;refine⟨p.2,λ_=>⟨by lia,h5,h1,λz=>?_⟩⟩;subst z;have h6:=ig b.nd (gM1 b.hd);dsimp only at h6;rw[h6]at h1;have h7:D.tup (ei []) = .tup (ei p.2):=by simpa using h1
   exact(vD h7).symm
  ·exact⟨[],λh=>(ao h).elim⟩
 obtain⟨f,wq⟩:=Classical.axiomOfChoice U
 wp_walk using gH
 rw[hw.len];refine⟨eV (by lia),?_⟩;rw[jl,NH];refine jr (f:=λj:Nat=>D.int j) (λv=>D.tup (ei (f v))) (λg=>∃x,g=[x,Z (.ref 0)]) O (af m) _ ⟨_,O⟩ ?_ ?_
 ·rintro v ao g ⟨x,rfl⟩;walk_at"w";refine W.of (x:=(.tup (ei (f v)),ri L a G)) ?_ ⟨O,O,_,O⟩;exact Be O (wq v (aB.mp ao)).2.2.1
 ·rintro g ⟨x,rfl⟩;refine⟨ed (by rw[lM1,dB];lia),?_⟩;walk_at"w";refine⟨_,(af m).map f,O,?_,?_,⟨by simp,λx hx=>?_,?_,λv x h=>?_⟩⟩
  ·first|(rw[ee];show Z _=Z _;rw[kw,bv];rfl)|(unfold kw;rw[bv,ee];rfl)
  ·rw[df,Cu hG];show(D.unds 0 _&&M)=M;rw[bP];exact fj λv _=>by rw[D.und];exact fv _
  ·obtain⟨v,ao,rfl⟩:=PF hx;exact(wq v (aB.mp ao)).1
  ·rw[gP1,dA E,oP1,(wq 0 E).2.2.2 O]
  ·rw[gP1]at h;obtain⟨v',H,rfl⟩:=PD h;have B:=(PB H).1;rw[dB]at B;rw[dA B]at H;cases H;exact(wq v B).2.1
theorem I9{w:d8}{ws:List Nat}(hw:fS m w)(hr:r<m)(q:Q (oD (eL w r ws),S)):W (ea 3 iB [webD w,.int r,.tup (ei ws)] S) Q:=by
 refine g0 O (by rw[D.unds,eP,D.unds,D.unds,D.und,D.und,fv];rfl) ?_;unfold iB;refine lh ?_;unfold py;refine zN ?_;walk_at"w";rw[i9];refine l9 (λi n V=>∃(h:Nat) (v:Option D),h<m/\eL w r ws=eL w h (ws.drop i)/\V=[]/\n=[Z (webD w),Z (.int (h:Nat)),Z (.tup (ei ws)),v]) _ 0 _ _ ⟨r,Y,hr,O,O,O⟩ (λ_ _ _ _=>rfl) ?_ ?_
 ·rintro i d p n V ⟨h,v,y,f,rfl,rfl⟩;dsimp only at p;rw[ei,gP1]at p;obtain⟨x,u,rfl⟩:=PD p;have g:=(PB u).1;obtain⟨a,b⟩:=k6 hw y;rw[bQ]at *
  have o:ws.drop i=x::ws.drop (i+1):=by
   rw[bX g];rw[gG1 g]at u;cases u;rfl
  rw[o,eL,gy b]at f;walk_at"w";unfold lW;refine Bm (λt=>t=(decide (a.length<=x),[])) ?_ (λV e=>?_) λV e=>?_
  ·have j:∀S:d7,Hl (.int (h:Nat)) .non S=Z (.bl J,S):=λS=>rfl
   wp_walk using j
   refine kX b ?_;walk_at"w";rw[lM1]
   congr 1
   rw[bT,al,al];lia
  ·injection e with j s;subst s;have l:a.length<=x:=N9 j.symm;rw[b6 l]at f;walk_at"w";rw[f]at q;exact .inr ⟨_,O,.inr ⟨_,O,O,q⟩⟩
  ·injection e with j s;subst s;have k:x<a.length:=by
    have:=of_decide_eq_false j.symm;lia
   have c:a[x]?=Z a[x]:=gG1 k;generalize a[x]=e' at c;rw[c]at f;walk_at"w";refine kX b ?_;refine ka (i:=x) (x:=pD e') (by rw[gP1,c];rfl) ?_;refine ka (i:=0) (x:=.int (e'.1:Nat)) O ?_;walk_at"w";exact .inl ⟨e'.1,_,hw.to h x e' ⟨a,b,c⟩,f,O⟩
 ·rintro n V ⟨h,v,y,f,rfl,rfl⟩;dsimp only at f;rw[eX,bQ,List.drop_length,eL]at f;rw[f]at q;refine .inl ⟨O,?_⟩;walk_at"w";exact⟨O,q⟩
def cnd(w:d8)(ws:List (List Nat))(r:Nat):List Nat:=ws.map λx=>(eL w r x).getD 0
def Gd(m:Nat)(w:d8)(ws:List (List Nat))(r:Nat):Prop:=(∀x∈ws,(eL w r x).isSome=M)/\(cnd w ws r).Nodup /\ ∀i,i<m->Car w (cnd w ws r) i
noncomputable def trs(m:Nat)(w:d8)(ws:List (List Nat))(k:Nat):List Nat:=(af k).filter λr=>tf (Gd m w ws r)
def gw(m:Nat)(w:d8)(ws:List (List Nat))(k:Nat):List D:=(trs m w ws k).map λr=>.tup (ei (cnd w ws r))
theorem lr{k:Nat}{w:d8}:gw m w ws (k+1)=gw m w ws k++if tf (Gd m w ws k)=M then[.tup (ei (cnd w ws k))]else[]:=by
 unfold gw trs;rw[List.range_succ,dw,cx]
 congr 1
 cases h:tf (Gd m w ws k)with
 |true=>rw[dE (by exact h)];rfl
 |false=>rw[dG (by rw[h];decide)];rfl
theorem lw{k:Nat}{w:d8}:(gw m w ws k).length<=k:=by
 unfold gw trs;rw[lM1];exact aC (dr ..) (by rw[dB];exact nR1 _)
theorem q9{k:Nat}{w:d8}:D.unds 0 (gw m w ws k)=M:=fj λr _=>by rw[D.und];exact fv _
theorem vV{w:d8}(hw:fS m w)(a:0<m)(hr:r<m):∀x∈cnd w ws r,x<m:=λx b=>by
 obtain⟨y,_,rfl⟩:=PF b;cases h:eL w r y with
 |none=>exact a
 |some v=>exact r6 hw hr h
theorem Bk{S:d7}{n:Nat}{α:Type}{g:α->Option Nat}:∀l:List α,B8 (hL S (n+1)) .non (l.map λx=>oD (g x))=Z (l.any λx=>(g x).isNone)
 |[]=>rfl
 |x::l=>by
  have a:hL S (n+1) (oD (g x)) .non=Z ((g x).isNone):=by cases g x<;>rfl
  rw[mP1,B8,a,oS1,Bk l];rfl
theorem tZ{α:Type}{g:α->Option Nat}{l:List α}:fX .non (.tup (l.map λx=>oD (g x))) S=Z (.bl (!l.any λx=>(g x).isNone),S):=by
 simp only[fX,iJ,mU,eg,oS1,eK,show(60:Nat)=59+1 from rfl,Bk,oP1]
theorem mM{α:Type}{g:α->Option Nat}:∀{l:List α},(l.any λx=>(g x).isNone)=J->(l.map λx=>oD (g x))=ei (l.map λx=>(g x).getD 0)
 |[],_=>rfl
 |x::l,h=>by
  rw[bf,dg]at h;have ih:=mM h.2;rw[mP1,ih];cases hx:g x with
  |none=>rw[hx]at h;cases h.1
  |some v=>unfold ei;rw[mP1,mP1,hx];rfl
theorem Fs(a:rs.length<=100):ij (.tup (ei rs)) S=Z (.ref S.length,S++[.iset (ddI (rs.map λ(r:Nat)=>(r:Int)))]):=by
 unfold ij;rw[kg];dsimp only;rw[w6,oS1,ak (by rw[lM1];unfold OQ;lia)]
theorem Hr:((((ddI (rs.map λ(r:Nat)=>(r:Int))).length:Nat):Int) == (((ei rs).length:Nat):Int))=tf rs.Nodup:=vi (by
 have:=(sx (rs.map λ(r:Nat)=>(r:Int)) [] bp).2;rw[bg,bQ,lM1,cW,sZ]at this;rw[Pq,eX,<- this];unfold ddI;lia)
theorem pW{α:Type}{f:α->D}{k:α->Int}:∀{l:List α},(∀x∈l,iD (f x)=Z (k x))->l.Pairwise (λa b=>k a<k b)->jG (l.map f)=M
 |[],_,_=>rfl
 |x::l,h,p=>by
  rw[cc]at p;rw[mP1,jG,h x mS1,pW (λy c=>h y (mC1 _ c)) p.2,bP];dsimp only;rw[bD];intro y c;obtain⟨z,d,rfl⟩:=PF c;rw[h z (mC1 _ d)];exact ah (p.1 z d)
theorem yI{w:d8}(hk:Wlk m w ws):iD (.tup (ei (cnd w ws r)))=Z (r:Int):=by
 have h:=hk.hd;cases ws with
 |nil=>cases h
 |cons x ws=>
  rw[dk]at h;cases h;rfl
theorem zD{k:Nat}{w:d8}(hk:Wlk m w ws)(hm:k<=8)(hn:S[n]?=Z (.lst (gw m w ws k))):gI (.ref n) S=Z (.ref S.length,S++[.lst (gw m w ws k)]):=by
 have b:=lw (m:=m) (k:=k) (w:=w) (ws:=ws);have a:jG (gw m w ws k)=M:=pW (k:=λr:Nat=>(r:Int)) (λr _=>yI hk) ((List.pairwise_lt_range.sublist List.filter_sublist).imp λh=>by lia);unfold gI;rw[gP hn];dsimp only;unfold gw at *
 generalize trs m w ws k=l at *
 cases l with
 |nil=>rfl
 |cons x l=>
  have:nk ((x::l).map λr=>D.tup (ei (cnd w ws r)))=Y:=rfl;rw[this];dsimp only;rw[a,ah (by lia)];rfl
inductive LJ (m:Nat)(w:d8):Ev->d7->Prop
 |mk (G:d7) (j:Nat) (ws:List (List Nat)) (hk:Wlk m w ws) (hG:G.all (Ob.und 0)=true) (hj:G[j]?=some (.lst (kw ws))):LJ m w [some (webD w),some (.ref 0),some (.ref (j+1)),none,none] (.lst (gw m w ws 0)::G)
inductive Kk (m:Nat)(w:d8)(ws:List (List Nat))(j i:Nat):Ev->d7->Prop
 |mk (G:d7) (x3 x4:Option D) (hi:i<=m) (hG:G.all (Ob.und 0)=true) (hj:G[j]?=some (.lst (kw ws))):Kk m w ws j i [some (webD w),some (.ref 0),some (.ref (j+1)),x3,x4] (.lst (gw m w ws i)::G)
inductive LI (m:Nat)(w:d8)(ws:List (List Nat))(j i:Nat):Ev->d7->Prop
 |mk (G:d7) (hG:G.all (Ob.und 0)=true) (hj:G[j]?=some (.lst (kw ws))):LI m w ws j i [some (webD w),some (.ref 0),some (.ref (j+1)),some (.int (i:Nat)),some (.tup (ws.map λx=>oD (eL w i x)))] (.lst (gw m w ws i)::G)
theorem AX{w:d8}(hw:fS m w)(o:0<m)(hm:m<=8):W (gF [webD w] []) λp=>∃k ws,p.1 = .ref k/\p.2[k]?=Z (.lst (gw m w ws m))/\p.2.all (Ob.und 0)=M/\Wlk m w ws:=by
 unfold gF;refine lh ?_;unfold mx;refine eU (LJ m w) ?_ ?_
 ·walk_at"w";refine xz O (by rw[D.unds,eP];rfl) ((Ck hw o hm).mono ?_);rintro p ⟨k,ws,h1,h2,h3,T⟩;refine⟨k,kw ws,h1,h2,h3,λG j a g N=>?_⟩;walk_at"w";obtain⟨L,rfl⟩:∃L,j=L+1:=⟨j-1,by simp at N;lia⟩;exact⟨G,L,ws,T,g,a⟩
 rintro I V ⟨G,j,ws,am,g,a⟩;refine eU (Kk m w ws j m) ?_ ?_
 ·wp_walk using gH
  rw[hw.len];refine⟨eV (by lia),?_⟩;rw[NH];refine e6 (Kk m w ws j) _ 0 _ _ ⟨G,_,_,by lia,g,a⟩ (λ_ _ _ _=>rfl) ?_ ?_
  ·rintro i d s I V ⟨G,wq,U,hi,g,a⟩;have b:=(PB s).1;rw[eM]at b;rw[jl,gP1,dA b]at s;cases s;rw[bQ]at *
   have au:(cnd w ws i).length=m:=by unfold cnd;rw[lM1];exact am.len
   have ao:=vV (ws:=ws) hw o b;have F:∀X:Ob,(X::G)[j+1]?=Z (.lst (kw ws)):=λX=>by rw[gC1];exact a
   walk_at"w";unfold jM;refine eU (LI m w ws j i) ?_ ?_
   ·walk_at"w";refine eE (F _) ?_;unfold kw;refine jr (f:=λx:List Nat=>D.tup (ei x)) (λx=>oD (eL w i x)) (λr=>∃x,r=[x,Z (webD w),Z (.int (i:Nat))]) (fm (F _)) ws _ ⟨_,O⟩ ?_ ?_
    ·rintro x u r ⟨y,rfl⟩;walk_at"w";refine I9 hw b ?_;exact⟨O,O,_,O⟩
    ·rintro I _;refine⟨ed (by rw[lM1,am.len];lia),?_⟩;walk_at"w";refine eE (by rw[gC1,ee];rfl) ?_;walk_at"w";refine .mk (G++[.lst (ws.map λx=>oD (eL w i x))]) ?_ ?_
     ·rw[df,g];show(D.unds 0 _&&M)=M;rw[bP];exact fj λx _=>vB _
     ·rw[gL1 (PB a).1];exact a
   rintro I V ⟨G,g,a⟩;have B:W (rY (mB (m2 (b2 fX) (mC D.non) (mV 4))) (rY (mB (m2 (b2 gEq) (mN (b1 oS) (d5 (mN (b1 ij) (d5 (mV 4) d6)) d6)) (mN (b1 eQ) (d5 (mV 4) d6)))) (mTr (mN (ea 2 fU) (d5 (mV 0) (d5 (mV 4) d6))))) [Z (webD w),Z (.ref 0),Z (.ref (j+1)),Z (.int (i:Nat)),Z (.tup (ws.map λx=>oD (eL w i x)))] (Ob.lst (gw m w ws i)::G)) λp=>p.1=tf (Gd m w ws i) /\ ∃q,q.all (Ob.und 0)=M/\p.2=Ob.lst (gw m w ws i)::(G++q):=by
    cases l:ws.any λx=>(eL w i x).isNone with
    |true=>
     wp_walk using tZ,l
     refine⟨(re ?_).symm,[],O,by rw[aP]⟩;rintro⟨h,_⟩;obtain⟨x,u,e⟩:=bU.mp l;have:=h x u;rw[Option.isSome_iff_ne_none]at this;exact this (Option.isNone_iff_eq_none.mp e)
    |false=>
     have H:∀x∈ws,(eL w i x).isSome=M:=λx u=>by
      rw[aN]at l;have:=l x u;cases h:eL w i x with
      |none=>rw[h]at this;exact absurd O this
      |some v=>rfl
     wp_walk using tZ,l
     rw[mM l];have E:=Fs (rs:=cnd w ws i) (S:=Ob.lst (gw m w ws i)::G) (by lia);have R:(ws.map λx=>(eL w i x).getD 0)=cnd w ws i:=rfl;rw[R]
     wp_walk using E
     refine B0 (by rw[gC1,ee];rfl) ?_;walk_at"w";rw[Hr];have c:[Ob.iset (ddI ((cnd w ws i).map λ(r:Nat)=>(r:Int)))].all (Ob.und 0)=M:=rfl;by_cases hnd:(cnd w ws i).Nodup
     ·rw[xV hnd];walk_at"w";refine DU hw o au ao ?_;walk_at"w";exact⟨HX ⟨λh=>⟨H,hnd,h⟩,λh=>h.2.2⟩,_,c,O⟩
     ·rw[re hnd];walk_at"w";exact⟨(re λh=>hnd h.2.1).symm,_,c,O⟩
   unfold fV;rw[d9];refine B.mono ?_;rintro⟨t,V⟩ ⟨Q,q,c,P⟩;dsimp only at Q P ⊢;subst Q;subst P;have C:(G++q).all (Ob.und 0)=M:=by rw[df,g,c];rfl
   have A:(G++q)[j]?=Z (.lst (kw ws)):=by rw[gL1 (PB a).1];exact a
   cases hgd:tf (Gd m w ws i)with
   |true=>
    rw[ak O];unfold fQ;rw[d9];refine iL ?_;walk_at"w";refine⟨0,gw m w ws i,O,O,?_⟩;have hl:=lw (m:=m) (k:=i) (w:=w) (ws:=ws);refine(kY (n:=0) (xs:=gw m w ws i) O).mpr ⟨ed (by lia),?_⟩;walk_at"w";have l:(ws.any λx=>(eL w i x).isNone)=J:=by
     rw[aN];intro x u;have:=(rf.mp hgd).1 x u;cases h:eL w i x with
     |none=>rw[h]at this;cases this
     |some v=>intro z;cases z
    rw[mM l];have K:gw m w ws (i+1)=gw m w ws i++[.tup (ei (cnd w ws i))]:=by rw[lr,hgd,ak O]
    have:=Kk.mk (m:=m) (w:=w) (ws:=ws) (j:=j) (i:=i+1) (G++q) (Z (.int (i:Nat))) (Z (.tup (ei (cnd w ws i)))) (by lia) C A;rw[K]at this;exact this
   |false=>
    rw[aj (by decide)];walk_at"w";have K:gw m w ws (i+1)=gw m w ws i:=by rw[lr,hgd,aj (by decide),aP]
    rw[<- K];exact⟨G++q,_,_,by lia,C,A⟩
  ·intro I V h;rw[eM,bQ]at h;exact⟨O,h⟩
 rintro I V ⟨G,wq,U,_,g,_⟩;have aq:=zD (n:=0) (S:=Ob.lst (gw m w ws m)::G) am hm O
 wp_walk using aq
 refine⟨_,ws,O,by first|(rw[gC1,ee];rfl)|simp,?_,am⟩;rw[bS,df,g,Ob.und,q9];show(M&&(M&&(D.unds 0 _&&M)))=M;rw[q9];rfl
theorem yK{w:d8}(hw:fS m w)(j:0<m)(u:rs.length=m)(hr:∀x∈rs,x<m)(h:r<m)(q:Q (.bl (tf (Car w rs r)),S)):W (ea 3 gC [webD w,.tup (ei rs),.int r] S) Q:=by
 refine g0 O (by rw[D.unds,eP,D.unds,D.und,fv];rfl) ?_;unfold gC;refine lh ?_;unfold mq;obtain⟨c,a⟩:=k6 hw h;obtain⟨g,b⟩:=k6 hw (nQ (i:=r) j hr);have t:=hw.le r c a;walk_at"w";refine uU (by lia) ?_;refine kX b ?_;refine kX a ?_;rw[i9];refine jr (f:=pD) (λe:Nat×Nat=>pD (oC rs e)) (λk=>∃o l,k=[o,l,Z (.tup (ei rs))]) O c _ ⟨_,_,O⟩ ?_ ?_
 ·rintro e s k ⟨o,l,rfl⟩;obtain⟨d,p⟩:=bq s;have:=hw.to r d e ⟨c,a,p⟩;rw[pD];walk_at"w";refine uU (by lia) ?_;walk_at"w";exact⟨O,_,_,O⟩
 ·rintro k _;refine⟨ed (by rw[lM1];lia),?_⟩;walk_at"w";refine eE (n:=0) O ?_;have e:=Eb (S:=[Ob.lst (c.map λe:Nat×Nat=>pD (oC rs e))]) g (c.map (oC rs));rw[bv]at e;refine W.of e ?_;walk_at"w";refine⟨O,?_⟩;unfold Car at q;rw[gy a,gy b]at q;exact q
theorem ER{f g:FN}{a b c:FE}{r:Ev}:W (mCh f g a b c r S) Q↔W (a r S) λp=>W (b r p.2) λq=>W (f [p.1,q.1] q.2) λt=>W (match t.1 with | .bl k=>if k=true then(c r t.2).bind λz=>g [q.1,z.1] z.2 else some (.bl false,t.2)|_=>none) Q:=by
 unfold mCh;simp only[d9]
 try exact Iff.rfl
theorem HC{x:Nat×Nat}(q:Q (.int x.1,S)):W (ez (pD x) (.int 0) S) Q:=ka (i:=0) O q
def vk(w:d8):Nat->List Nat->List (Nat×Nat)
 |_,[]=>[]
 |r,d::ds=>match (gz w r)[d]? with
  |none=>[]
  |some e=>e::vk w e.1 ds
def uf(r:Nat)(ps:List (Nat×Nat)):Nat:=match ps.getLast? with
 |none=>r
 |some e=>e.1
theorem wz{w:d8}:∀{ws:List Nat} {r:Nat},(vk w r ws).length<=ws.length/\((vk w r ws).length<ws.length->eL w r ws=Y)/\(¬ (vk w r ws).length<ws.length->eL w r ws=Z (uf r (vk w r ws)))
 |[],r=>by simp[vk,eL,uf]
 |d::ws,r=>by
  rw[vk,eL];cases h:(gz w r)[d]? with
  |none=>simp
  |some e=>
   obtain⟨a,h1,h2⟩:=wz (w:=w) (ws:=ws) (r:=e.1);simp only[lC1,oS1];refine⟨by lia,λz=>h1 (by lia),λz=>?_⟩;rw[h2 (by lia)]
   congr 1
   unfold uf;cases hs:vk w e.1 ws with
   |nil=>rfl
   |cons x l=>rw[List.getLast?_cons_cons,List.getLast?_eq_some_getLast (List.cons_ne_nil x l)]
theorem Cs{w:d8}{ws:List Nat}(hw:fS m w)(hr:r<m)(A:ws.length<=100):W (l7 [webD w,.int r,.tup (ei ws)] []) λp=>p.1 = .tup ((vk w r ws).map pD):=by
 unfold l7;refine lh ?_;unfold xD;refine eU (λe S=>S=[.lst ([].map pD)]/\e=[Z (webD w),Z (.int r),Z (.tup (ei ws)),Z (.ref 0),Y,Y,Y]) ?_ ?_
 ·walk_at"w"
  try exact⟨O,trivial⟩
 rintro e S ⟨rfl,rfl⟩;refine eU (λe S=>S=[.lst ([].map pD)]/\e=[Z (webD w),Z (.int r),Z (.tup (ei ws)),Z (.ref 0),Z (.int (r:Nat)),Y,Y]) ?_ ?_
 ·walk_at"w"
 rintro e S ⟨rfl,rfl⟩;refine zN ?_;walk_at"w";rw[i9];refine l9 (λi e S=>∃(ps:List (Nat×Nat)) (h:Nat) (s q:Option D),i<=ws.length/\ps.length=i/\h<m/\vk w r ws=ps++vk w h (ws.drop i)/\S=[.lst (ps.map pD)]/\e=[Z (webD w),Z (.int r),Z (.tup (ei ws)),Z (.ref 0),Z (.int (h:Nat)),s,q]) _ 0 _ _ ⟨[],r,Y,Y,by lia,O,hr,O,O,O⟩ (λ_ _ _ _=>rfl) ?_ ?_
 ·rintro i d u e S ⟨ps,h,s,q,hi,o,z,a,rfl,rfl⟩;dsimp only at u;rw[ei,gP1]at u;obtain⟨x,v,rfl⟩:=PD u;have l:=(PB v).1;obtain⟨b,c⟩:=k6 hw z;rw[bQ]at *
  have t:ws.drop i=x::ws.drop (i+1):=by
   rw[bX l];rw[gG1 l]at v;cases v;rfl
  rw[t,vk,gy c]at a;walk_at"w";unfold p8;unfold et fV rW;rw[d9,d9,d9];have k:W (mB (mCh (b2 (kE λi j=>decide (i<=j))) (b2 gLt) (mC (D.int (0))) (mV 5) (mN (b1 eQ) (d5 (m2 (b2 ez) (mV 0) (mV 4)) d6))) [Z (webD w),Z (.int r),Z (.tup (ei ws)),Z (.ref 0),Z (.int (h:Nat)),Z (.int (x:Nat)),q] [.lst (ps.map pD)]) λp=>p=(decide (x<b.length),[.lst (ps.map pD)]):=by
   wp_walk using ER
   rw[ak (by rw[al];lia)]
   try walk_at"w"
   refine kX c ?_;walk_at"w";rw[lM1]
   congr 1
   rw[bT,al,al];lia
  refine k.mono ?_;rintro p rfl;rw[ew];dsimp only;by_cases f:x<b.length
  ·rw[ah f,aj (show¬ (!true)=M by decide)];have g:b[x]?=Z b[x]:=gG1 f;have y:=hw.to h x b[x] ⟨b,c,g⟩;rw[g]at a;dsimp only at a;walk_at"w";refine kX c ?_;walk_at"w";refine ka (i:=x) (x:=pD b[x]) (by rw[gP1,g];rfl) ?_;rw[pD];walk_at"w";refine iL ?_;walk_at"w";refine⟨0,ps.map pD,O,O,?_⟩;refine(kY (n:=0) (xs:=ps.map pD) O).mpr ⟨ed (by rw[lM1];lia),?_⟩;refine .inl ⟨ps++[b[x]],b[x].1,_,_,by lia,by rw[lA1,o];rfl,y,?_,by rw[cx];rfl,O⟩;rw[a,bJ];rfl
  ·rw[ai f,ak (show(!false)=M from rfl)];rw[b6 (by lia)]at a;dsimp only at a;rw[aP]at a;walk_at"w";refine eE (n:=0) (xs:=ps.map pD) O ?_;refine .inr ⟨_,O,.inr ⟨_,O,?_⟩⟩;rw[a]
 ·rintro e S ⟨ps,h,s,q,hi,o,z,a,rfl,rfl⟩;dsimp only at a;rw[eX,bQ,List.drop_length,vk,aP]at a;refine .inl ⟨O,?_⟩;walk_at"w";refine eE (n:=0) (xs:=ps.map pD) O ?_;rw[a]
theorem F1{w:d8}{ws:List Nat}(hw:fS m w)(hr:r<m)(d:ws.length<=100)(q:Q (oD (eL w r ws),S)):W (ea 3 t9 [webD w,.int r,.tup (ei ws)] S) Q:=by
 have c:D.unds 0 [webD w,.int r,.tup (ei ws)]=M:=by rw[D.unds,eP,D.unds,D.unds,D.und,D.und,fv];rfl
 obtain⟨e,h1,h2⟩:=wz (w:=w) (ws:=ws) (r:=r);refine g0 O c ?_;unfold t9;refine lh ?_;unfold EO;refine eU (λb V=>V=[]/\b=[Z (webD w),Z (.int r),Z (.tup (ei ws)),Z (.tup ((vk w r ws).map pD))]) ?_ ?_
 ·walk_at"w";refine g0 O c ((Cs hw hr d).mono ?_);rintro p h1;rw[h1];exact⟨by rw[D.und];exact fj λ_ _=>rfl,O,O⟩
 rintro b V ⟨rfl,rfl⟩;generalize vk w r ws=ps at *
 walk_at"w";rw[lM1,eX];split
 ·rename_i a;rw[h1 (by have:=N9 a;lia)]at q
  try walk_at"w"
  exact⟨O,q⟩
 ·rename_i a;rw[h2 (λz=>a (ah (by lia)))]at q;rcases dH ps with rfl|⟨l,x,rfl⟩
  ·wp_walk using mH
   exact⟨O,q⟩
  ·have t:mH [] (.tup ((l.concat x).map pD))=Z M:=by simp[mH,eg]
   wp_walk using t
   have g:ez (.tup ((l.concat x).map pD)) (.int (-1)) []=Z (pD x,[]):=by
    rw[dI,cx];show xi (.tup (l.map pD++[pD x])) (.int (-1)) []=_;unfold xi eg;simp[uQ]
   wp_walk using Bt,g
   refine HC ?_;have:uf r (l.concat x)=x.1:=by unfold uf;simp
   rw[this]at q;exact⟨O,q⟩
def uZ(L:List (Nat×List Nat)):d7:=[.dct (dF L),.lst (ei (L.map (·.1)))]
theorem zh{w:d8}(hw:fS m w)(E:0<m)(hm:m<=8)(q:∀ws:List (List Nat),Wlk m w ws->Q (.tup (kw ws),S)):W (ea 2 mO [webD w,.int 0] S) Q:=by
 refine g0 O (by rw[D.unds,eP,D.unds,D.und];rfl) ?_;unfold mO;refine lh ?_;unfold BQ;refine eU (λg V=>V=[.dct (dF [(0,[])])]/\g=[Z (webD w),Z (.int 0),Z (.ref 0),Y,Y,Y,Y,Y,Y]) ?_ ?_
 ·have e:wR [((mV 1),(fw d6))] [Z (webD w),Z (.int 0),Y,Y,Y,Y,Y,Y,Y] []=Z (.ref 0,[.dct (dF [(0,[])])]):=rfl
  wp_walk using e
 rintro g V ⟨rfl,rfl⟩;refine eU (λg V=>V=uZ [(0,[])]/\g=[Z (webD w),Z (.int 0),Z (.ref 0),Z (.ref 1),Y,Y,Y,Y,Y]) ?_ ?_
 ·walk_at"w";exact⟨O,trivial⟩
 rintro g V ⟨rfl,rfl⟩;refine eU (λg V=>V=uZ [(0,[])]/\g=[Z (webD w),Z (.int 0),Z (.ref 0),Z (.ref 1),Z (.int ((0:Nat):Int)),Y,Y,Y,Y]) ?_ ?_
 ·walk_at"w";rfl
 rintro g V ⟨rfl,rfl⟩;refine eU (λg V=>∃L a x4 R P ao N,BJ m w L a 0/\L.length<=a/\V=uZ L/\g=[Z (webD w),Z (.int 0),Z (.ref 0),Z (.ref 1),x4,R,P,ao,N]) ?_ ?_
 ·refine sV (λk g V=>∃L R P ao N,BJ m w L k 0/\V=uZ L/\g=[Z (webD w),Z (.int 0),Z (.ref 0),Z (.ref 1),Z (.int (k:Nat)),R,P,ao,N]) 8 ?_ 100000 0 _ _ (by lia) ⟨[(0,[])],_,_,_,_,⟨by simp,λp B=>by simp at B;subst B;exact E,O,λp B=>by simp at B;subst B;rfl,λi p h=>by cases i with|zero=>cases h;simp|succ i=>simp at h,λi d p e _ _ h=>by lia⟩,O,O⟩;rintro k g V ⟨L,R,P,ao,N,b,rfl,rfl⟩;have hLf:=b.few;unfold tQ;walk_at"w";refine eE (xs:=ei (L.map (·.1))) O ?_;walk_at"w";rw[eX,lM1];by_cases hlt:k<L.length
  ·rw[ak (by rw[al];lia)];refine⟨by lia,?_⟩;obtain⟨s,h0⟩:∃p,L[k]?=some p:=⟨_,gG1 hlt⟩;have hp0:=b.inn s (gM1 h0);obtain⟨t,r⟩:=k6 hw hp0;have hr4:=hw.le _ t r;unfold tP;refine eU (λg V=>V=uZ L/\g=[Z (webD w),Z (.int 0),Z (.ref 0),Z (.ref 1),Z (.int (k:Nat)),Z (.int (s.1:Nat)),P,ao,N]) ?_ ?_
   ·walk_at"w";refine nv (i:=k) (xs:=ei (L.map (·.1))) (x:=.int (s.1:Nat)) O (by rw[ei,gP1,gP1,h0];rfl) ?_;walk_at"w"
   rintro g V ⟨rfl,rfl⟩;refine eU (λg V=>∃l am I G,BJ m w l k t.length/\l[k]?=Z s/\V=uZ l/\g=[Z (webD w),Z (.int 0),Z (.ref 0),Z (.ref 1),Z (.int (k:Nat)),Z (.int (s.1:Nat)),am,I,G]) ?_ ?_
   ·unfold fz;rw[d9];refine pz (xs:=t.map pD) ?_ ?_
    ·obtain⟨p,e,rfl⟩:=kX (S:=uZ L) (Q:=λp=>p=(.tup (t.map pD),uZ L)) r O;simp only[d5,d6,m2,b2,mV,gC1,dk,oS1,e]
    refine e6 (λj g V=>∃l am I G,j<=t.length/\BJ m w l k j/\l[k]?=Z s/\V=uZ l/\g=[Z (webD w),Z (.int 0),Z (.ref 0),Z (.ref 1),Z (.int (k:Nat)),Z (.int (s.1:Nat)),am,I,G]) _ 0 _ _ ⟨L,_,_,_,by lia,b,h0,O,O⟩ (λ_ _ _ _=>rfl) ?_ ?_
    ·rintro j dd T g V ⟨l,am,I,G,hj,o,c,rfl,rfl⟩;rw[fZ,gP1]at T;obtain⟨z,hz,rfl⟩:=PD T;obtain⟨goal,A,rfl⟩:=PD hz;have hjlt:=(PB A).1;rw[bQ]at *
     have K:At w s.1 j goal:=⟨t,r,A⟩;have hLf':=o.few;have X:=ig o.nd (gM1 c);have wq:l≠[]:=λz=>by rw[z]at c;simp at c
     unfold pD;walk_at"w";unfold tR
     wp_walk using t0 (S:=uZ l) (n:=0) (F:=dF l) O
     by_cases y:goal.1∈l.map (·.1)
     ·obtain⟨p',hp',e'⟩:=PF y;have u:=ig o.nd hp';rw[e']at u;rw[u,aj (by simp)];exact⟨l,_,_,_,by lia,o.old c K y,c,O,O⟩
     ·rw[uc y,ak (by simp)]
      wp_walk using Be (S:=uZ l) (n:=0) (F:=dF l) O X
      have hpl:s.2.length<=8:=by
       have h1:=o.len k s c;have h2:=(PB c).1;lia
      refine⟨ed (by rw[eX];lia),?_⟩;rw[jc]
      ((try walk_at"w");repeat(simp only[zM (S:=uZ l) (n:=0) (v:=goal.1) (F:=dF l) (d:=.tup (ei (s.2++[j]))) O (by unfold dF;simpa using wq) (by unfold dF;rw[lM1];lia)];try walk_at"w"))
      rw[wD y];refine iL ?_;walk_at"w";refine⟨1,ei (l.map (·.1)),O,O,?_⟩;refine(kY (n:=1) (xs:=ei (l.map (·.1))) O).mpr ⟨ed (by rw[eX,lM1];lia),?_⟩;refine⟨l++[(goal.1,s.2++[j])],_,_,_,by lia,o.new c K (hw.to _ _ _ K) y,by rw[gL1 (PB c).1];exact c,?_,O⟩;unfold uZ;simp[ei]
    ·rintro g V ⟨l,am,I,G,hj,o,c,rfl,rfl⟩;rw[fY,lM1,bQ]at o;exact⟨O,l,_,_,_,o,c,O,O⟩
   rintro g V ⟨l,am,I,G,o,c,rfl,rfl⟩;refine W.of (x:=(.nx,[Z (webD w),Z (.int 0),Z (.ref 0),Z (.ref 1),Z (.int ((k+1:Nat):Int)),Z (.int (s.1:Nat)),am,I,G],uZ l)) O ?_;refine⟨O,l,_,_,_,_,⟨o.nd,o.inn,o.hd,o.ok,o.len,λi d p e h1 h2 h3=>o.cl i d p e h1 h2 ?_⟩,O,O⟩;rcases(show i<k\/i=k by lia)with h|rfl
   ·exact .inl h
   ·rw[c]at h1;cases h1;obtain⟨row',g1,g2⟩:=h2;rw[r]at g1;cases g1;exact .inr ⟨O,(PB g2).1⟩
  ·rw[aj (by rw[al];lia)];exact⟨L,k,_,_,_,_,_,b,by lia,O,O⟩
 rintro g V ⟨L,a,x4,R,P,ao,N,b,ha,rfl,rfl⟩;have U:∀v,∃x:List Nat,v<m->x.length<=8/\eL w 0 x=Z v/\ef (dF L) (Sum.inl (v:Int))=Z (.tup (ei x))/\(v=0->x=[]):=λv=>by
  by_cases au:v<m
  ·obtain⟨p,B,e⟩:=PF (b.all hw ha v au);have h1:=ig b.nd B;have h5:=b.ok p B;rw[e]at h1 h5;obtain⟨i,hi⟩:=bq B;have h2:=b.len i p hi;have h3:=(PB hi).1;have h4:=b.few;refine⟨p.2,λ_=>⟨by lia,h5,h1,λz=>?_⟩⟩;subst z;have h6:=ig b.nd (gM1 b.hd);dsimp only at h6;rw[h6]at h1;have h7:D.tup (ei []) = .tup (ei p.2):=by simpa using h1
   exact(vD h7).symm
  ·exact⟨[],λh=>(au h).elim⟩
 obtain⟨f,aq⟩:=Classical.axiomOfChoice U
 wp_walk using gH
 rw[hw.len];refine⟨eV (by lia),?_⟩;rw[jl,NH];refine jr (f:=λj:Nat=>D.int j) (λv=>D.tup (ei (f v))) (λg=>∃x,g=[x,Z (.ref 0)]) O (af m) _ ⟨_,O⟩ ?_ ?_
 ·rintro v au g ⟨x,rfl⟩;walk_at"w";refine W.of (x:=(.tup (ei (f v)),uZ L)) ?_ ⟨O,O,_,O⟩;have hk:=(aq v (aB.mp au)).2.2.1;show(Z ((ef (dF L) (Sum.inl (v:Int))).getD .non,uZ L))=_;rw[hk];rfl
 ·rintro g ⟨x,rfl⟩;refine⟨ed (by rw[lM1,dB];lia),?_⟩;walk_at"w";refine eE O ?_;refine⟨?_,?_⟩
  ·rw[D.und];exact Mi.fj λ_ _=>by rw[D.und];exact iP (fv _)
  ·have:=q ((OR m).map f) ⟨by simp,fun x hx=>by
    obtain⟨v,au,rfl⟩:=PF hx;exact(aq v (aB.mp au)).1,by rw[gP1,dA E,oP1,(aq 0 E).2.2.2 O],λv x h=>by
    rw[gP1]at h;obtain⟨v',H,rfl⟩:=PD h;have C:=(PB H).1;rw[dB]at C;rw[dA C]at H;cases H;exact(aq v C).2.1⟩
   unfold kw at this;rw[bv]at this;exact this
theorem wb{T:Ty}{m:FE}{r:Ev}:W (nC T m r S) Q↔W (m r S) λp=>W (vN p.2 T p.1) λb=>Q (.bl b,p.2):=by
 unfold nC;rw[d9];simp only[j9]
theorem Bf{T:Ty}{xs:List D}:vN S T (.tup xs)=Z (decide (T = .tuple)):=rfl
theorem He{T:Ty}{i:Int}:vN S T (.int i)=Z (decide (T = .int)):=rfl
theorem HG{xs:List D}{f:D->Bool}(h:S[n]?=Z (.lst (xs.map λx=>.bl (f x))))(q:Q (.bl (xs.all f),S)):W (mX (.ref n) S) Q:=by
 refine W.of ?_ q;unfold mX;rw[gP h,oS1];dsimp only;rw[j7];rfl
theorem Gf{o:Option Nat}(hd:∀v,o=Z v->v<m)(q:Q (.bl o.isSome,S)):W (ea 2 iz [oD o,.int m] S) Q:=by
 refine g0 O (by rw[D.unds,vB];rfl) ?_;cases o with
 |none=>exact⟨(.bl J,[]),O,O,q⟩
 |some e=>
  have a:=hd e O;have h1:ea 1 jg [.int e] []=Z (.bl M,[]):=rfl;unfold iz;refine lh ?_;unfold pr oD
  wp_walk using h1,ER
  rw[ak (by rw[al];lia)]
  try walk_at"w"
  rw[ah (show(e:Int)<(m:Int) by lia)];exact⟨O,q⟩
theorem sA{w:d8}:D.unds 0 (ws.map λx=>oD (eL w r x))=M:=fj λx _=>vB _
def Og(w:d8)(ws:List (List Nat))(r:Nat):Prop:=(∀x∈ws,(eL w r x).isSome=M)/\(cnd w ws r).Nodup
theorem Ab{w:d8}(hw:fS m w)(hm:m<=8)(hk:Wlk m w ws)(hr:r<m)(q:Q (.bl (tf (Og w ws r)),S)):W (ea 2 ix [webD w,.tup (ws.map λx=>oD (eL w r x))] S) Q:=by
 refine g0 O (by rw[D.unds,eP,D.unds,D.und,sA];rfl) ?_;unfold ix;refine lh ?_;unfold pk;have h1:ea 2 fL [.tup (ws.map λx=>oD (eL w r x)),.int w.length] []=Z (.bl M,[]):=by
  refine qu (S1:=[]) ?_ O (by rw[D.unds,D.und,sA];rfl) O;have:W (fL [.tup (ws.map λx=>oD (eL w r x)),.int w.length] []) λp=>p=(.bl M,[]):=by
   unfold fL;refine lh ?_;unfold kT
   wp_walk using wb,Bf
   rw[lM1,hk.len,hw.len];simp
  obtain⟨p,e,rfl⟩:=this;exact e
 wp_walk using gH,h1
 rw[i9];refine jr (f:=λx=>oD (eL w r x)) (λx=>.bl (eL w r x).isSome) (λr=>∃x,r=[x,Z (webD w)]) O ws _ ⟨_,O⟩ ?_ ?_
 ·rintro x b d ⟨y,rfl⟩
  wp_walk using gH
  rw[hw.len];refine Gf (λv g=>r6 hw hr g) ?_;exact⟨O,O,_,O⟩
 ·rintro d _;refine ⟨ed (by rw [lM1,hk.len];lia),?_⟩;walk_at"w";have c:mX (.ref 0) [.lst (ws.map fun x=>D.bl (eL w r x).isSome)]=some (.bl (ws.all fun x=>(eL w r x).isSome),[.lst (ws.map fun x=>D.bl (eL w r x).isSome)]):=by
   simp only[mX,eg,dk,oS1,j7,oP1]
  refine W.of c ?_;walk_at"w";cases hall:ws.all λx=>(eL w r x).isSome with
  |false=>
   walk_at"w";rw[re (λh=>by rw[bD.mpr h.1]at hall;cases hall)]at q;exact⟨O,q⟩
  |true=>
   have a:=bD.mp hall;have i:(ws.any λx=>(eL w r x).isNone)=J:=by
    rw[aN];intro x b;have:=a x b;cases h:eL w r x with
    |none=>rw[h]at this;cases this
    |some v=>intro z;cases z
   rw[mM i,show(ws.map λx=>(eL w r x).getD 0)=cnd w ws r from rfl];walk_at"w";refine zj (by unfold cnd;rw[lM1,hk.len];lia) ?_;walk_at"w";rw[HX (show Og w ws r↔(cnd w ws r).Nodup from⟨λh=>h.2,λh=>⟨a,h⟩⟩)]at q;exact⟨O,q⟩
theorem CN{w:d8}(hw:fS m w)(b:0<m)(hm:m<=8)(hk:Wlk m w ws)(hr:r<m)(q:Q (.bl (tf (Gd m w ws r)),S)):W (ea 2 iZ [webD w,.tup (ws.map λx=>oD (eL w r x))] S) Q:=by
 refine g0 O (by rw[D.unds,eP,D.unds,D.und,sA];rfl) ?_;unfold iZ;refine lh ?_;unfold qM;walk_at"w";refine Ab hw hm hk hr ?_;walk_at"w";by_cases a:Og w ws r
 ·rw [xV a];have k:(ws.any fun x=>(eL w r x).isNone)=false:=by
   rw[aN];intro x l;have:=a.1 x l;cases h:eL w r x with
   |none=>rw[h]at this;cases this
   |some v=>intro z;cases z
  rw[mM k,show(ws.map λx=>(eL w r x).getD 0)=cnd w ws r from rfl];have g:(cnd w ws r).length=m:=by unfold cnd;rw[lM1];exact hk.len
  have d:=vV (ws:=ws) hw b hr
  wp_walk using gH
  rw[hw.len];refine⟨eV (by lia),?_⟩;rw[NH,jl];refine jr (f:=λi:Nat=>D.int i) (λi=>.bl (tf (Car w (cnd w ws r) i))) (λc=>∃x,c=[x,Z (webD w),Z (.tup (ei (cnd w ws r)))]) O (af m) _ ⟨_,O⟩ ?_ ?_
  ·rintro i hi c ⟨x,rfl⟩;walk_at"w";refine yK hw b g d (aB.mp hi) ?_;exact⟨O,O,_,O⟩
  ·rintro c _;refine ⟨ed (by rw [lM1,dB];lia),?_⟩;walk_at"w";have j:mX (.ref 0) [.lst ((OR m).map fun i=>D.bl (tf (Car w (cnd w ws r) i)))]=some (.bl ((OR m).all fun i=>tf (Car w (cnd w ws r) i)),[.lst ((OR m).map fun i=>D.bl (tf (Car w (cnd w ws r) i)))]):=by
    simp only[mX,eg,dk,oS1,j7,oP1]
   refine W.of j ?_;walk_at"w";have e:((af m).all λi=>tf (Car w (cnd w ws r) i))=tf (Gd m w ws r):=vi (by
    rw[bD];exact⟨λh=>⟨a.1,a.2,λi hi=>rf.mp (h i (aB.mpr hi))⟩,λh i hi=>xV (h.2.2 i (aB.mp hi))⟩)
   rw[e];exact⟨O,q⟩
 ·rw[re a];rw[re (λh=>a ⟨h.1,h.2.1⟩)]at q;walk_at"w";exact⟨O,q⟩
theorem Cn{w:d8}(hw:fS m w)(n:0<m)(hm:m<=8)(q:∀ws,Wlk m w ws->Q (.tup (gw m w ws m),S)):W (ea 1 l6 [webD w] S) Q:=by
 refine g0 O (by rw[D.unds,eP];rfl) ?_;unfold l6;refine lh ?_;unfold xC;refine eU (λr V=>∃ws,Wlk m w ws/\V=[]/\r=[Z (webD w),Z (.tup (kw ws)),Y]) ?_ ?_
 ·walk_at"w";refine zh hw n hm λws l=>?_;exact⟨ws,l,O,O⟩
 rintro r V ⟨ws,l,rfl,rfl⟩;refine eU (λr V=>∃G:d7,V=G++[.lst ((af m).map λi=>D.tup (ws.map λx=>oD (eL w i x)))]/\r=[Z (webD w),Z (.tup (kw ws)),Z (.ref G.length)]) ?_ ?_
 ·wp_walk using gH
  rw[hw.len];refine⟨eV (by lia),?_⟩;rw[NH];refine gm (λi b r S=>i<=m/\(∃x,r=[x,Z (.tup (kw ws)),Z (webD w)])/\b=(af i).map λi=>D.tup (ws.map λx=>oD (eL w i x))) (gb 0 m) 0 [] _ _ ⟨by lia,⟨_,O⟩,O⟩ (λ_ _ _ _ _=>rfl) ?_ ?_
  ·rintro i d a b r S ⟨hi,⟨x,rfl⟩,rfl⟩;have c:=(PB a).1;rw[eM]at c;rw[jl,gP1,dA c]at a;cases a;rw[bQ]at *
   walk_at"w";unfold kw;rw[i9];refine jr (f:=λx:List Nat=>D.tup (ei x)) (λx=>oD (eL w i x)) (λr=>∃x,r=[x,Z (webD w),Z (.int (i:Nat))]) O ws _ ⟨_,O⟩ ?_ ?_
   ·rintro y p r ⟨x,rfl⟩;walk_at"w";refine F1 hw c (by have:=l.short y p;lia) ?_;exact⟨O,O,_,O⟩
   ·rintro u _;refine⟨ed (by rw[lM1,l.len];lia),?_⟩;walk_at"w";refine eE (by rw[ee];rfl) ?_;refine⟨by lia,⟨_,O⟩,?_⟩;rw[List.range_succ,cx];rfl
  ·rintro xs r S ⟨hi,⟨x,rfl⟩,e⟩;rw[cW,eM,bQ]at e;subst e;refine⟨ed (by rw[lM1,dB];lia),?_⟩;walk_at"w";exact⟨S,O,O⟩
 rintro r V ⟨G,rfl,rfl⟩;have o:(G++[Ob.lst ((af m).map λi=>D.tup (ws.map λx=>oD (eL w i x)))])[G.length]?=Z (.lst ((af m).map λi=>D.tup (ws.map λx=>oD (eL w i x)))):=by rw[ee];rfl
 walk_at"w";refine eE o ?_;refine gm (λi b r S=>i<=m/\S=G++[.lst ((af m).map λi=>D.tup (ws.map λx=>oD (eL w i x)))]/\(∃x,r=[x,Z (webD w)])/\b=gw m w ws i) _ 0 [] _ _ ⟨by lia,O,⟨_,O⟩,O⟩ ?_ ?_ ?_
 ·rintro i b r S ⟨_,rfl,_⟩;exact fm o
 ·rintro i d a b r S ⟨hi,rfl,⟨x,rfl⟩,rfl⟩;dsimp only at a;rw[gP1]at a;obtain⟨A,j,rfl⟩:=PD a;have g:=(PB j).1;rw[dB]at g;rw[dA g]at j;cases j;rw[bQ]at *
  walk_at"w";refine CN hw n hm l g ?_;walk_at"w";cases hgd:tf (Gd m w ws i)with
  |false=>
   rw[aj (by decide)];refine⟨by lia,⟨_,O⟩,?_⟩;rw[lr,hgd,aj (by decide),aP]
  |true=>
   rw[ak O];refine⟨by lia,⟨_,O⟩,?_⟩;have s:(ws.any λx=>(eL w i x).isNone)=J:=by
    rw[aN];intro x t;have:=(rf.mp hgd).1 x t;cases h:eL w i x with
    |none=>rw[h]at this;cases this
    |some v=>intro z;cases z
   rw[lr,hgd,ak O,mM s];rfl
 ·rintro xs r S ⟨hi,rfl,⟨x,rfl⟩,e⟩;dsimp only at e;rw[cW,lM1,dB,bQ]at e;subst e;have B:=lw (m:=m) (k:=m) (w:=w) (ws:=ws);refine⟨ed (by dsimp only;lia),?_⟩;walk_at"w";refine eE (xs:=gw m w ws m) (by first|(rw[fJ];rfl)|(rw[ee];rfl)|simp) ?_;exact⟨by rw[D.und];exact q9,q ws l⟩
theorem wh:∀xs:List D,xL xs xs=xs.map λx=>D.tup [x,x]
 |[]=>rfl
 |x::xs=>by rw[xL,wh xs];rfl
theorem JI{m:FA}{r:Ev}{xs ys:List D}{Q:yQ×d7->Prop}(hm:m r S=Z ([.tup xs,.tup ys],S))(q:Q (⟨xL xs ys,[]⟩,S)):W (Jg m r S) Q:=by
 refine W.of ?_ q;unfold Jg;rw[hm];rfl
theorem zO(n:Nat)(i:Int)(S:d7):W (fx (n+1) [.int i,.int i] S) λp=>p=(.bl M,S):=by
 rw[fx];refine lh ?_;unfold g8
 wp_walk using wb,He
 simp only[reduceCtorEq,O4,O3,OB];walk_at"w"
def hK(xs:List Nat):List Nat:=(jB (xs.map λ(r:Nat)=>(r:Int))).map Int.toNat
theorem k4(xs:List Nat):(hK xs).Perm xs:=by
 have:=(fI (xs.map λ(r:Nat)=>(r:Int))).map Int.toNat
 rw[bv]at this;have e:(Int.toNat∘λ(r:Nat)=>(r:Int))=id:=by funext x;simp
 rw[e,di]at this;exact this
theorem zF(xs:List Nat):(jB (xs.map λ(r:Nat)=>(r:Int))).map D.int=ei (hK xs):=by
 unfold ei hK;rw[bv];refine de λi hi=>?_;obtain⟨x,_,rfl⟩:=PF ((fI _).mem_iff.mp hi);rfl
theorem vn{ys:List Nat}(h:xs.Perm ys):hK xs=hK ys:=by
 unfold hK;rw[nN (((fI _).trans (h.map _)).trans (fI _).symm) (iQ _) (iQ _)]
theorem Bi(xs:List Nat):nk (ei xs)=Z (xs.map λ(r:Nat)=>(r:Int)):=by
 induction xs with
 |nil=>rfl
 |cons x xs ih=>
  show(nk (ei xs)).map _=_;rw[ih];rfl
theorem xG(h:S[n]?=Z (.lst (ei xs)))(a:xs.length<64)(q:Q (.ref S.length,S++[.lst (ei (hK xs))])):W (gI (.ref n) S) Q:=by
 refine W.of ?_ q;unfold gI;rw[gP h];dsimp only;rw[Bi];dsimp only;rw[ak (by rw[lM1];exact a),zF]
noncomputable def app(t rs:List Nat):List Nat:=rs.map λr=>t.getD r 0
theorem BG{t:List Nat}{k:Nat}{r:Ev}{Q:List D×Ev×d7->Prop}(hr:∀x∈rs,x<t.length)(hk:r=[Y,Z (.tup (ei t))])(q:∀a,Q (ei (app t rs),a,S)):W (fM [] (gN 0) fu (eR (m2 (b2 ez) (mV 1) (mV 0))) (ei rs) r S) Q:=by
 subst hk;have e:ei (app t rs)=rs.map λx=>D.int (t.getD x 0:Nat):=by unfold ei app;rw[bv];rfl
 rw[e]at q;refine jr (f:=λi:Nat=>D.int i) (λx=>D.int (t.getD x 0:Nat)) (λa=>∃x,a=[x,Z (.tup (ei t))]) O rs _ ⟨_,O⟩ ?_ λa _=>q a;rintro x b a ⟨y,rfl⟩;walk_at"w";refine uU (hr x b) ?_;exact⟨O,O,_,O⟩
theorem mE{t:List Nat}:(app t rs).length=rs.length:=by unfold app;rw[lM1]
theorem zn{t:List Nat}(hr:∀x∈rs,x<t.length)(b:rs.length<=8)(q:Q (.tup (ei (hK (app t rs))),S)):W (ea 2 jT [.tup (ei t),.tup (ei rs)] S) Q:=by
 refine g0 O (by rw[D.unds,D.unds,D.und,D.und,fv,fv];rfl) ?_;unfold jT;refine lh ?_;unfold uP;walk_at"w";rw[i9];refine BG (k:=0) hr O λa=>?_;refine⟨ed (by rw[eX,mE];lia),?_⟩;walk_at"w";refine xG (n:=0) (xs:=app t rs) O (by rw[mE];lia) ?_;walk_at"w";refine eE (n:=1) O ?_;exact⟨by rw[D.und,fv],q⟩
theorem HW(hr:∀x∈rs,x<a.length):hK (app b (hK (app a rs)))=hK (app (app b a) rs):=by
 have e:app (app b a) rs=app b (app a rs):=by
  unfold app;rw[bv];refine de λx c=>?_;have:=hr x c;simp[bM,this]
 rw[e];exact vn ((k4 _).map _)
theorem tm(n:Nat)(xs:List D)(i:xs.length<=10000)(g:D.unds 0 xs=M)(hx:∀x∈xs,W (fx n [x,x] []) λp=>p.1 = .bl M):W (fx (n+1) [.tup xs,.tup xs] []) λp=>p.1 = .bl M:=by
 rw[fx];refine lh ?_;unfold g8
 wp_walk using wb,Bf
 simp only[reduceCtorEq,O4,O3,OB];walk_at"w";refine JI (xs:=xs) (ys:=xs) O ?_;rw[wh];refine jr (f:=λx=>D.tup [x,x]) (λ_=>D.bl M) (λb=>∃d c,b=[d,c]) O xs _ ⟨_,_,O⟩ ?_ ?_
 ·rintro x a b ⟨d,c,rfl⟩;have e:x.und 0=M:=gU g a;walk_at"w";refine g0 O (by rw[D.unds,D.unds,e];rfl) ?_;refine(hx x a).mono λp h=>?_;rw[h];exact⟨O,O,O,_,_,O⟩
 ·rintro b ⟨d,c,rfl⟩;refine⟨ed (by rw[lM1];lia),?_⟩;walk_at"w";refine HG (n:=0) (xs:=xs) (f:=λ_=>M) O ?_;walk_at"w";simp
noncomputable def lx:List Nat->List Nat->Bool
 |_,[]=>J
 |[],_::_=>M
 |x::xs,y::ys=>decide (x<y)||(decide (x=y)&&lx xs ys)
theorem oH:∀a:List Nat,lx a a=J
 |[]=>rfl
 |x::xs=>by rw[lx,oH xs];simp
theorem wT:∀{a b c:List Nat},lx a b=M->lx b c=M->lx a c=M
 |_,[],_,h,_=>by simp[lx]at h
 |_,_::_,[],_,h=>by simp[lx]at h
 |[],_::_,_::_,_,_=>rfl
 |x::xs,y::ys,z::zs,h,g=>by
  simp only[lx,bR,bA1,al]at h g ⊢;rcases h with h|⟨rfl,h⟩
  ·rcases g with g|⟨rfl,_⟩
   ·exact .inl (by lia)
   ·exact .inl h
  ·rcases g with g|⟨rfl,g⟩
   ·exact .inl g
   ·exact .inr ⟨O,wT h g⟩
theorem rZ:∀{a b:List Nat},lx a b=J->lx b a=J->a=b
 |[],[],_,_=>rfl
 |[],_::_,h,_=>by simp[lx]at h
 |_::_,[],_,h=>by simp[lx]at h
 |x::xs,y::ys,h,g=>by
  simp only[lx,dg,Bool.and_eq_false_iff,decide_eq_false_iff_not]at h g;have e:x=y:=by lia
  subst e;have h2:lx xs ys=J:=h.2.resolve_left λz=>z O;have c:lx ys xs=J:=g.2.resolve_left λz=>z O;rw[rZ h2 c]
theorem Br{S:d7}{n:Nat}:∀a b:List Nat,Hh (hL S (n+1)) (ei a) (ei b)=Z (!lx a b)
 |[],[]=>rfl
 |[],_::_=>rfl
 |_::_,[]=>rfl
 |x::xs,y::ys=>by
  show((Z ((x:Int) == (y:Int))).bind λb=>if b=M then Hh (hL S (n+1)) (ei xs) (ei ys)else Z (decide ((y:Int)<=x)))=_;rw[oS1,lx];by_cases e:x=y
  ·subst e;rw[ak (by simp),Br xs ys];simp
  ·rw[aj (by simp;lia)];refine congrArg Z ?_;rw[bT];simp[e]
theorem Jm:D9 (.tup (ei a)) (.tup (ei b)) S=Z (.bl (!lx a b),S):=by
 show(Hh (hL S (58+1)) (ei a) (ei b)).map _=_;rw[Br];rfl
theorem AZ{S:d7}{n:Nat}:∀a b:List Nat,vJ (hL S (n+1)) (k7 S (n+1)) (ei a) (ei b)=Z (lx a b)
 |[],[]=>rfl
 |[],_::_=>rfl
 |_::_,[]=>rfl
 |x::xs,y::ys=>by
  show((Z ((x:Int) == (y:Int))).bind λb=>if b=M then vJ (hL S (n+1)) (k7 S (n+1)) (ei xs) (ei ys)else Z (decide ((x:Int)<y)))=_;rw[oS1,lx];by_cases e:x=y
  ·subst e;rw[ak (by simp),AZ xs ys];simp
  ·rw[aj (by simp;lia)];refine congrArg Z ?_;rw[bT];simp[e]
theorem AY:k7 S (n+2) (.tup (ei a)) (.tup (ei b))=Z (lx a b):=by
 show vJ (hL S (n+1)) (k7 S (n+1)) (ei a) (ei b)=_;exact AZ a b
theorem sF{bt:Nat->Nat->Bool}(a:∀i,bt i i=J)(c:∀i j k,bt i j=M->bt j k=M->bt i k=M):∀k:Nat,Pu bt k<=k /\ ∀j,j<=k->bt j (Pu bt k)=J
 |0=>⟨nR1 _,λj b=>by
  rw[show j=0 by lia];exact a 0⟩
 |k+1=>by
  obtain⟨h1,h2⟩:=sF a c k;rw[Pu];cases hb:bt (k+1) (Pu bt k)with
  |true=>
   rw[ak O];refine⟨nR1 _,λj b=>?_⟩;by_cases e:j=k+1
   ·rw[e];exact a _
   ·refine dh.mpr λz=>?_;have:=c _ _ _ z hb;rw[h2 j (by lia)]at this;cases this
  |false=>
   rw[aj (by decide)];refine⟨by lia,λj b=>?_⟩;by_cases e:j=k+1
   ·rw[e];exact hb
   ·exact h2 j (by lia)
theorem Do(h:S[n]?=Z (.lst (ts.map λt=>.tup (ei t))))(l:0<ts.length):∃t∈ts,(∀u∈ts,lx u t=J)/\uu (.ref n) S=Z (.tup (ei t),S):=by
 have e:∀i,i<ts.length->(ts.map λt=>D.tup (ei t)).getD i .non = .tup (ei (ts.getD i [])):=λi hi=>by
  rw[bM,bM,gP1,gG1 hi];rfl
 have d:∀k,k<ts.length->Pu (λi j=>k7 S 51 ((ts.map λt=>D.tup (ei t)).getD i .non) ((ts.map λt=>D.tup (ei t)).getD j .non) == Z M) k=Pu (λi j=>lx (ts.getD i []) (ts.getD j [])) k:=by
  intro k
  induction k with
  |zero=>intro _;rfl
  |succ k ih=>
   intro o;have hi:=ih (by lia);have:=(sF (bt:=λi j=>lx (ts.getD i []) (ts.getD j [])) (λi=>oH _) (λi j k a b=>wT a b) k).1;rw[Pu,Pu,hi,e _ o,e _ (by lia),show(51:Nat)=49+2 from rfl,AY];cases lx (ts.getD (k+1) []) (ts.getD (Pu (λi j=>lx (ts.getD i []) (ts.getD j [])) k) [])<;>rfl
 obtain⟨b1,b2⟩:=sF (bt:=λi j=>lx (ts.getD i []) (ts.getD j [])) (λi=>oH _) (λi j k a b=>wT a b) (ts.length-1);have c:Pu (λi j=>lx (ts.getD i []) (ts.getD j [])) (ts.length-1)<ts.length:=by lia
 have f:∀i,(hi:i<ts.length)->ts.getD i []=ts[i]:=λi hi=>by rw[bM,gG1 hi];rfl
 refine⟨_,(f _ c) ▸ bV c,λu m=>?_,?_⟩
 ·obtain⟨i,hi,rfl⟩:=List.getElem_of_mem m;rw[<- f i hi];exact b2 i (by lia)
 ·unfold uu;rw[gP h];dsimp only;rw[ak,lM1,d _ (by lia),e _ c];rw[bA1,al,lM1];refine⟨l,?_⟩;rw[bD];intro a g;rw[bD];intro b d;obtain⟨x,_,rfl⟩:=PF g;obtain⟨y,_,rfl⟩:=PF d;rw[show(51:Nat)=49+2 from rfl,AY];rfl
structure Ris (m k:Nat)(s:List Nat):Prop where
 len:s.length=k
 up:s.Pairwise (· < ·)
 lt:∀x∈s,x<m
noncomputable def lo(s:List Nat):Nat:=match s.getLast? with
 |none=>0
 |some x=>x+1
def ext(b:Nat)(s:List Nat):List (List Nat):=(af (b-lo s)).map λj=>s++[lo s+j]
def ft(b:Nat):Nat->List (List Nat)
 |0=>[[]]
 |k+1=>(ft b k).flatMap (ext b)
theorem nJ{x:Nat}:(s++[x]).Pairwise (· < ·)↔s.Pairwise (· < ·)/\lo s<=x:=by
 rw[cE];refine⟨λh=>⟨h.1,?_⟩,λh=>⟨h.1,cb _ _,λa d b f=>?_⟩⟩
 ·unfold lo;cases e:s.getLast? with
  |none=>exact bj _
  |some y=>exact h.2.2 y (List.mem_of_getLast? e) x (cA.mpr O)
 ·rw[cA]at f;subst f;have h2:=h.2;rcases dH s with rfl|⟨l,y,rfl⟩
  ·cases d
  ·rw[dI]at *
   have e:lo (l++[y])=y+1:=by unfold lo;simp
   rw[e]at h2;rcases aG.mp d with c|c
   ·have:=(cE.mp h.1).2.2 a c y (cA.mpr O);lia
   ·rw[cA]at c;lia
theorem ik{b:Nat}:∀{k:Nat} {s:List Nat},s∈ft b k↔Ris b k s
 |0,s=>by
  rw[ft,cA];exact⟨λh=>by subst h;exact⟨O,.nil,λx a=>by cases a⟩,λh=>cs.mp h.len⟩
 |k+1,s=>by
  rw[ft,List.mem_flatMap];constructor
  ·rintro⟨t,f,d⟩;obtain⟨h1,h2,c⟩:=ik.mp f;unfold ext at d;obtain⟨j,g,rfl⟩:=PF d;rw[aB]at g;refine⟨by rw[lA1,h1];rfl,nJ.mpr ⟨h2,by lia⟩,λx a=>?_⟩;rcases aG.mp a with a|a
   ·exact c x a
   ·rw[cA]at a;lia
  ·rintro⟨h1,h2,c⟩;rcases dH s with rfl|⟨l,y,rfl⟩
   ·cases h1
   ·rw[dI]at *
    obtain⟨e,m⟩:=nJ.mp h2;have i:=c y (by simp);refine⟨l,ik.mpr ⟨by rw[lA1]at h1;simpa using h1,e,λx a=>c x (aH _ a)⟩,cg.mpr ⟨y-lo l,aB.mpr (by lia),by rw[show lo l+(y-lo l)=y by lia]⟩⟩
noncomputable def yS(s:List Nat):Nat:=s.foldl (λa x=>a*8+x) 0
theorem nU{x:Nat}:yS (s++[x])=yS s*8+x:=by unfold yS;rw[List.foldl_append];rfl
theorem lD{b:Nat}(hb:b<=8):∀k:Nat,(ft b k).Pairwise λx y=>yS x<yS y
 |0=>cb _ _
 |k+1=>by
  rw[ft,List.pairwise_flatMap];refine⟨λa _=>?_,(lD hb k).imp λ{x y} h a d c hc=>?_⟩
  ·unfold ext;rw[dt];refine List.pairwise_lt_range.imp λ{i j} h=>?_;rw[nU,nU];lia
  ·obtain⟨i,hi,rfl⟩:=PF d;obtain⟨j,e,rfl⟩:=PF hc;rw[aB]at hi e;rw[nU,nU];lia
theorem AW:∀{k:Nat} {a b:List Nat} {c d:Nat},a.length=k->b.length=k->(∀x∈a,x<8)->(∀x∈b,x<8)->(c<d->a.foldl (λa x=>a*8+x) c<b.foldl (λa x=>a*8+x) d)/\(c=d->lx a b=decide (a.foldl (λa x=>a*8+x) c<b.foldl (λa x=>a*8+x) d))
 |0,a,b,c,d,ha,hb,_,_=>by
  rw[cs.mp ha,cs.mp hb];exact⟨λh=>h,λh=>by subst h;simp[lx]⟩
 |k+1,[],b,c,d,ha,hb,_,_=>by cases ha
 |k+1,x::a,[],c,d,ha,hb,_,_=>by cases hb
 |k+1,x::a,y::b,c,d,ha,hb,h1,h2=>by
  have g:=h1 x mS1;have i:=h2 y mS1;have ih:=λ{c d}=>AW (k:=k) (a:=a) (b:=b) (c:=c) (d:=d) (by simpa using ha) (by simpa using hb) (λz e=>h1 z (mC1 _ e)) (λz e=>h2 z (mC1 _ e));have f:=λ{c d}=>AW (k:=k) (a:=b) (b:=a) (c:=c) (d:=d) (by simpa using hb) (by simpa using ha) (λz e=>h2 z (mC1 _ e)) (λz e=>h1 z (mC1 _ e));rw[ca,ca];refine⟨λh=>ih.1 (by lia),λh=>?_⟩;subst h;rw[lx];rcases Nat.lt_trichotomy x y with h|h|h
  ·rw[ah h,ah (ih.1 (by lia))];rfl
  ·subst h;rw[ai (az _),ah O,Bool.false_or,Bool.true_and,(ih (c:=c*8+x) (d:=c*8+x)).2 O]
  ·have:=(f (c:=c*8+y) (d:=c*8+x)).1 (by lia);rw[ai (by lia),ai (by lia),ai (by lia)];rfl
theorem Ris.lx{k:Nat}(hm:m<=8)(ha:Ris m k a)(hb:Ris m k b):Law.lx a b=decide (yS a<yS b):=
 (AW (k:=k) ha.len hb.len (λx c=>nL1 (ha.lt x c) hm) (λx c=>nL1 (hb.lt x c) hm)).2 O
theorem Ris.cd{k:Nat}(hm:m<=8)(ha:Ris m k a)(hb:Ris m k b)(e:yS a=yS b):a=b:=
 rZ (by rw[ha.lx hm hb,e];simp) (by rw[hb.lx hm ha,e];simp)
theorem Ris.uniq{k:Nat}(ha:Ris m k a)(hb:Ris m k b)(h:a.Perm b):a=b:=h.eq_of_pairwise (le:=(· < ·)) (λx y _ _ h1 h2=>(Nat.lt_asymm h1 h2).elim) ha.up hb.up
theorem x0{α:Type}{c:α->Nat}{as bs:List α}(ha:as.Pairwise λx y=>c x<c y)(hb:bs.Pairwise λx y=>c x<c y)(h:∀x,x∈as↔x∈bs):as=bs:=by
 have nd:∀{l:List α},l.Pairwise (λx y=>c x<c y)->l.Nodup:=λh=>h.imp λ{x y} h e=>by subst e;exact az _ h
 exact((List.perm_ext_iff_of_nodup (nd ha) (nd hb)).mpr h).eq_of_pairwise (le:=λx y=>c x<c y) (λx y _ _ h1 h2=>(Nat.lt_asymm h1 h2).elim) ha hb
noncomputable def eY(k:Nat):Nat->List (List Nat)
 |0=>[[]]
 |r+1=>eY k r++((eY k r).filter λs=>decide (s.length<k)).map λs=>s++[r]
theorem EJ(h:∀x∈s,x<r):lo s<=r:=by
 unfold lo;cases e:s.getLast? with
 |none=>exact bj _
 |some y=>exact h y (List.mem_of_getLast? e)
theorem iW{k:Nat}:∀{r:Nat} {s:List Nat},s∈eY k r↔s.length<=k/\s.Pairwise (· < ·) /\ ∀x∈s,x<r
 |0,s=>by
  rw[eY,cA];constructor
  ·rintro rfl;exact⟨bj _,.nil,λx a=>by cases a⟩
  ·rintro⟨_,_,h⟩;cases s with
   |nil=>rfl
   |cons x s=>exact(bA _ (h x mS1)).elim
 |r + 1,s=>by
  rw[eY,aG,cg];constructor
  ·rintro(h|⟨t,i,rfl⟩)
   ·obtain⟨h1,h2,b⟩:=iW.mp h;exact⟨h1,h2,λx a=>by have:=b x a;lia⟩
   ·obtain⟨d,f⟩:=aA.mp i;obtain⟨h1,h2,b⟩:=iW.mp d;rw[al]at f;refine⟨by rw[lA1];exact f,nJ.mpr ⟨h2,EJ b⟩,λx a=>?_⟩;rcases aG.mp a with a|a
    ·have:=b x a;lia
    ·rw[cA]at a;lia
  ·rintro⟨h1,h2,b⟩;by_cases c:r∈s
   ·rcases dH s with rfl|⟨l,y,rfl⟩
    ·cases c
    ·rw[dI]at *
     obtain⟨d,f⟩:=nJ.mp h2;have g:∀x∈l,x<y:=λx a=>(cE.mp h2).2.2 x a y (cA.mpr O);have j:=b y (by simp);have e:y=r:=by
      rcases aG.mp c with h|h
      ·have:=g r h;lia
      ·rw[cA]at h;exact h.symm
     subst e;rw[lA1]at h1;exact .inr ⟨l,aA.mpr ⟨iW.mpr ⟨bL h1,d,g⟩,ah h1⟩,O⟩
   ·refine .inl (iW.mpr ⟨h1,h2,λx a=>?_⟩);have:=b x a;have:x≠r:=λe=>c (e ▸ a);lia
theorem lF{k:Nat}:∀r:Nat,(eY k r).length<=2^r
 |0=>nR1 _
 |r+1=>by
  rw[eY,lA1,lM1,Nat.pow_succ];have h1:=lF (k:=k) r;have h2:=dr (λs=>decide (s.length<k)) (eY k r);lia
def iS(m k:Nat):List (List Nat):=(eY k m).filter λs=>s.length == k
theorem km{k:Nat}:s∈iS m k↔Ris m k s:=by
 unfold iS;rw[aA,iW,Pq];exact⟨λ⟨⟨_,h2,b⟩,a⟩=>⟨a,h2,b⟩,λh=>⟨⟨Nat.le_of_eq h.len,h.up,h.lt⟩,h.len⟩⟩
theorem mI{b:Nat}(hb:b<=8):∀k:Nat,(ft b k).length<=8^k
 |0=>nR1 _
 |k+1=>by
  rw[ft,List.length_flatMap];have:∀l:List (List Nat),(l.map λs=>(ext b s).length).sum<=l.length*8:=λl=>by
   induction l with
   |nil=>exact nR1 _
   |cons s l ih=>
    rw[mP1,List.sum_cons,lC1];have:(ext b s).length<=8:=by unfold ext;rw[lM1,dB];lia
    lia
  have h1:=this (ft b k);have h2:=mI hb k;rw[Nat.pow_succ];lia
theorem AV:∀{l:List (List Nat)},l≠[] -> ∃t∈l,∀u∈l,lx u t=J
 |[],h=>(h O).elim
 |[x],_=>⟨x,mS1,λu a=>by rw[cA]at a;subst a;exact oH _⟩
 |x::y::l,_=>by
  obtain⟨t,h1,h2⟩:=AV (l:=y::l) (List.cons_ne_nil _ _);cases hx:lx x t with
  |true=>
   refine⟨x,mS1,λu a=>?_⟩;rcases aF.mp a with rfl|a
   ·exact oH _
   ·refine dh.mpr λz=>?_;have:=wT z hx;rw[h2 u a]at this;cases this
  |false=>
   refine⟨t,mC1 _ h1,λu a=>?_⟩;rcases aF.mp a with rfl|a
   ·exact hx
   ·exact h2 u a
theorem vq{α β:Type}{R:α->β->Prop}:∀{l:List α} {l':List β},l.Nodup->(∀a∈l,∃b∈l',R a b)->(∀a∈l,∀e∈l,∀b,R a b->R e b->a=e)->l.length<=l'.length
 |[],_,_,_,_=>bj _
 |a :: l,l',nd,h,inj=>by
  rw[aQ]at nd;obtain⟨b,j,f⟩:=h a mS1;obtain⟨p,q,rfl⟩:=List.append_of_mem j;have:=vq (R:=R) (l:=l) (l':=p++q) nd.2 (λe d=>by
   obtain⟨k,g,c⟩:=h e (mC1 _ d);refine⟨k,?_,c⟩;rcases aG.mp g with h1|h1
   ·exact aH _ h1
   ·rcases aF.mp h1 with rfl|h1
    ·have:=inj a mS1 e (mC1 _ d) _ f c;subst this;exact(nd.1 d).elim
    ·exact mA1 _ h1) λx m y i b=>inj x (mC1 _ m) y (mC1 _ i) b
  rw[lA1]at this;rw[lC1,lA1,lC1];lia
abbrev ap(t:List Nat)(v:Nat):Nat:=t.getD v 0
structure Mp (m:Nat)(w w':d8)(t:List Nat):Prop where
 pm:t.Perm (af m)
 car:∀r,r<m->gz w' (ap t r)=(gz w r).map (oC t)
abbrev Tn(m:Nat)(w:d8)(t:List Nat):Prop:=Mp m w w t
theorem Mp.len{w a:d8}{t:List Nat}(h:Mp m w a t):t.length=m:=(ja h.pm).1
theorem Mp.nd{w a:d8}{t:List Nat}(h:Mp m w a t):t.Nodup:=(ja h.pm).2.2
theorem Mp.lt{v:Nat}{w a:d8}{t:List Nat}(h:Mp m w a t)(hm:0<m):ap t v<m:=nQ hm (ja h.pm).2.1
theorem nt{t:List Nat}{v:Nat}(h:v<t.length):t[v]?=Z (ap t v):=by
 unfold ap;rw[bM,gG1 h];rfl
theorem sH{t:List Nat}{f:Nat->Nat}{v:Nat}(h:v<t.length):ap (t.map f) v=f (ap t v):=by
 unfold ap;rw[bM,bM,gP1,gG1 h];rfl
theorem j6{v:Nat}(h:v<m):ap (af m) v=v:=by
 unfold ap;rw[bM,dA h];rfl
theorem BV(ha:a.length=m)(hb:b.length=m)(h:∀v,v<m->ap a v=ap b v):a=b:=by
 refine b5 λv=>?_;by_cases c:v<m
 ·rw[nt (by lia),nt (by lia),h v c]
 ·rw[b6 (by lia),b6 (by lia)]
theorem Mp.inj{u v:Nat}{w a:d8}{t:List Nat}(h:Mp m w a t)(b:u<m)(hv:v<m)(e:ap t u=ap t v):u=v:=by
 have h1:=nt (t:=t) (v:=u) (by rw[h.len];exact b);have h2:=nt (t:=t) (v:=v) (by rw[h.len];exact hv);rw[e]at h1;obtain⟨f,d⟩:=PB h1;obtain⟨g,c⟩:=PB h2;exact(aI h.nd).mp (d.trans c.symm)
theorem Mp.led{m:Nat}{w:d8}{t:List Nat}(hw:fS m w)(h:Tn m w t):∀{x:List Nat} {r v:Nat},r<m->eL w r x=Z v->eL w (ap t r) x=Z (ap t v)
 |[],r,v,_,e=>by rw[eL]at e;cases e;rfl
 |d::x,r,v,hr,e=>by
  rw[eL]at e;cases hd:(gz w r)[d]? with
  |none=>rw[hd]at e;cases e
  |some p=>
   rw[hd]at e;have hc:=h.car r hr;rw[eL,hc,gP1,hd];exact h.led hw (x:=x) (hw.to r d p (kk hd)) e
theorem Mp.gd{w:d8}{t:List Nat}(hw:fS m w)(c:0<m)(h:Tn m w t)(hk:Wlk m w ws):cnd w ws (ap t 0)=t/\Gd m w ws (ap t 0):=by
 have a:∀(v:Nat) (x:List Nat),ws[v]?=Z x->eL w (ap t 0) x=Z (ap t v):=λv x e=>h.led hw c (hk.to v x e);have f:cnd w ws (ap t 0)=t:=by
  refine BV (m:=m) (by unfold cnd;rw[lM1];exact hk.len) h.len λv d=>?_;obtain⟨x,b⟩:∃x,ws[v]?=some x:=⟨_,gG1 (by rw[hk.len];exact d)⟩;have:=a v x b;show(ws.map _).getD v 0=_;rw[bM,gP1,b];simp only[oP1,b9,this]
 refine⟨f,λx b=>?_,by rw[f];exact h.nd,by rw[f];exact h.car⟩;obtain⟨v,d⟩:=bq b;rw[a v x d];rfl
theorem Gd.tn{w:d8}(hw:fS m w)(a:0<m)(hr:r<m)(hk:Wlk m w ws)(h:Gd m w ws r):Tn m w (cnd w ws r):=
 ⟨rF (by unfold cnd;rw[lM1];exact hk.len) (vV hw a hr) h.2.1,h.2.2⟩
def Eu(m:Nat)(w:d8)(ws:List (List Nat)):List (List Nat):=(trs m w ws m).map (cnd w ws)
theorem wt{w:d8}:gw m w ws m=(Eu m w ws).map λt=>.tup (ei t):=by unfold gw Eu;rw[bv];rfl
theorem vG{w:d8}{t:List Nat}(hw:fS m w)(a:0<m)(hk:Wlk m w ws):t∈Eu m w ws↔Tn m w t:=by
 unfold Eu trs;rw[cg];constructor
 ·rintro⟨r,b,rfl⟩;obtain⟨h1,h2⟩:=aA.mp b;exact(rf.mp h2).tn hw a (aB.mp h1) hk
 ·intro h;obtain⟨e,g⟩:=h.gd hw a hk;exact⟨ap t 0,aA.mpr ⟨aB.mpr (h.lt a),xV g⟩,e⟩
theorem Mp.id{w:d8}(hw:fS m w):Tn m w (af m):=by
 refine⟨.refl _,λr a=>?_⟩;rw[j6 a];have:(gz w r).map (oC (af m))=(gz w r).map _root_.id:=de λe b=>by
  obtain⟨d,c⟩:=bq b;have:=hw.to r d e (kk c);show(ap (af m) e.1,e.2)=e;rw[j6 this]
 rw[this,di]
theorem rT{t:List Nat}{f:Nat->Nat}(h:t.Nodup)(b:∀x∈t,x<m)(hf:∀x y,x<m->y<m->f x=f y->x=y):(t.map f).Nodup:=by
 rw[dD,dt];exact Pz (λ{x y} c d a e=>a (hf x y (b x c) (b y d) e)) h
theorem Mp.comp{w f g:d8}{t:List Nat}(hw:fS m w)(a:0<m)(hs:Mp m f g s)(ht:Mp m w f t):Mp m w g (t.map (ap s)):=by
 have c:=ht.len;refine⟨rF (by rw[lM1];exact c) (λx b=>?_) (rT ht.nd (ja ht.pm).2.1 λx y b i e=>hs.inj b i e),λr h=>?_⟩
 ·obtain⟨y,_,rfl⟩:=PF b;exact hs.lt a
 ·rw[sH (by lia),hs.car (ap t r) (ht.lt a),ht.car r h,bv];refine de λe k=>?_;obtain⟨d,j⟩:=bq k;have:=hw.to r d e (kk j);show(ap s (ap t e.1),e.2)=(ap (t.map (ap s)) e.1,e.2);rw[sH (by lia)]
noncomputable def um(m:Nat)(t:List Nat):List Nat:=(af m).map λv=>t.idxOf v
theorem v3{v:Nat}{t:List Nat}(hv:v<m):ap (um m t) v=t.idxOf v:=by
 unfold um;rw[sH (by rw[dB];exact hv),j6 hv]
theorem Mp.inv1{v:Nat}{w b:d8}{t:List Nat}(h:Mp m w b t)(hv:v<m):ap t (t.idxOf v)=v/\t.idxOf v<m:=by
 have c:v∈t:=h.pm.mem_iff.mpr (aB.mpr hv);have a:=List.idxOf_lt_length_of_mem c;refine⟨?_,by rw[<- h.len];exact a⟩;unfold ap;rw[bM,gG1 a,b9,List.getElem_idxOf]
theorem Mp.inv2{u:Nat}{w b:d8}{t:List Nat}(h:Mp m w b t)(a:0<m)(c:u<m):t.idxOf (ap t u)=u:=by
 have:=h.inv1 (v:=ap t u) (h.lt a);exact h.inj this.2 c this.1
theorem Mp.inv{w i:d8}{t:List Nat}(hw:fS m w)(a:0<m)(h:Mp m w i t):Mp m i w (um m t):=by
 refine⟨rF (by unfold um;rw[lM1,dB]) (λx b=>?_) (rT dv (λx b=>aB.mp b) λx y b c e=>?_),λr g=>?_⟩
 ·obtain⟨y,c,rfl⟩:=PF b;exact(h.inv1 (aB.mp c)).2
 ·rw[<- (h.inv1 b).1,<- (h.inv1 c).1,e]
 ·obtain ⟨n,k⟩:=h.inv1 g;have hc:=h.car _ k;rw [v3 g];rw [n] at hc;rw [hc,bv];have:(gz w (t.idxOf r)).map (oC (um m t)∘oC t)=(gz w (t.idxOf r)).map _root_.id:=de fun e l=>by
   obtain⟨d,j⟩:=bq l;have f:=hw.to _ d e (kk j);show(ap (um m t) (ap t e.1),e.2)=e;rw[v3 (h.lt a),h.inv2 a f]
  rw[this,di]
def act(t s:List Nat):List Nat:=hK (app t s)
theorem zE(xs:List Nat):(hK xs).Pairwise (· <= ·):=by
 unfold hK;rw[dt];exact(iQ _).imp λ{a b} h=>by lia
theorem Ris.act{k:Nat}{w i:d8}{t:List Nat}(c:0<m)(h:Mp m w i t)(hs:Ris m k s):Ris m k (act t s):=by
 have d:=k4 (app t s);have nd:(app t s).Nodup:=rT (m:=m) (hs.up.imp λ{a b} h=>by lia) hs.lt λx y f g e=>h.inj f g e;refine⟨by have:=d.length_eq;rw[mE,hs.len]at this;exact this,?_,λx f=>?_⟩
 ·exact((zE _).and (d.nodup_iff.mpr nd)).imp λ{a b} h=>by have:=h.1;have:=h.2;lia
 ·obtain⟨y,_,rfl⟩:=PF (d.mem_iff.mp f);exact h.lt c
theorem j8(hs:∀x∈s,x<a.length):act b (act a s)=act (a.map (ap b)) s:=HW hs
theorem BY{k:Nat}{w:d8}(a:0<m)(hw:fS m w)(hs:Ris m k s):act (af m) s=s:=by
 refine(hs.act a (Mp.id hw)).uniq hs ((k4 _).trans ?_);have:app (af m) s=s:=by
  unfold app;have:(s.map λr=>(af m).getD r 0)=s.map _root_.id:=de λx b=>j6 (hs.lt x b);rw[this,di]
 rw[this]
def Lst(m:Nat)(w:d8)(s:List Nat):Prop:=∀t,Tn m w t->lx (act t s) s=J
theorem A2{k:Nat}{w:d8}{u:List Nat}(a:0<m)(hw:fS m w)(hs:Ris m k s){t:List Nat}(ht:Tn m w t)(e:u=act t s)(h:∀t,Tn m w t->lx (act t s) u=J):Ris m k u/\Lst m w u:=by
 subst e;refine⟨hs.act a ht,λd b=>?_⟩;rw[j8 λx c=>by rw[ht.len];exact hs.lt x c];exact h _ (b.comp hw a ht)
theorem uS{k:Nat}{w f:d8}{u:List Nat}(c:0<m)(hw:fS m w)(h:fS m f)(ha:Mp m w f a)(hb:Mp m w f b)(hs:Ris m k s)(i:Ris m k u)(e:act a s=act b u):act (b.map (ap (um m a))) u=s:=by
 have hi:=ha.inv hw c;rw[<- j8 λx g=>by rw[hb.len];exact i.lt x g,<- e,j8 λx g=>by rw[ha.len];exact hs.lt x g];have:a.map (ap (um m a))=af m:=BV (m:=m) (by rw[lM1];exact ha.len) dB λv d=>by
  rw[sH (by rw[ha.len];exact d),v3 (ha.lt c),ha.inv2 c d,j6 d]
 rw[this,BY c hw hs]
open Classical in
def jh(m k:Nat)(w:d8):List (List Nat):=(ft m k).filter λs=>tf (Lst m w s)
theorem iX{k:Nat}{w:d8}:s∈jh m k w↔Ris m k s/\Lst m w s:=by
 unfold jh;rw[aA,ik,rf]
theorem wV{k:Nat}{w j:d8}{f:List Nat}(a:0<m)(hm:m<=8)(hw:fS m w)(b:fS m j)(hf:Mp m w j f)(d:∀t,t∈ts↔Tn m j t):(jh m k w).length<=(jh m k j).length:=by
 refine vq (R:=λs u=>∃t,Tn m j t/\u=act t (act f s)) ?_ (λs v=>?_) λs v s' r u ⟨t,g,e⟩ ⟨A,c,q⟩=>?_
 ·exact(((lD hm k).imp λ{x y} h e=>by subst e;exact az _ h):(ft m k).Nodup).filter _
 ·obtain ⟨h1,h2⟩:=iX.mp v;have n:=h1.act a hf;obtain ⟨u,F,i⟩:=AV (l:=ts.map fun t=>act t (act f s)) fun z=>by
   have:=(d _).mpr (Mp.id b);rw[List.map_eq_nil_iff.mp z]at this;cases this
  obtain⟨t,g,rfl⟩:=PF F;have g:=(d t).mp g;exact⟨_,iX.mpr (A2 a b n g O λA c=>i _ (cg.mpr ⟨A,(d A).mpr c,O⟩)),t,g,O⟩
 ·obtain⟨h1,h2⟩:=iX.mp v;obtain⟨n,G⟩:=iX.mp r;have o:=g.comp hw a hf;have p:=c.comp hw a hf;rw[j8 λx B=>by rw[hf.len];exact h1.lt x B]at e;rw[j8 λx B=>by rw[hf.len];exact n.lt x B]at q;have b1:=uS a hw b o p h1 n (e.symm.trans q);have b2:=uS a hw b p o n h1 (q.symm.trans e);have H:=(o.inv hw a).comp hw a p;have E:=(p.inv hw a).comp hw a o;have D:=G _ H;have C:=h2 _ E;rw[b1]at D;rw[b2]at C;exact rZ D C
theorem Dz{k:Nat}{w d:d8}{f:List Nat}(a:0<m)(hm:m<=8)(hw:fS m w)(b:fS m d)(hf:Mp m w d f){g:List (List Nat)}(e:∀t,t∈ts↔Tn m w t)(c:∀t,t∈g↔Tn m d t):(jh m k d).length=(jh m k w).length:=
 Nat.le_antisymm (wV a hm b hw (hf.inv hw a) e) (wV a hm hw b hf c)
structure nX (m:Nat)(os:List Nat):Prop where
 pm:os.Perm (af m)
theorem nX.len(h:nX m a):a.length=m:=(ja h.pm).1
theorem nX.nd(h:nX m a):a.Nodup:=(ja h.pm).2.2
theorem nX.lt{v:Nat}(h:nX m a)(hm:0<m):ap a v<m:=nQ hm (ja h.pm).2.1
theorem nX.inj{u v:Nat}(h:nX m a)(b:u<m)(hv:v<m)(e:ap a u=ap a v):u=v:=by
 have h1:=nt (t:=a) (v:=u) (by rw[h.len];exact b);have h2:=nt (t:=a) (v:=v) (by rw[h.len];exact hv);rw[e]at h1;obtain⟨f,d⟩:=PB h1;obtain⟨g,c⟩:=PB h2;exact(aI h.nd).mp (d.trans c.symm)
theorem nX.sur{v:Nat}{os:List Nat}(h:nX m os)(hv:v<m):∃r,r<m/\v=ap os r:=by
 have b:v∈os:=h.pm.mem_iff.mpr (aB.mpr hv);obtain⟨r,a⟩:=bq b;have:=(PB a).1;rw[nt this]at a;exact⟨r,by rw[<- h.len];exact this,(Option.some.inj a).symm⟩
theorem CC{v:Nat}{F:List (Key×D)}{d:D}(h:S[n]?=Z (.dct F))(a:F.length<1000)(q:Q (.non,S.set n (.dct (fT F (Sum.inl (v:Int)) d)))):W (f0 (.ref n) (.int (v:Nat)) d S) Q:=by
 refine W.of ?_ q;have h2:f0 (.ref n) (.int (v:Nat)) d S=jo (.ref n) (.int (v:Nat)) d S:=by
  cases F with
  |nil=>simp only[f0,h,kA]
  |cons x F=>simp only[f0,h]
 rw[h2];simp only[jo,h,kB,oS1];rw[ak (bi a (by decide))]
theorem D2{v:Nat}{F:List (Key×D)}{d:D}(h:S[n]?=Z (.dct F))(a:ef F (Sum.inl (v:Int))=Z d)(q:Q (d,S)):W (ez (.ref n) (.int (v:Nat)) S) Q:=by
 refine W.of ?_ q;simp only[ez,mh,h,kB,oS1,a,oP1]
noncomputable def r9(ks:List Nat)(F:Nat->D)(i:Nat):List (Key×D):=(af i).map λr=>(Sum.inl (ap ks r:Int),F r)
theorem ug{F:Nat->D}:r9 ks F (i+1)=r9 ks F i++[(Sum.inl (ap ks i:Int),F i)]:=by
 unfold r9;rw[List.range_succ,cx];rfl
theorem wY{F:Nat->D}:(r9 ks F i).length=i:=by unfold r9;rw[lM1,dB]
theorem wX{F:Nat->D}(h:nX m ks)(hi:i<=r)(hr:r<m):((r9 ks F i).any λp=>decide (p.1=Sum.inl (ap ks r:Int)))=J:=by
 rw[dh];intro z;obtain⟨x,b,e⟩:=bU.mp z;obtain⟨c,a,rfl⟩:=PF b;have e:=N9 e;dsimp only at e;injection e with e;have a:=aB.mp a;have:=h.inj (by lia) hr (show ap ks c=ap ks r by lia);lia
theorem DF{F:Nat->D}(h:nX m ks)(hi:i<m):fT (r9 ks F i) (Sum.inl (ap ks i:Int)) (F i)=r9 ks F (i+1):=by
 unfold fT;rw[wX h (nR1 _) hi,aj (by decide),ug]
theorem uh{m:Nat}{ks:List Nat}{F:Nat->D}(h:nX m ks):∀{i r:Nat},i<=m->r<i->ef (r9 ks F i) (Sum.inl (ap ks r:Int))=Z (F r)
 |0,r,_,hr=>by lia
 |i+1,r,hi,hr=>by
  rw[ug,oJ];by_cases e:r=i
  ·subst e;rw[mQ (wX h (nR1 _) (by lia)),fW,ak O];rfl
  ·rw[uh h (by lia) (by lia)];rfl
theorem D0{F:Nat->D}{G:Nat->D}{wq:d7}(h:nX m ks)(hm:m<=8)(g:∀r,r<m->G (ap ks r)=F r):W (ea 1 gM [.ref 0] (.dct (r9 ks F m)::wq)) λp=>p.1 = .tup ((af m).map G):=by
 refine xy O O ?_;have e:∀p:D×d7,p.1 = .tup ((af m).map G)->(gc (.dct (r9 ks F m)::wq:d7).length p).1 = .tup ((af m).map G):=λp c=>by
  unfold gc;split
  ·exact c
  ·exact c
 refine W.mono (?_:W (gM [.ref 0] (.dct (r9 ks F m)::wq)) λp=>p.1 = .tup ((af m).map G)) e;unfold gM;refine lh ?_;unfold pu;have i:xg (.ref 0) (.dct (r9 ks F m)::wq)=Z (.int (m:Nat),.dct (r9 ks F m)::wq):=by
  show Z (D.int ((r9 ks F m).length:Nat),_)=_;rw[wY]
 wp_walk using i
 refine⟨eV (by lia),?_⟩;rw[jl,NH];refine jr (f:=λj:Nat=>D.int j) G (λa=>∃x,a=[x,Z (.ref 0)]) O (af m) _ ⟨_,O⟩ ?_ ?_
 ·rintro q d a ⟨x,rfl⟩;obtain⟨r,b,rfl⟩:=h.sur (aB.mp d);walk_at"w";refine D2 O (uh h (nR1 _) b) ?_;exact⟨(g r b).symm,O,_,O⟩
 ·rintro a _;refine⟨ed (by rw[lM1,dB];lia),?_⟩;walk_at"w";exact eE (by rw[gC1,ee];rfl) O
def ren(m:Nat)(w:d8)(os:List Nat):d8:=(af m).map λq=>(gz w (os.idxOf q)).map (oC os)
theorem nX.idx(h:nX m a)(hr:r<m):a.idxOf (ap a r)=r:=by
 have d:=h.len;have e:=nt (t:=a) (v:=r) (by lia);have c:=gM1 e;have h1:=List.idxOf_lt_length_of_mem c;have h2:a[a.idxOf (ap a r)]=ap a r:=List.getElem_idxOf h1;obtain⟨f,b⟩:=PB e;exact(aI h.nd).mp (by rw[h2,b])
theorem rq{w:d8}(h:nX m a)(b:0<m)(hr:r<m):(ren m w a)[ap a r]?=Z ((gz w r).map (oC a)):=by
 unfold ren;rw[gP1,dA (h.lt b),oP1,h.idx hr]
theorem FD{w:d8}{os:List Nat}(h:nX m os)(a:0<m):Mp m w (ren m w os) os:=⟨h.pm,λr b=>gy (rq h a b)⟩
theorem FF{w:d8}(h:nX m b){q:Nat}{p:Nat×Nat}(hp:At (ren m w b) q d p):∃r e,r<m/\q=ap b r/\At w r d e/\p=oC b e:=by
 obtain⟨f,h1,h2⟩:=hp;have a:=(PB h1).1;unfold ren at h1 a;rw[lM1,dB]at a;obtain⟨r,c,rfl⟩:=h.sur a;rw[gP1,dA a,oP1,h.idx c]at h1;cases h1;rw[gP1]at h2;obtain⟨e,g,rfl⟩:=PD h2;exact⟨r,e,c,O,kk g,O⟩
theorem JD{w:d8}(hw:w.length=m)(h:At w r d e):r<m:=by
 obtain⟨a,h1,_⟩:=h;rw[<- hw];exact(PB h1).1
theorem FC{w:d8}(h:nX m a)(b:0<m)(hr:r<m)(ha:At w r d e):At (ren m w a) (ap a r) d (oC a e):=
 ⟨_,rq h b hr,by rw[gP1,BS ha];rfl⟩
theorem CG{w:d8}{c:List Nat}(hw:sI m w)(h:nX m c)(f:0<m):fS m (ren m w c):=by
 have k:=hw.toWebJ.toK;refine⟨by unfold ren;rw[lM1,dB],λi n hi=>?_,λr d e b=>?_,λP t v j A=>?_⟩
 ·unfold ren at hi;rw[gP1]at hi;obtain⟨q,_,rfl⟩:=PD hi;rw[lM1];unfold gz;cases l:w[c.idxOf q]? with
  |none=>exact bj _
  |some n=>exact k.le _ _ l
 ·obtain⟨B,C,_,_,_,rfl⟩:=FF h b;exact h.lt f
 ·obtain⟨x,p,s⟩:=h.sur f;have step:∀a d e,At w a d e->P (ap c a)->P (ap c e.1):=λa d e b g=>v _ _ _ (FC h f (JD k.len b) b) g;have back:∀a d e,At w a d e->P (ap c e.1)->P (ap c a):=λa d e b g=>step _ _ _ (hw.bk a d e b) g;have z:P (ap c 0):=OL λy=>k.rc (λu=>¬ P (ap c u)) y (λa d e b o g=>o (back a d e b g)) x p (s ▸ t);obtain⟨r,l,rfl⟩:=h.sur A;exact k.rc (λu=>P (ap c u)) z (λa d e b g=>step a d e b g) r l
theorem ve{w:d8}(h:w.length=m):webD w = .tup ((af m).map λq=>.tup ((gz w q).map pD)):=by
 unfold webD
 congr 1
 refine b5 λi=>?_;rw[gP1,gP1];by_cases hi:i<m
 ·rw[dA hi,gG1 (by lia),oP1,oP1,gy (gG1 (by lia))]
 ·rw[b6 (by lia),b6 (by rw[dB];lia)];rfl
theorem x2{w:d8}(hw:fS m w)(n:0<m)(hm:m<=8)(h:nX m a)(q:Q (webD (ren m w a),S)):W (ea 2 iY [webD w,.tup (ei a)] S) Q:=by
 refine g0 O (by rw[D.unds,eP,D.unds,D.und,fv];rfl) ?_;unfold iY;refine lh ?_;unfold qL
 let F:Nat->D:=λr=>.tup (((gz w r).map (oC a)).map pD)
 refine eU (λr V=>V=[.dct (r9 a F 0)]/\r=[Z (webD w),Z (.tup (ei a)),Z (.ref 0),Y,Y]) ?_ ?_
 ·wp_walk using l8
  exact⟨O,trivial⟩
 rintro r V ⟨rfl,rfl⟩;refine eU (λr V=>∃G j g,V = .dct (r9 a F m)::G/\r=[Z (webD w),Z (.tup (ei a)),Z (.ref 0),j,g]) ?_ ?_
 ·unfold fz;rw[d9];refine pz (xs:=w.map λb=>.tup (b.map pD)) O ?_;refine e6 (λi r V=>∃G j g,i<=m/\V = .dct (r9 a F i)::G/\r=[Z (webD w),Z (.tup (ei a)),Z (.ref 0),j,g]) _ 0 _ _ ⟨[],_,_,by lia,O,O⟩ (λ_ _ _ _=>rfl) ?_ ?_
  ·rintro i C l r V ⟨G,j,g,hi,rfl,rfl⟩;rw[fZ,gP1]at l;obtain⟨z,B,rfl⟩:=PD l;obtain⟨b,c,rfl⟩:=PD B;have k:i<m:=by rw[<- hw.len];exact(PB c).1
   have E:=hw.le i b c;have u:F i = .tup ((b.map (oC a)).map pD):=by
    show D.tup (((gz w i).map _).map _)=_;rw[gy c]
   rw[bQ]at *
   walk_at"w";unfold nf;walk_at"w";rw[i9];refine jr (f:=pD) (λe:Nat×Nat=>pD (oC a e)) (λo=>∃t s,o=[t,s,Z (.tup (ei a))]) O b _ ⟨_,_,O⟩ ?_ ?_
   ·rintro e y o ⟨t,s,rfl⟩;obtain⟨d,l⟩:=bq y;have:=hw.to i d e ⟨b,c,l⟩;rw[pD];walk_at"w";refine uU (by rw[h.len];exact this) ?_;walk_at"w";exact⟨O,_,_,O⟩
   ·rintro o _;refine⟨ed (by rw[lM1];lia),?_⟩;walk_at"w";refine eE (xs:=b.map λe:Nat×Nat=>pD (oC a e)) (by rw[gC1,ee];rfl) ?_;walk_at"w";refine uU (by rw[h.len];exact k) ?_;have v:D.tup (b.map λe:Nat×Nat=>pD (oC a e))=F i:=by rw[u,bv];rfl
    rw[v];refine CC (F:=r9 a F i) O (by rw[wY];lia) ?_;refine⟨G++[.lst (b.map λe:Nat×Nat=>pD (oC a e))],_,_,by lia,?_,O⟩;rw[show a.getD i 0=ap a i from rfl,DF h k];rfl
  ·rintro r V ⟨G,j,g,hi,rfl,rfl⟩;rw[fY,lM1,bQ,hw.len];exact⟨O,G,_,_,O,O⟩
 rintro r V ⟨G,j,g,rfl,rfl⟩;simp(implicitDefEqProofs:=J) only[eW,mN,d5,mV,d6,oS1,d9,ew,dk,gC1];refine(D0 (G:=λq=>.tup ((gz (ren m w a) q).map pD)) h hm λr A=>?_).mono ?_
 ·show D.tup ((gz (ren m w a) (ap a r)).map pD) = .tup (((gz w r).map (oC a)).map pD);rw[gy (rq h n A)]
 ·intro p x;have e:=ve (w:=ren m w a) (m:=m) (by unfold ren;rw[lM1,dB]);rw[x,<- e];exact⟨eP _,q⟩
theorem EK{α:Type}{c:List (Nat×List D)}{g:FG}{t:FT}{b:FV}{S:d7}{f:α->D}{Q:List D×Ev×d7->Prop}(F:α->List D)(P:Ev->Prop)(d:pC S c=true):∀ (xs:List α) (r:Ev),P r ->
  (∀a∈xs,∀r,P r->W (g (f a) r S) λp=>W (t p.1 p.2) λk=>k.1=M/\W (b p.1 k.2) λx=>x.1=F a/\x.2.2=S/\P x.2.1) ->
  (∀i,P i->Q (xs.flatMap F,i,S))->W (fM c g t b (xs.map f) r S) Q
 |[],r,e,_,h=>by rw[bc,fM];dsimp only;rw[ak d,ew];exact h r e
 |a::xs,r,e,hs,h=>by
  rw[mP1,fM];dsimp only;rw[ak d,d9];obtain⟨p,w,h1⟩:=hs a mS1 r e;refine⟨p,w,?_⟩;dsimp only;rw[d9];obtain⟨⟨k,z⟩,v,o,h2⟩:=h1;refine⟨_,v,?_⟩;dsimp only at o h2 ⊢;subst o;rw[ak O,d9];obtain⟨⟨x,r2,y⟩,u,q,m,n⟩:=h2;refine⟨_,u,?_⟩;dsimp only at q m n ⊢;subst q;subst m;rw[j9];refine EK F P d xs r2 n (λs l r e=>hs s (mC1 _ l) r e) λi j=>?_;rw[<- List.flatMap_cons];exact h i j
theorem El{m:FI}{g:FG}{t:FT}{b:FV}{r:Ev}{Q:List D×Ev×d7->Prop}:W (uA m g t b r S) Q↔W (m r S) λp=>W (fM p.1.chk g t b p.1.items r p.2) Q:=by
 unfold uA;rw[d9]
def tD(s:List Nat):D:=.tup (ei s)
def tsD(l:List (List Nat)):List D:=l.map tD
theorem gx(l:List (List Nat)):D.unds 0 (tsD l)=M:=fj λs _=>by rw[tD,D.und];exact fv s
theorem DE{x:Nat}:ez (.tup (ei (s++[x]))) (.int (-1)) S=Z (.int (x:Nat),S):=by
 rw[<- jc];show xi (.tup (ei s++[.int x])) (.int (-1)) S=_;unfold xi eg;simp[uQ]
theorem EG(a n:Nat):gb (a:Nat) n=(af n).map λi=>D.int (a+i:Nat):=by
 refine b5 λi=>?_;rw[gP1];by_cases h:i<n
 ·rw[dA h];obtain⟨d,b⟩:∃d,(gb (a:Nat) n)[i]?=some d:=⟨_,gG1 (by rw[eM];exact h)⟩;rw[b,(oB _ _ _ _ b).2];rfl
 ·rw[b6 (by rw[eM];lia),b6 (by rw[dB];lia)];rfl
theorem uy(h:n<=16777216):fits n=M:=by unfold fits;rw[al];exact aC h (by decide)
theorem Iy{k:Nat}(h:k<=8):8^k<=16777216:=dJ (n:=8) (by decide) h
inductive SM (m k i:Nat):Ev->d7->Prop
 |mk (G:d7) (x3:Option D) (hG:G.all (Ob.und 0)=true):SM m k i [some (.int m),some (.int k),some (.ref G.length),x3] (G++[.lst (tsD (ft m i))])
theorem Fi{k:Nat}(hm:m<=8)(hk:k<=8):W (gB [.int m,.int k] []) λp=>∃j,p.1 = .ref j/\p.2[j]?=Z (.lst (tsD (ft m k)))/\p.2.all (Ob.und 0)=M:=by
 unfold gB;refine lh ?_;unfold mo;refine eU (λr S=>S=[]++[.lst (tsD (ft m 0))]/\r=[Z (.int m),Z (.int k),Z (.ref 0),Y]) ?_ ?_
 ·walk_at"w";exact⟨O,trivial⟩
 rintro r S ⟨rfl,rfl⟩;refine eU (SM m k k) ?_ ?_
 ·walk_at"w";refine⟨eV (by lia),?_⟩;rw[NH];refine e6 (SM m k) (gb 0 k) 0 _ _ ⟨[],_,O⟩ (λ_ _ _ _=>rfl) ?_ ?_
  ·rintro i d z r S ⟨G,F,q⟩;have c:=(PB z).1;rw[eM]at c;rw[bQ]at *
   have u:(G++[Ob.lst (tsD (ft m i))])[G.length]?=Z (.lst (tsD (ft m i))):=by rw[ee];rfl
   walk_at"w";unfold jI;walk_at"w";refine eE u ?_;refine EK (f:=tD) (λs=>tsD (ext m s)) (λr=>∃b a,r=[b,a,Z (.int m)]) (fm u) (ft m i) _ ⟨_,_,O⟩ ?_ ?_
   ·rintro s B r ⟨b,a,rfl⟩;have o:=ik.mp B;have A:lo s<=8:=aC (EJ o.lt) hm;have inner:∀ e:Ev,e=[some (tD s),a,some (.int m)]->W (fM [] (gN 1) fu (eR (m2 (b2 gj) (mV 0) (fw (d5 (mV 1) d6)))) (gb (lo s:Nat) (m-lo s)) e (G++[Ob.lst (tsD (ft m i))])) fun x=>x.1=tsD (ext m s)/\x.2.2=G++[Ob.lst (tsD (ft m i))] /\ ∃ b a,x.2.1=[b,a,some (.int m)]:=by
     rintro e rfl;rw[EG];have C:tsD (ext m s)=(af (m-lo s)).map λj=>tD (s++[lo s+j]):=by unfold tsD Law.ext;rw[bv];rfl
     rw[C];refine jr (f:=λj:Nat=>D.int (lo s+j:Nat)) (λj=>tD (s++[lo s+j])) (λr=>∃x,r=[Z (tD s),x,Z (.int m)]) O (af (m-lo s)) _ ⟨_,O⟩ ?_ ?_
     ·rintro j I r ⟨x,rfl⟩;unfold tD;walk_at"w";rw[jc];exact⟨ed (by rw[eX,o.len];lia),O,_,O⟩
     ·rintro v ⟨x,rfl⟩;exact⟨O,O,_,_,O⟩
    wp_walk using El
    rcases dH s with rfl|⟨l,x,rfl⟩
    ·have t:∀S:d7,mH S (tD [])=Z J:=λS=>rfl
     wp_walk using t
     refine⟨O,eV (by lia),?_⟩;exact inner _ O
    ·rw[dI]at *
     have t:∀S:d7,mH S (tD (l++[x]))=Z M:=λS=>by simp[mH,eg,tD,ei]
     have g:∀S:d7,ez (tD (l++[x])) (.int (-1)) S=Z (.int (x:Nat),S):=λS=>DE
     wp_walk using t,Bt,g
     have H:x<m:=o.lt x (by simp);have w:lo (l++[x])=x+1:=by unfold lo;simp
     refine⟨eV (n:=x+1) (by lia),eV (by lia),?_⟩;have:=inner _ O;rw[w]at this;have y:((m:Int)-((x:Int)+1)).toNat=m-(x+1):=by lia
     rw[y];exact this
   ·rintro v ⟨b,a,rfl⟩;have E:((ft m i).flatMap fun s=>tsD (Law.ext m s))=tsD (ft m (i+1)):=by
     unfold tsD;rw[ft,List.map_flatMap]
    rw[E];refine⟨uy ?_,?_⟩
    ·unfold tsD;rw[lM1];exact aC (mI hm _) (Iy (by lia))
    walk_at"w";have:=SM.mk (m:=m) (k:=k) (i:=i+1) (G++[.lst (tsD (ft m i))]) (Z d) (by rw[df,q,bS,Ob.und,gx];rfl);rw[bJ,lA1]at this;exact this
  ·intro r S h;rw[eM,bQ]at h;exact⟨O,h⟩
 rintro r S ⟨G,F,q⟩;walk_at"w";refine⟨_,O,by rw[ee];rfl,?_⟩;rw[df,q,bS,Ob.und,gx];rfl
theorem DC{k:Nat}(a:∀t∈ts,t.length=m)(g:ts.length<=8)(hs:Ris m k s)(hk:k<=8)(q:Q (.bl (ts.all λt=> !lx (act t s) s),S)):W (ea 2 iy [.tup (tsD ts),tD s] S) Q:=by
 refine g0 O (by rw[D.unds,D.unds,D.und,gx,tD,D.und,fv];rfl) ?_;unfold iy;refine lh ?_;unfold pp;walk_at"w";rw[i9];refine jr (f:=tD) (λt=>.bl (!lx (act t s) s)) (λr=>∃x,r=[x,Z (tD s)]) O ts _ ⟨_,O⟩ ?_ ?_
 ·rintro t c r ⟨x,rfl⟩;unfold tD;walk_at"w";refine zn (λx d=>by rw[a t c];exact hs.lt x d) (by rw[hs.len];exact hk) ?_;refine W.of Jm ?_;exact⟨O,O,_,O⟩
 ·rintro e ⟨x,rfl⟩;refine ⟨ed (by rw [lM1];lia),?_⟩;walk_at"w";have b:mX (.ref 0) [.lst (ts.map fun t=>D.bl (!lx (act t s) s))]=some (.bl (ts.all fun t=> !lx (act t s) s),[.lst (ts.map fun t=>D.bl (!lx (act t s) s))]):=by
   simp only[mX,eg,dk,oS1,j7,oP1]
  refine W.of b ?_;exact⟨O,q⟩
theorem DA{w:d8}(h:∀t,t∈ts↔Tn m w t):(ts.all λt=> !lx (act t s) s)=tf (Lst m w s):=vi (by
 rw[bD];exact⟨λg t a=>by have:=g t ((h t).mpr a);rwa [Bool.not_eq_true']at this,λg t a=>by rw[g t ((h t).mp a)];rfl⟩)
theorem wy{k:Nat}{w:d8}(hw:fS m w)(g:0<m)(hm:m<=8)(hk:k<=8)(q:Q (.tup (tsD (jh m k w)),S)):W (ea 2 fH [webD w,.int k] S) Q:=by
 refine g0 O (by rw[D.unds,eP];rfl) ?_;unfold fH;refine lh ?_;unfold nq;refine eU (λr V=>∃ws,Wlk m w ws/\V=[]/\r=[Z (webD w),Z (.int k),Z (.tup (tsD (Eu m w ws)))]) ?_ ?_
 ·walk_at"w";refine Cn hw g hm λws c=>?_;rw[wt];exact⟨ws,c,O,O⟩
 rintro r V ⟨ws,c,rfl,rfl⟩;have a:=λt=>vG (t:=t) hw g c;have l:(Eu m w ws).length<=8:=by
  have:=lw (m:=m) (k:=m) (w:=w) (ws:=ws);rw[wt,lM1]at this;lia
 generalize Eu m w ws=ts at *
 simp(implicitDefEqProofs:=J) only[eW,mN,d5,d6,oS1,b1,d9,ew,wc,xH,vP,Ls,mP1,gC1,dk,dq,bc,bm,cW,sK,mV,gH];rw[hw.len];refine xz O O ((Fi hm hk).mono ?_);rintro p ⟨j,h1,h2,B⟩;refine⟨j,_,h1,h2,B,λG i hi F _=>?_⟩;rw[cW]at hi;walk_at"w";refine eE hi ?_;refine gm (λi b r S=>i<=(ft m k).length/\S=G/\(∃x,r=[x,Z (.tup (tsD ts))])/\b=tsD (((ft m k).take i).filter λs=>tf (Lst m w s))) (tsD (ft m k)) 0 [] _ _ ⟨bj _,O,⟨_,O⟩,O⟩ (λi b r S h=>?_) ?_ ?_
 ·obtain⟨_,rfl,_⟩:=h;exact fm hi
 ·rintro i d n b r S ⟨y,rfl,⟨x,rfl⟩,rfl⟩;rw[bQ]at *
  unfold tsD at n;rw[gP1]at n;obtain⟨s,u,rfl⟩:=PD n;have f:=(PB u).1;have C:=ik.mp (gM1 u);have o:(ft m k).take (i+1)=(ft m k).take i++[s]:=by rw[dL,u];rfl
  walk_at"w";refine DC (λt A=>((a t).mp A).len) l C hk ?_;rw[DA a];walk_at"w";rw[o,dw];have E:[s].filter (λs=>tf (Lst m w s))=if tf (Lst m w s)=M then[s]else[]:=by
   cases h:tf (Lst m w s)with
   |true=>rw[ak O];exact dE (p:=λs=>tf (Lst m w s)) h
   |false=>rw[aj (by decide)];exact dG (p:=λs=>tf (Lst m w s)) (by rw[h];decide)
  rw[E];cases h:tf (Lst m w s)with
  |true=>
   rw[ak O,ak O];refine⟨f,⟨_,O⟩,?_⟩;unfold tsD;rw[cx];rfl
  |false=>
   rw[aj (by decide),aj (by decide),aP];exact⟨f,⟨_,O⟩,O⟩
 ·rintro xs r S ⟨_,rfl,⟨x,rfl⟩,e⟩;rw [cW] at e;have z:xs=tsD (jh m k w):=by
   rw[e];unfold jh;rw[cQ];unfold tsD;rw[lM1];lia
  subst z;have v:(tsD (jh m k w)).length<=16777216:=by
   unfold tsD jh;rw[lM1];exact aC (dr _ _) (aC (mI hm _) (Iy hk))
  refine⟨uy v,?_⟩;walk_at"w";refine eE (by rw[ee];rfl) ?_;exact⟨by rw[D.und];exact gx _,q⟩
theorem w9{α:Type}{f:α->D}{c:α->Nat}{a:α}:∀ {zs:List α},(∀ b∈zs,k7 [] 51 (f a) (f b)=some (decide (c a<c b)))->(∀ b∈zs,c b≠c a)->zs.Pairwise (fun x y=>c x<c y) ->
  ∃ys:List α,yz (f a) (zs.map f)=ys.map f/\ys.Perm (a::zs)/\ys.Pairwise (λx y=>c x<c y)
 |[],_,_,_=>⟨[a],O,.refl _,by simp⟩
 |b::zs,h,hn,hp=>by
  rw[cc]at hp;rw[mP1,yz];have j:=h b mS1;unfold KS;rw[j];by_cases z:c a<c b
  ·rw[ah z,ak (show(Z M == Z M)=M from rfl)];refine⟨a::b::zs,O,.refl _,cc.mpr ⟨λy d=>?_,cc.mpr hp⟩⟩;rcases aF.mp d with rfl|d
   ·exact z
   ·exact bi z (hp.1 y d)
  ·rw[ai z,aj (by decide)];obtain⟨ys,e,i,k⟩:=w9 (λx g=>h x (mC1 _ g)) (λx g=>hn x (mC1 _ g)) hp.2;refine⟨b::ys,by rw[e];rfl,(i.cons b).trans (.swap _ _ _),cc.mpr ⟨λy d=>?_,k⟩⟩;rcases aF.mp (i.mem_iff.mp d)with rfl|d
   ·have:=hn b mS1;lia
   ·exact hp.1 y d
theorem tj{α:Type}{f:α->D}{c:α->Nat}:∀ {ks:List α},(∀ a∈ks,∀ b∈ks,k7 [] 51 (f a) (f b)=some (decide (c a<c b)))->(ks.map c).Nodup ->
  ∃zs:List α,lC (ks.map f)=zs.map f/\zs.Perm ks/\zs.Pairwise (λx y=>c x<c y)/\m9 (zs.map f)=M
 |[],_,_=>⟨[],O,.refl _,.nil,O⟩
 |a::ks,h,hn=>by
  rw[mP1,aQ]at hn;obtain⟨zs,e,o,r,_⟩:=tj (ks:=ks) (λx j y k=>h x (mC1 _ j) y (mC1 _ k)) hn.2;obtain⟨ys,p,l,g⟩:=w9 (a:=a) (zs:=zs) (λb n=>h a mS1 b (mC1 _ (o.mem_iff.mp n))) (λb n z=>hn.1 (cg.mpr ⟨b,o.mem_iff.mp n,z⟩)) r;have i:ys.Perm (a::ks):=l.trans (o.cons a);refine⟨ys,by rw[mP1,lC,e,p],i,g,?_⟩;have k:∀x∈ys,∀y∈ys,k7 [] 51 (f x) (f y)=Z (decide (c x<c y)):=λx j y k=>h x (i.mem_iff.mp j) y (i.mem_iff.mp k);clear p l i
  induction ys with
  |nil=>rfl
  |cons y ys ih=>
   rw[cc]at g;rw[mP1,m9,ih g.2 λx j z s=>k x (mC1 _ j) z (mC1 _ s),bP,bD];intro d q;obtain⟨x,j,rfl⟩:=PF q;unfold qf;have m:=g.1 x j;rw[k y mS1 x (mC1 _ j),k x (mC1 _ j) y mS1,ah m,ai (by lia)];rfl
theorem K9(h:S.all (Ob.und 0)=M)(n:Nat):S.all (Ob.und n)=M:=by
 rw[bD]at h ⊢;exact λx a=>iV (bj _) (h x a)
theorem EL{α:Type}{p:α->Bool}{a:α}{l:List α}:(l++[a]).filter p=l.filter p++if p a=M then[a]else[]:=by
 rw[dw]
 congr 1
 cases h:p a with
 |true=>rw[dE h];rfl
 |false=>rw[dG (by rw[h];decide)];rfl
theorem Fq{k:Nat}(hm:m<=8)(hk:k<=8):W (gW [.int m,.int k] []) λp=>∃j xs,p.1 = .ref j/\p.2[j]?=Z (.lst xs)/\p.2.all (Ob.und 0)=M/\xs=tsD (iS m k):=by
 unfold gW;refine lh ?_;unfold nr;have B:∀i,i<=8->(eY k i).length<=256:=λi hi=>aC (lF i) (dJ (n:=2) (by decide) hi);have q:∀i,i<=8 -> ∀s∈eY k i,s.length<=8:=λi hi s f=>aC (iW.mp f).1 hk;refine eU (λr S=>S=[]++[.lst (tsD (eY k 0))]/\r=[Z (.int m),Z (.int k),Z (.ref 0),Y]) ?_ ?_
 ·walk_at"w";exact⟨O,trivial⟩
 rintro r S ⟨rfl,rfl⟩;refine eU (λr S=>∃(G:d7) (t:Option D),G.all (Ob.und 0)=M/\S=G++[.lst (tsD (eY k m))]/\r=[Z (.int m),Z (.int k),Z (.ref G.length),t]) ?_ ?_
 ·walk_at"w";refine⟨eV (by lia),?_⟩;rw[NH];refine e6 (λi r S=>i<=m /\ ∃(G:d7) (t:Option D),G.all (Ob.und 0)=M/\S=G++[.lst (tsD (eY k i))]/\r=[Z (.int m),Z (.int k),Z (.ref G.length),t]) (gb 0 m) 0 _ _ ⟨by lia,[],_,O,O,O⟩ (λ_ _ _ _=>rfl) ?_ ?_
  ·rintro i d c r S ⟨hi,G,t,v,rfl,rfl⟩;have u:=(PB c).1;rw[eM]at u;rw[jl,gP1,dA u]at c;cases c;rw[bQ]at *
   have o:(G++[Ob.lst (tsD (eY k i))])[G.length]?=Z (.lst (tsD (eY k i))):=by rw[ee];rfl
   generalize A:G++[Ob.lst (tsD (eY k i))]=U at *
   have g:U.all (Ob.und 0)=M:=by rw[<- A,df,v,bS,Ob.und,gx];rfl
   walk_at"w";unfold kK;walk_at"w";refine eE o ?_;refine gm (λj b r S=>j<=(eY k i).length/\U=S/\(∃x,r=[x,Z (.int k),Z (.int (i:Nat))])/\b=tsD ((((eY k i).take j).filter λs=>decide (s.length<k)).map λs=>s++[i])) (tsD (eY k i)) 0 [] _ _ ⟨bj _,O,⟨_,O⟩,O⟩ (λj b r S h=>?_) ?_ ?_
   ·obtain⟨_,rfl,_⟩:=h;exact fm o
   ·rintro j d c b r S ⟨w,rfl,⟨x,rfl⟩,rfl⟩;rw[bQ]at *
    unfold tsD at c;rw[gP1]at c;obtain⟨s,f,rfl⟩:=PD c;have a:=(PB f).1;have C:=q i (by lia) s (gM1 f);have l:(eY k i).take (j+1)=(eY k i).take j++[s]:=by rw[dL,f];rfl
    unfold tD;walk_at"w";rw[l,EL,eX];by_cases h:s.length<k
    ·rw[ak (ah (by lia)),ak (ah h)];refine⟨ed (by lia),a,⟨_,O⟩,?_⟩;unfold tsD;rw[cx,cx,jc];rfl
    ·rw[aj (λz=>h (by have:=N9 z;lia)),aj (by rw[al];exact h)];refine⟨a,⟨_,O⟩,?_⟩;rw[aP]
   ·rintro xs r S ⟨_,rfl,⟨x,rfl⟩,e⟩;rw [cW,bQ,cQ (by unfold tsD;rw [lM1];exact nR1 _)] at e;subst e;have y:=B i (by lia);have F:(tsD (((eY k i).filter fun s=>decide (s.length<k)).map fun s=>s++[i])).length<=256:=by
     unfold tsD;rw[lM1,lM1];exact aC (dr _ _) y
    have E:(tsD (eY k i)).length<=256:=by unfold tsD;rw[lM1];exact y
    refine⟨ed (by lia),?_⟩;walk_at"w";refine(B1 (xs:=tsD (eY k i)) (ys:=tsD (((eY k i).filter λs=>decide (s.length<k)).map λs=>s++[i])) (by rw[gL1 (PB o).1];exact o) (by rw[ee];rfl)).mpr ⟨ed (by lia),?_⟩;walk_at"w";refine⟨by lia,U++[.lst (tsD (((eY k i).filter λs=>decide (s.length<k)).map λs=>s++[i]))],Z (.int (i:Nat)),?_,?_,?_⟩
    ·rw[df,g,bS,Ob.und,gx];rfl
    ·rw[bJ];unfold tsD;rw[eY,cx];rfl
    ·first|rfl|rw[lA1];rfl
  ·rintro r S ⟨hi,G,t,v,rfl,rfl⟩;rw[eM,bQ];exact⟨O,G,_,v,O,O⟩
 rintro r S ⟨G,t,v,rfl,rfl⟩;have o:(G++[Ob.lst (tsD (eY k m))])[G.length]?=Z (.lst (tsD (eY k m))):=by rw[ee];rfl
 generalize A:G++[Ob.lst (tsD (eY k m))]=U at *
 have g:U.all (Ob.und 0)=M:=by rw[<- A,df,v,bS,Ob.und,gx];rfl
 walk_at"w";refine eE o ?_;refine gm (λj b r S=>j<=(eY k m).length/\U=S/\(∃x,r=[x,Z (.int k)])/\b=tsD (((eY k m).take j).filter λs=>s.length == k)) (tsD (eY k m)) 0 [] _ _ ⟨bj _,O,⟨_,O⟩,O⟩ (λj b r S h=>?_) ?_ ?_
 ·obtain⟨_,rfl,_⟩:=h;exact fm o
 ·rintro j d c b r S ⟨w,rfl,⟨x,rfl⟩,rfl⟩;rw[bQ]at *
  unfold tsD at c;rw[gP1]at c;obtain⟨s,f,rfl⟩:=PD c;have a:=(PB f).1;have l:(eY k m).take (j+1)=(eY k m).take j++[s]:=by rw[dL,f];rfl
  unfold tD;walk_at"w";rw[l,EL,eX];by_cases h:s.length=k
  ·rw[ak (Pq.mpr (by lia)),ak (Pq.mpr h)];refine⟨a,⟨_,O⟩,?_⟩;unfold tsD;rw[cx];rfl
  ·rw[aj (λz=>h (by have:=Pq.mp z;lia)),aj (by rw[Pq];exact h)];refine⟨a,⟨_,O⟩,?_⟩;rw[aP]
 ·rintro xs r S ⟨_,rfl,⟨x,rfl⟩,e⟩;rw[cW,bQ,cQ (by unfold tsD;rw[lM1];exact nR1 _)]at e;subst e;have y:=B m hm;refine⟨ed ?_,?_⟩
  ·unfold tsD;rw[lM1];exact aC (dr _ _) (by lia)
  walk_at"w";refine⟨_,_,O,by rw[ee];rfl,?_,O⟩;rw[df,g,bS,Ob.und,gx];rfl
noncomputable def B7(s:List Nat):TK:=.tup (s.map λx:Nat=>TK.int x)
theorem Bd:∀s:List Nat,Hc (ei s)=Z (s.map λx:Nat=>TK.int x)
 |[]=>rfl
 |x::s=>by
  show((kD (.int x)).bind λk=>(Hc (ei s)).map (k :: ·))=_;rw[Bd s];rfl
theorem BF:∀s:List Nat,TK.depAll (s.map λx:Nat=>TK.int x)=0
 |[]=>rfl
 |x::s=>by rw[mP1,TK.depAll,BF s];rfl
theorem Ja(s:List Nat):Mi.kA (tD s)=Z (B7 s):=by
 unfold tD Mi.kA B7;dsimp only;rw[Bd,oS1,ak];rw[TK.dep,BF];decide
theorem zu(s:List Nat):Mi.lA (B7 s)=tD s:=(w4 (Ja s)).1
theorem Cq{u:List Nat}(h:B7 s=B7 u):s=u:=by
 have:tD s=tD u:=by rw[<- zu,<- zu,h]
 exact vD this
def Mu(ts:List (List Nat))(s z:List Nat):Prop:=z∈ts.map (λt=>act t s) /\ ∀u∈ts.map (λt=>act t s),lx u z=J
theorem Mu.uniq{z z':List Nat}(h:Mu ts s z)(h':Mu ts s z'):z=z':=rZ (h'.2 _ h.1) (h.2 _ h'.1)
def FZ(zs:List (List Nat)):List (TK×D):=zs.map λz=>(B7 z,.bl M)
theorem HN{zs:List (List Nat)}{z:List Nat}:(z∈zs/\fT (FZ zs) (B7 z) (.bl M)=FZ zs)\/(z∉zs/\fT (FZ zs) (B7 z) (.bl M)=FZ (zs++[z])):=by
 have a:((FZ zs).any λp=>decide (p.1=B7 z))=M↔z∈zs:=by
  rw[bU];constructor
  ·rintro⟨p,b,e⟩;obtain⟨y,c,rfl⟩:=PF b;rw[<- Cq (N9 e)];exact c
  ·intro h;exact⟨_,cg.mpr ⟨z,h,O⟩,ah O⟩
 unfold fT;by_cases h:z∈zs
 ·refine .inl ⟨h,?_⟩;rw [if_pos (a.mpr h)];have:(FZ zs).map (fun p=>if p.1=B7 z then (p.1,D.bl true) else p)=(FZ zs).map _root_.id:=de fun p b=>by
   obtain⟨y,_,rfl⟩:=PF b;dsimp only[_root_.id];split<;>rfl
  rw[this,di]
 ·refine .inr ⟨h,?_⟩;rw[aj λd=>h (a.mp d)];unfold FZ;rw[cx];rfl
theorem Cv{k:Nat}(hm:m<=8)(C:0<k){zs:List (List Nat)}(hz:∀z∈zs,Ris m k z)(nd:zs.Nodup)(D:zs.length<=256)(h:S[n]?=Z (dO (FZ zs))):∃ys:List (List Nat),ys.Perm zs/\ys.Pairwise (λx y=>yS x<yS y)/\me (.ref n) S=Z (.ref S.length,S++[.lst (tsD ys)]):=by
 have r:A9 (dO (FZ zs))=Z (FZ zs):=by
  unfold dO;split
  ·rename_i e;rw[e];rfl
  ·rfl
 have A:((FZ zs).map λp=>lA p.1)=zs.map tD:=by
  unfold FZ;rw[bv];exact de λz _=>zu z
 obtain⟨ys,B,t,o,q⟩:=tj (f:=tD) (c:=yS) (ks:=zs) (λa l b s=>by
  rw[<- (hz a l).lx hm (hz b s)];exact AY) (by
  rw[dD,dt];exact Pz (λ{x y} v g i e=>i ((hz x v).cd hm (hz y g) e)) nd)
 refine⟨ys,t,o,?_⟩;have u:sm (zs.map tD)=Z M:=by
  have:∀z∈zs,i3 (tD z)=Z M:=λz j=>by
   have:=(hz z j).len;cases z with
   |nil=>simp at this;lia
   |cons x z=>rfl
  cases zs with
  |nil=>rfl
  |cons z zs=>
   show(match i3 (tD z)with|some f=>if((zs.map tD).all λe=>i3 e == some f)=true then some f else none|none=>none)=_;rw[this z mS1];dsimp only;rw[ak];rw[bD];intro d w;obtain⟨y,g,rfl⟩:=PF w;rw[this y (mC1 _ g)];rfl
 unfold me;dsimp only;rw[h,oS1,r,oS1,A,u,oS1,B,ak]
 ·rfl
 ·rw[bA1,q,al];refine⟨O,?_⟩;unfold FZ;rw[lM1];lia
inductive LL (m k n:Nat)(ts:List (List Nat))(S:d7):Ev->d7->Prop
 |mk (zs:List (List Nat)) (H:d7) (x4:Option D) (nd:zs.Nodup) (zl:zs.length<=256) (zm:∀z,z∈zs ↔ ∃s,Ris m k s/\Mu ts s z):LL m k n ts S [some (.ref n),some (.int m),some (.int k),some (.ref S.length),x4] (S++dO (FZ zs)::H)
inductive LK (m k n i:Nat)(ts:List (List Nat))(S:d7)(c:Nat):Ev->d7->Prop
 |mk (zs:List (List Nat)) (H:d7) (x4:Option D) (nd:zs.Nodup) (zl:zs.length<=c) (zm:∀z,z∈zs ↔ ∃s∈(iS m k).take c,Mu ts s z) (hH:H[i]?=some (.lst (tsD (iS m k)))):LK m k n i ts S c [some (.ref n),some (.int m),some (.int k),some (.ref S.length),x4] (S++dO (FZ zs)::H)
inductive LE3 (ts:List (List Nat))(s:List Nat)(V:d7)(c:Nat):List D->Ev->d7->Prop
 |mk (H':d7) (x:Option D):LE3 ts s V c (tsD ((ts.take c).map λt=>act t s)) [x,some (tD s)] (V++H')
theorem A5{k:Nat}{w:d8}(hw:fS m w)(N:0<m)(hm:m<=8)(hk0:0<k)(hk:k<=8)(f:∀t,t∈ts↔Tn m w t)(htl:ts.length<=8)(hn:S[n]?=Z (.lst (tsD ts)))(hS:S.all (Ob.und 0)=M)(q:Q (.tup (tsD (jh m k w)),S)):W (ea 3 gg [.ref n,.int m,.int k] S) Q:=by
 have hSn:=K9 hS S.length;have aq:=(PB hn).1;have hne:ts≠[]:=λz=>by
  have:=(f _).mpr (Mp.id hw);rw[z]at this;cases this
 have ht0:0<ts.length:=c9.mpr hne;refine xy O O ?_;unfold gg;refine lh ?_;unfold kU;refine eU (λr V=>V=S++dO (FZ [])::[]/\r=[Z (.ref n),Z (.int m),Z (.int k),Z (.ref S.length),Y]) ?_ ?_
 ·wp_walk using l8
  exact⟨O,trivial⟩
 rintro r V ⟨rfl,rfl⟩;refine eU (LL m k n ts S) ?_ ?_
 ·simp (implicitDefEqProofs:=false) only [fz,d9,sK,mN,d5,mV,gC1,dk,d6,oS1];refine xz rfl rfl ((Fq hm hk).mono ?_);rintro p ⟨j,xs,h1,h2,h3,rfl⟩;refine ⟨j,_,h1,h2,h3,fun G i hi hG hil=>?_⟩;obtain ⟨i,rfl⟩:∃ i',i=S.length+1+i':=⟨i-(S.length+1),by simp at hil;lia⟩;rw [bJ,List.singleton_append] at hi ⊢;have gi:∀ (X:Ob) (H:d7),(S++X::H)[S.length+1+i]? = H[i]?:=fun X H=>by
   rw[gR1 (by lia),show S.length+1+i-S.length=i+1 by lia,gC1]
  rw[gi]at hi;have sl:(iS m k).length<=256:=aC (dr _ _) (aC (lF m) (dJ (n:=2) (by decide) hm));walk_at"w";refine eE (xs:=tsD (iS m k)) (by rw[gi];exact hi) ?_;refine e6 (LK m k n i ts S) (tsD (iS m k)) 0 _ _ ⟨[],G,_,bp,nR1 _,λz=>by simp,hi⟩ (λc r V h=>?_) ?_ ?_
  ·obtain⟨zs,H,x4,_,_,_,T⟩:=h;exact fm (by rw[gi];exact T)
  ·rintro c d am r V ⟨zs,H,x4,nd,K,A,T⟩;rw[bQ]at *
   unfold tsD at am;rw[gP1]at am;obtain⟨s,R,rfl⟩:=PD am;have hlt:=(PB R).1;have hR:=km.mp (gM1 R);have l:(iS m k).take (c+1)=(iS m k).take c++[s]:=by rw[dL,R];rfl
   walk_at"w";unfold jj;generalize hV:S++dO (FZ zs)::H=V;have gn:V[n]?=Z (.lst (tsD ts)):=by rw[<- hV,gL1 aq];exact hn
   walk_at"w";refine eE gn ?_;have l0:LE3 ts s V 0 [] [Y,Z (tD s)] V:=by
    have:=LE3.mk (ts:=ts) (s:=s) (V:=V) (c:=0) [] Y
    rwa [aP]at this
   refine gm (LE3 ts s V) (tsD ts) 0 [] _ _ l0 (λc acc r U h=>?_) ?_ ?_
   ·obtain⟨H',x⟩:=h;exact fm (by rw[gL1 (PB gn).1];exact gn)
   ·rintro c d am acc r U ⟨H',x⟩;rw[bQ]at *
    unfold tsD at am;rw[gP1]at am;obtain⟨t,E,rfl⟩:=PD am;have hlt:=(PB E).1;have hT:=(f t).mp (gM1 E);have l:ts.take (c+1)=ts.take c++[t]:=by rw[dL,E];rfl
    unfold tD;walk_at"w";rw[i9];refine BG (k:=0) (λx hx=>by rw[hT.len];exact hR.lt x hx) O λr'=>?_;refine⟨ed (by rw[eX,mE,hR.len];lia),?_⟩;walk_at"w";generalize I:V++(H'++[Ob.lst (ei (app t s))])=U;have C:U[V.length+H'.length]?=Z (.lst (ei (app t s))):=by
     rw[<- I,gR1 (by lia),show V.length+H'.length-V.length=H'.length by lia,ee];rfl
    refine xG C (by rw[mE,hR.len];lia) ?_;walk_at"w";refine eE (by rw[ee];rfl) ?_;have e1:tsD ((ts.take (c+1)).map λt=>act t s)=tsD ((ts.take c).map λt=>act t s)++[.tup (ei (hK (app t s)))]:=by
     rw[l];unfold tsD;rw[cx,cx];rfl
    have e2:U++[Ob.lst (ei (hK (app t s)))]=V++(H'++[.lst (ei (app t s)),.lst (ei (act t s))]):=by rw[<- I];simp[act]
    rw[e2,<- e1];exact⟨_,_⟩
   ·intro xs r U h;rw [cW,bQ] at h;obtain ⟨H',x⟩:=h;rw [cQ (by unfold tsD;rw [lM1];exact nR1 _)];refine ⟨ed (by unfold tsD;rw [lM1,lM1];lia),?_⟩;walk_at"w";generalize I:V++(H'++[Ob.lst (tsD (ts.map fun t=>act t s))])=U;have C:U[V.length+H'.length]? = some (.lst (tsD (ts.map fun t=>act t s))):=by
     rw[<- I,gR1 (by lia),show V.length+H'.length-V.length=H'.length by lia,ee];rfl
    obtain⟨z,hz,L,he⟩:=Do (ts:=ts.map λt=>act t s) C (by rw[lM1];exact ht0);have B:Mu ts s z:=⟨hz,L⟩
    wp_walk using he
    have ao:U=S++dO (FZ zs)::(H++(H'++[Ob.lst (tsD (ts.map λt=>act t s))])):=by rw[<- I,<- hV];simp
    refine v9 (F:=FZ zs) (by rw[ao,ee];rfl) (Ja z) (by unfold FZ;rw[lM1];lia) ?_;have P:∀X:Ob,U.set S.length X=S++X::(H++(H'++[Ob.lst (tsD (ts.map λt=>act t s))])):=λX=>by rw[ao,cY _ _ (nR1 _),cZ,c5]
    rw[P];have au:(H++(H'++[Ob.lst (tsD (ts.map λt=>act t s))]))[i]?=Z (.lst (tsD (iS m k))):=by rw[gL1 (PB T).1];exact T
    rcases HN (zs:=zs) (z:=z)with⟨g1,wq⟩|⟨g1,wq⟩
    ·rw[wq];refine⟨zs,_,_,nd,by lia,λy=>?_,au⟩;rw[l,A];constructor
     ·rintro⟨u,o,g⟩;exact⟨u,aH _ o,g⟩
     ·rintro⟨u,o,g⟩;rcases aG.mp o with h|h
      ·exact⟨u,h,g⟩
      ·rw[cA]at h;subst h;rw[g.uniq B];exact(A z).mp g1
    ·rw[wq];refine⟨zs++[z],_,_,?_,by rw[lA1,a0];lia,λy=>?_,au⟩
     ·rw[bB];exact⟨nd,by simp,λa ha b hb e=>by rw[cA]at hb;subst hb;subst e;exact g1 ha⟩
     ·rw[l,aG,A];constructor
      ·rintro(⟨u,o,g⟩|g)
       ·exact⟨u,aH _ o,g⟩
       ·rw[cA]at g;subst g;exact⟨s,mA1 _ (cA.mpr O),B⟩
      ·rintro⟨u,o,g⟩;rcases aG.mp o with h|h
       ·exact .inl ⟨u,h,g⟩
       ·rw[cA]at h;subst h;exact .inr (cA.mpr (g.uniq B))
  ·rintro r V ⟨zs,H,x4,nd,K,A,T⟩;rw[bQ,cQ (by unfold tsD;rw[lM1];exact nR1 _)]at A;refine⟨O,zs,H,_,nd,?_,λz=>?_⟩
   ·unfold tsD at K;rw[bQ,lM1]at K;lia
   ·rw[A];exact⟨λ⟨s,a,b⟩=>⟨s,km.mp a,b⟩,λ⟨s,a,b⟩=>⟨s,km.mpr a,b⟩⟩
 rintro r V ⟨zs,H,x4,nd,K,A⟩;have v:∀z,z∈zs↔Ris m k z/\Lst m w z:=λz=>by
  rw[A];constructor
  ·rintro⟨s,R,h1,h2⟩;obtain⟨t,E,rfl⟩:=PF h1;exact A2 N hw R ((f t).mp E) O λt' ht'=>h2 _ (cg.mpr ⟨t',(f t').mpr ht',O⟩)
  ·rintro⟨h1,h2⟩;refine⟨z,h1,cg.mpr ⟨af m,(f _).mpr (Mp.id hw),BY N hw h1⟩,λu o=>?_⟩;obtain⟨t,E,rfl⟩:=PF o;exact h2 t ((f t).mp E)
 have gd:(S++dO (FZ zs)::H)[S.length]?=Z (dO (FZ zs)):=by rw[ee];rfl
 obtain⟨ys,y1,y2,y3⟩:=Cv hm hk0 (λz hz=>((v z).mp hz).1) nd K gd;have ey:ys=jh m k w:=x0 y2 ((lD hm k).filter _) λx=>by rw[y1.mem_iff,v,iX]
 subst ey;generalize I:S++dO (FZ zs)::H=U at *
 wp_walk using y3
 refine eE (by rw[ee];rfl) ?_;rw[<- I,bJ,Hi (by rw[D.und];exact gx _) hSn];exact q
theorem K4(xs:List D)(k:Nat):Mi.pO xs Y (Z (k:Int))=xs.take k:=by
 unfold Mi.pO;rw[HT.zQ,HT.CF,bZ,Nat.sub_zero];by_cases h:k<=xs.length
 ·rw[bC h]
 ·rw[Nat.min_eq_right (by lia),b4,cQ (by lia)]
theorem JG{m:FE}{hi:FO}{r:Ev}{k:Nat}{xs:List D}(hm:m r S=Z (.ref n,S))(a:hi r S=Z (Z (k:Int),S))(h:S[n]?=Z (.lst xs))(q:Q (.ref S.length,S++[.lst (xs.take k)])):W (oF m kM hi r S) Q:=by
 rw[<- K4]at q;refine W.of ?_ q;unfold oF;rw[hm,oS1];dsimp only;rw[show kM r S=Z (Y,S)from rfl,oS1];dsimp only;rw[a,oS1];simp only[vo,gP h,oP1,NL]
theorem A1{k:Nat}{w:d8}(hm:m<=8):(jh m k w).length<=256:=by
 have h1:(ft m k).length<=(iS m k).length:=vq (R:=Eq) (((lD hm k).imp λ{x y} h e=>by subst e;exact az _ h):(ft m k).Nodup) (λa d=>⟨a,km.mpr (ik.mp d),O⟩) λa _ b _ c g f=>g.trans f.symm;have h2:(iS m k).length<=256:=aC (dr _ _) (aC (lF m) (dJ (n:=2) (by decide) hm));exact aC (dr _ _) (aC h1 h2)
theorem CD{l:List (List Nat)}(f:l.length<=256)(d:∀s∈l,s.length<=8)(q:Q (.bl M,S)):W (ea 2 gu [.tup (tsD l),.tup (tsD l)] S) Q:=by
 refine g0 O (by rw[D.unds,D.unds,D.und,gx];rfl) ?_;unfold gu;refine(tm 7 (tsD l) (by unfold tsD;rw[lM1];lia) (gx l) λx e=>?_).mono λp a=>?_
 ·obtain⟨s,c,rfl⟩:=PF e;have:=d s c;refine tm 6 (ei s) (by rw[eX];lia) (fv s) λy b=>?_;obtain⟨v,_,rfl⟩:=PF b;exact(zO 5 v []).mono λp a=>by rw[a]
 ·rw[a];exact⟨O,q⟩
theorem FB{k:Nat}{w:d8}(hk:k<=8):∀s∈jh m k w,s.length<=8:=λs a=>by
 rw[(iX.mp a).1.len];exact hk
theorem GT{k:Nat}{w:d8}{c:List Nat}{u j o s A:Option D}{Q:Fl×Ev×d7->Prop}(hw:sI m w)(a:0<m)(hm:m<=8)(z:0<k)(hk:k<=8)(ho:nX m c)(f:∀ t,t∈ts↔Tn m w t)(y:ts.length<=8)(hn:S[n]? = some (.lst (tsD ts)))(B:S.all (Ob.und 0)=true)(q:∀x,Q (.nx,[u,j,o,s,some (webD w),some (.ref n),some (.int m),some (webD (ren m w c)),some (.int k),x],S)):
  W (rK [u,j,o,s,Z (webD w),Z (.ref n),Z (.int m),Z (webD (ren m w c)),Z (.int k),A] S) Q:=by
 have d:=hw.toWebJ.toK;have b:=CG hw ho a;unfold rK;refine eU (λr V=>V=S/\r=[u,j,o,s,Z (webD w),Z (.ref n),Z (.int m),Z (webD (ren m w c)),Z (.int k),Z (.tup (tsD (jh m k w)))]) ?_ ?_
 ·simp(implicitDefEqProofs:=J) only[eF,mN,d5,mV,gC1,dk,d6,oS1,gN,c8,c5,d9,ew,true_and];refine A5 d a hm z hk f y hn B ?_;exact⟨O,O⟩
 rintro r V ⟨rfl,rfl⟩;have i:(jh m k (ren m w c)).length=(jh m k w).length:=by
  obtain⟨ws,v⟩:∃ws,Wlk m (ren m w c) ws:=by
   have:W (ea 2 mO [webD (ren m w c),.int 0] []) λ_=>∃ws,Wlk m (ren m w c) ws:=zh b a hm λws h=>⟨ws,h⟩;obtain⟨_,_,h⟩:=this;exact h
  exact Dz a hm d b (FD ho a) f λt=>vG b a v
 have g:W (mOr (rW (mTr (mN (ea 2 gu) (d5 (mN (ea 2 fH) (d5 (mV 4) (d5 (mV 8) d6))) (d5 (mV 9) d6))))) (mB (m2 (b2 gNe) (mN (b1 eQ) (d5 (mN (ea 2 fH) (d5 (mV 7) (d5 (mV 8) d6))) d6)) (mN (b1 eQ) (d5 (mV 9) d6)))) [u,j,o,s,Z (webD w),Z (.ref n),Z (.int m),Z (webD (ren m w c)),Z (.int k),Z (.tup (tsD (jh m k w)))] V) λp=>p=(J,V):=by
  walk_at"w";refine wy d a hm hk ?_;refine CD (A1 hm) (FB hk) ?_;walk_at"w";refine wy b a hm hk ?_;walk_at"w";have e:∀l:List (List Nat),(tsD l).length=l.length:=λl=>by unfold tsD;rw[lM1]
  rw[e,e,i];simp
 unfold fV;rw[d9];refine g.mono ?_;rintro p rfl;rw[aj (show¬ (J=M) by decide)];walk_at"w";exact q _
theorem EX{w:d8}{v s z H L C f h:Option D}{Q:Fl×Ev×d7->Prop}(hw:sI m w)(a:0<m)(hm:m<=8)(ho:g9 o n)(hn:n<=2^40)(R:T.all (Ob.und 0)=true)(q:∀o' G H L C f h,g9 o' (n+8)->G.all (Ob.und 0)=true->Q (.nx,[v,s,some (.ref 0),z,some (webD w),H,L,C,f,h],o'::(T++G))):
  W (rJ [v,s,Z (.ref 0),z,Z (webD w),H,L,C,f,h] (o::T)) Q:=by
 have g:=hw.toWebJ.toK;unfold rJ;refine eU (λr V=>∃(A:List (List Nat)) (G:d7) (j:Nat),(∀t,t∈A↔Tn m w t)/\A.length<=8/\(T++G)[j]?=Z (.lst (tsD A))/\G.all (Ob.und 0)=M/\V=o::(T++G)/\r=[v,s,Z (.ref 0),z,Z (webD w),Z (.ref (j+1)),Z (.int m),C,f,h]) ?_ ?_
 ·wp_walk using gH,hw.len
  refine xz O (by rw[D.unds,eP];rfl) ((AX g a hm).mono ?_);rintro p ⟨k,ws,h1,h2,h3,P⟩;refine⟨k,gw m w ws m,h1,h2,h3,λG j B E am=>?_⟩;obtain⟨j,rfl⟩:∃wq,j=wq+1:=⟨j-1,by simp at am;lia⟩
  wp_walk using gH,hw.len
  rw[bm,gC1,wt]at B;refine⟨Eu m w ws,G,j,λt=>vG g a P,?_,B,E,O,O⟩;have:=lw (m:=m) (k:=m) (w:=w) (ws:=ws);rw[wt,lM1]at this;lia
 rintro r V ⟨A,G,j,I,K,B,E,rfl,rfl⟩;refine eU (λr V=>∃(e:List Nat) (o':Ob) (c:d7),nX m e/\g9 o' (n+8)/\c.all (Ob.und 0)=M/\V=o'::(T++G)++c/\r=[v,s,Z (.ref 0),z,Z (webD w),Z (.ref (j+1)),Z (.int m),Z (webD (ren m w e)),f,h]) ?_ ?_
 ·simp(implicitDefEqProofs:=J) only[eF,mN,d5,mV,gC1,dk,d6,oS1,b1,gN,c8,c5,bm,bJ,d9,ew,true_and,wc];refine wK (T:=T++G) ho (by lia) hm λe o' N b=>?_;refine eE (xs:=ei e) (by rw[gC1,fJ];rfl) ?_;refine x2 g a hm ⟨N⟩ ?_;refine⟨e,o',[.lst [],.lst (ei e)],⟨N⟩,b.more (by lia),?_,?_,O⟩
  ·rw[bS,bS,Ob.und,Ob.und,fv];rfl
  ·simp
 rintro r V ⟨e,o',c,F,b,y,rfl,rfl⟩;have hS:(o'::(T++G)++c).all (Ob.und 0)=M:=by
  rw[df,bS,df,R,E,y,b.und];rfl
 have ao:(o'::(T++G)++c)[j+1]?=Z (.lst (tsD A)):=by
  rw[bm,gC1,gL1 (PB B).1];exact B
 have X:o'::(T++G)++c=o'::(T++(G++c)):=by simp
 generalize hU:o'::(T++G)++c=U at *
 walk_at"w";refine⟨eV (n:=1) (by lia),eV (n:=m+1) (by lia),?_⟩;rw[show((m:Int)+1-1).toNat=m by lia,show(1:Int)=((1:Nat):Int)from rfl,EG];refine e6 (λ_ r V=>V=U /\ ∃f h,r=[v,s,Z (.ref 0),z,Z (webD w),Z (.ref (j+1)),Z (.int m),Z (webD (ren m w e)),f,h]) _ 0 _ _ ⟨O,_,_,O⟩ (λ_ _ _ _=>rfl) ?_ ?_
 ·rintro i d au r V ⟨rfl,S,aq,rfl⟩;rw[gP1]at au;obtain⟨i',l,rfl⟩:=PD au;have u:=(PB l).1;rw[dB]at u;rw[dA u]at l;cases l;walk_at"w";refine GT hw a hm (by lia) (by lia) F I K ao hS λx=>?_;exact⟨O,O,_,_,O⟩
 ·rintro r V ⟨rfl,S,aq,rfl⟩;rw[X];exact q o' (G++c) _ _ _ _ _ b (by rw[df,E,y];rfl)
inductive LF (N:D)(k:Int)(i:Nat):List D->Ev->d7->Prop
 |mk (Ws:List (Nat×d8)) (o:Ob) (x:Option D) (hi:i<=2) (hW:∀p∈Ws,0<p.1/\p.1<=8/\sI p.1 p.2) (hl:Ws.length=i) (ho:g9 o (300*i)):LF N k i (Ws.map λp=>webD p.2) [x,some (.ref 0)] [o]
inductive LD (N:D)(k:Int):Ev->d7->Prop
 |mk (Ws:List (Nat×d8)) (o:Ob) (hW:∀p∈Ws,0<p.1/\p.1<=8/\sI p.1 p.2) (hl:Ws.length=2) (ho:g9 o 600):LD N k [some N,some (.int k),some (.ref 0),some (.ref 1),none,none,none,none,none,none] [o,.lst (Ws.map λp=>webD p.2)]
inductive Lg (N:D)(k:Int)(T0:d7)(i:Nat):Ev->d7->Prop
 |mk (o:Ob) (G:d7) (x4 x5 x6 x7 x8 x9:Option D) (hi:i<=3) (ho:g9 o (600+8*i)) (hG:G.all (Ob.und 0)=true):Lg N k T0 i [some N,some (.int k),some (.ref 0),some (.ref 1),x4,x5,x6,x7,x8,x9] (o::(T0++G))
theorem Cp(ns:List Int)(k:Int)(V:0<=k)(hk:k<63):W (rH [Z (.rol (ns.map D.int)),Z (.int k),Y,Y,Y,Y,Y,Y,Y,Y] []) λp=>p.1 = .nx /\ ∃ao,p.2.1=Z (.rol (ns.map D.int))::ao/\ao.length=9:=by
 unfold rH;generalize Q:D.rol (ns.map D.int)=N;refine eU (λr S=>∃o,g9 o 0/\S=[o]/\r=[Z N,Z (.int k),Z (.ref 0),Y,Y,Y,Y,Y,Y,Y]) ?_ ?_
 ·obtain⟨o,e,A⟩:=D1 ns k V hk;rw[Q]at e
  wp_walk using e
  exact⟨o,A,O,trivial⟩
 rintro r S ⟨o,A,rfl,rfl⟩;refine eU (LD N k) ?_ ?_
 ·walk_at"w";refine⟨eV (n:=2) (by lia),?_⟩;rw[show((2:Int).toNat)=2 from rfl];refine gm (LF N k) (gb 0 2) 0 [] _ _ ⟨[],o,_,by lia,λp g=>(by cases g),O,A⟩ (λ_ _ _ _ _=>rfl) ?_ ?_
  ·rintro i d t X r S ⟨c,F,x,hi,u,B,f⟩;have y:=(PB t).1;rw[eM]at y;rw[bQ]at *
   walk_at"w";refine HV (T:=[]) f (by lia) O λm w rs o' j H K hrs l=>?_;refine ka (i:=0) (x:=webD w) O ?_;have em:(c.map λp=>webD p.2)++[webD w]=(c++[(m,w)]).map λp=>webD p.2:=by rw[cx];rfl
   rw[em];refine⟨c++[(m,w)],o',_,by lia,λp g=>?_,by rw[lA1,B];rfl,l.more (by lia)⟩;rcases aG.mp g with g|g
   ·exact u p g
   ·rw[cA]at g;subst g;exact⟨j,H,K⟩
  ·intro xs r S h;rw[eM,bQ,cW]at h;obtain⟨c,F,x,hi,u,B,f⟩:=h;refine⟨ed (by rw[lM1];lia),?_⟩;walk_at"w";exact⟨c,F,u,B,f⟩
 rintro r S ⟨c,o,u,B,A⟩;have z:∀d∈(c.map λp=>webD p.2)++(c.map λp=>webD p.2).take 1,∃m w,d=webD w/\0<m/\m<=8/\sI m w:=λd t=>by
  have:d∈c.map λp=>webD p.2:=by
   rcases aG.mp t with h|h
   ·exact h
   ·exact cH h
  obtain⟨p,g,rfl⟩:=PF this;exact⟨p.1,p.2,O,u p g⟩
 have v:D.unds 0 (c.map λp=>webD p.2)=M:=fj λp _=>eP _;have s:D.unds 0 ((c.map λp=>webD p.2).take 1)=M:=by rw[<- List.map_take];exact fj λp _=>eP _
 have q:D.unds 0 ((c.map λp=>webD p.2)++(c.map λp=>webD p.2).take 1)=M:=by rw[<- List.map_take,<- cx];exact fj λp _=>eP _
 have hll:(c.map λp=>webD p.2).length=2:=by rw[lM1,B]
 generalize (c.map λp=>webD p.2)=L at *
 unfold fz;rw[d9,sK];simp only[m2,mV,gC1,dk,dq,oP1,oS1,d5,d6,d9,ew];have C:W (oF (mV 3) kM (ni (mC (D.int 1))) [Z N,Z (.int k),Z (.ref 0),Z (.ref 1),Y,Y,Y,Y,Y,Y] [o,.lst L]) λp=>p=(.ref 2,[o,.lst L,.lst (L.take 1)]):=JG (n:=1) (k:=1) O O O O;refine C.mono ?_;rintro p rfl;refine(B1 (S:=[o,.lst L,.lst (L.take 1)]) (a:=1) (b:=2) (xs:=L) (ys:=L.take 1) O O).mpr ⟨ed (by rw[aT];lia),?_⟩;refine eE (n:=3) (xs:=L++L.take 1) O ?_;generalize E:[Ob.lst L,.lst (L.take 1),.lst (L++L.take 1)]=T0;have I:T0.all (Ob.und 0)=M:=by
  rw[<- E,bS,bS,bS,Ob.und,Ob.und,Ob.und,v,s,q];rfl
 have P:T0[2]?=Z (.lst (L++L.take 1)):=by rw[<- E];rfl
 have wq:(L++L.take 1).length<=3:=by rw[lA1,aT];lia
 generalize L++L.take 1=L2 at *
 refine e6 (Lg N k T0) L2 0 _ _ (by
  have:=Lg.mk (N:=N) (k:=k) (T0:=T0) (i:=0) o [] Y Y Y Y Y Y (by lia) A O;rw[aP]at this;have e9:o::T0=[o,Ob.lst L,Ob.lst (L.take 1)]++[Ob.lst L2]:=by rw[<- E];rfl
  rw[e9]at this;exact this) (λi r S h=>?_) ?_ ?_
 ·obtain⟨o,G,_,_,_,_,_,_,_,_,_⟩:=h;exact fm (n:=3) (by rw[gC1,gL1 (PB P).1];exact P)
 ·rintro i d t r S ⟨F,G,x4,aq,x6,R,U,x9,hi,f,au⟩;have y:=(PB t).1;obtain⟨m,w,rfl,j,H,K⟩:=z d (gM1 t);rw[bQ]at *
  walk_at"w";refine EX (T:=T0++G) K j H f (by lia) (by rw[df,I,au];rfl) λo' G' y5 y6 y7 y8 y9 l am=>?_;rw[bJ];exact⟨O,o',G++G',_,_,_,_,_,_,by lia,l.more (by lia),by rw[df,au,am];rfl⟩
 ·rintro r S ⟨o,G,x4,aq,x6,R,U,x9,_,_,_⟩;exact⟨O,_,O,O⟩
theorem truth(ns:List Int)(B:ns.length<=63):∃S,m_law [.rol (ns.map D.int)] []=Z (.bl M,S):=by
 have g:W (m_law [.rol (ns.map D.int)] []) λp=>p.1 = .bl M:=by
  unfold m_law;refine lh ?_;unfold BR;have s:(D.rol (ns.map D.int)).und 0=M:=by simp[D.und,mG]
  have u:=λk n q=>Cp ns k n q;generalize l:D.rol (ns.map D.int)=N at *
  have b:eQ N []=Z (.int ns.length,[]):=by rw[<- l];simp[eQ,eg]
  refine eU (λr S=>S=[]/\r=[Z N,Y,Y,Y,Y,Y,Y,Y,Y,Y]) ?_ ?_
  ·simp only [il,mP1,bc,lC1,bg,dm,Nat.reduceSub,Lr,bm,cW,fz,d9,ES,d5,mN,mC,mV,d6,b1,b2,D6,D5,b,ew,oS1,dk,Iq];have m:∃ t:Nat,t<=4/\(if (if (ns.length:Int)<4 then (ns.length:Int) else 4)>1 then (if (ns.length:Int)<4 then (ns.length:Int) else 4) else 1)=(t:Int):=by
    by_cases h1:(ns.length:Int)<4
    ·rw[ak h1];by_cases h2:(ns.length:Int)>1
     ·rw[ak h2];exact⟨ns.length,by lia,O⟩
     ·rw[aj h2];exact⟨1,by lia,O⟩
    ·rw[aj h1];exact⟨4,by lia,by decide⟩
   obtain⟨t,A,te⟩:=m;rw[te,NH];refine⟨eV (by lia),?_⟩;refine e6 (λ_ r S=>S=[]/\r=[Z N,Y,Y,Y,Y,Y,Y,Y,Y,Y]) _ 0 _ _ ⟨O,O⟩ (λ_ _ _ _=>rfl) ?_ ?_
   ·rintro i d y r S ⟨rfl,rfl⟩;obtain⟨k,e,w,C⟩:=t8 (gM1 y);subst e;simp only[gN,c8,c5,ew];obtain⟨⟨f,r2,z⟩,o,j,v,a,c⟩:=u k w (by lia);dsimp only at j a;subst j;subst a;refine W.of (x:=(.nx,[Z N,Y,Y,Y,Y,Y,Y,Y,Y,Y],[])) ?_ ⟨O,O,O⟩
    match v,c with
    |[z1,z2,z3,z4,z5,z6,z7,z8,z9],_=>
     unfold wJ qa;simp[ge,lE,D.und,s,o]
   ·rintro r S ⟨rfl,rfl⟩;exact⟨O,O,O⟩
  ·rintro r S ⟨rfl,rfl⟩;simp only[eW,mC,oS1,ew]
 obtain⟨⟨d,S⟩,e,h⟩:=g;dsimp only at h;exact⟨S,by rw[e,h]⟩
end Law
end
open PySem PySem.W PyProof.Rows
namespace PySem.W.Fast
def tw3710359249235623526:=()
def tw15320400925356315871:=()
def tw5864629404518298676:=()
def tw12571584267583264186:=()
def tw11301565797462421303:=()
def tw16143117436931119317:=()
def tw15866567720388948471:=()
def tw15437042109952362560:=()
def tw2139294534126319747:=()
def tw1807624444549366815:=()
def tw7757484413409250848:=()
def tw1410185621672469820:=()
def tw639120092556964887:=()
def tw9368574763158048388:=()
def tw13702613281425107453:=()
def tw2443188979797337754:=()
def tw13384582196026226847:=()
def tw1059166415588459053:=()
def tw14437122768347634977:=()
def tw1492711531219789246:=()
def tw5495496800411751842:=()
def tw16534008812629191506:=()
def tw2980978853840305244:=()
def tw17978995490930302846:=()
def tw6665935067160441162:=()
def tw8896023249295276126:=()
def tw2133973538539819254:=()
def tw17702742501118774092:=()
def tw15049877547820745044:=()
def tw4649359373075685857:=()
def tw4002116009734938937:=()
def tw14929268987924762633:=()
def tw2419270056753319725:=()
def tw15479944518733507711:=()
def tw714790209311970546:=()
def tw13056716119759046635:=()
def tw16907688507173869597:=()
def tw9782791074767762886:=()
def tw9961782541579735362:=()
def tw9861930321293843943:=()
def tw7877658366497665206:=()
def tw15081682957383724177:=()
def tw17799550232009191051:=()
def tw13882203272100766053:=()
def tw16349098868805688532:=()
def tw17952473282426242186:=()
def tw9513693719794088161:=()
def tw1600023064151170435:=()
def tw769894713168154269:=()
def tw12755661539027393300:=()
def tw14943375246650568218:=()
def tw2304441753439046445:=()
def tw9612518385684651975:=()
def tw12878902398552009567:=()
def tw10955686834914135666:=()
def tw8167973652376170679:=()
def tw10894760866250863128:=()
def tw4988844061201560644:=()
def tw13070435294385200072:=()
def tw2211884716067288380:=()
def tw5723185032891518006:=()
def tw14004617579931171540:=()
def tw5587378120130877081:=()
def tw9891929345983244599:=()
def tw11038541441621052516:=()
def tw8611138922478792930:=()
def tw8821623255333952488:=()
def tw9923409556690488708:=()
def tw14404717168453741546:=()
def tw13235718421303010411:=()
def tw133682183678580534:=()
def tw5940887588031180362:=()
def tw2787597665056955014:=()
def tw5975677646324658574:=()
def tw12401750634233645573:=()
def tw2321936887321080669:=()
def tw5507274348203084808:=()
def tw13372115722151519481:=()
def tw1964972280455431933:=()
def tw3091322623593166682:=()
def tw15817849779324369768:=()
def tw9517832191682630131:=()
def tw14872966649798666783:=()
def tw16150343199486465778:=()
def tw15072946579846930262:=()
def tw13403316311901789609:=()
def tw5107353321192754945:=()
def tw14955382294967987426:=()
def tw390234887937029305:=()
def tw12816516322654085711:=()
def tw17071665460894365962:=()
def tw12220452136226817810:=()
def tw2438943770225724205:=()
def tw5241965685934537247:=()
def tw13325957782249280161:=()
def tw7646557444189530555:=()
def tw2161929424700123630:=()
def tw6878748720854270753:=()
def tw6930957525125945461:=()
def tw3963248608495299144:=()
def tw6726066152920938443:=()
def tw10136152734153971005:=()
def tw10288199613716351885:=()
def tw4209619402997680825:=()
def tw8508571198321268756:=()
def tw16813585532315296533:=()
def tw9736398584157955220:=()
def tw15908873846958160649:=()
def tw14473824407832516814:=()
def tw10450117874689036649:=()
def tw2309984839616459022:=()
def tw3200893706945808591:=()
def tw4394881982137093667:=()
def tw2523542267993868648:=()
def tw13036069799158765007:=()
def tw4514908063048998183:=()
def tw11516359231018608635:=()
def tw6394872599697540061:=()
def tw14107700276315664468:=()
def tw7101295467242531575:=()
def tw6942594337000386368:=()
def tw14580605440230013119:=()
def tw15830243822103567567:=()
def tw277571505513742044:=()
def tw12052390457637668158:=()
def tw10166765941860007382:=()
end PySem.W.Fast
set_option maxRecDepth 100000 in
set_option maxHeartbeats 0 in
theorem PySem.Challenge.cw_ringmeet_k19_standings_told_holds : PySem.Challenge.rw_ringmeet_k19_standings_told.Holds := by
 w_on;refine PySem.W.holds_law (by decide+kernel) fun d=>?_;k_head;(case hw=>w_witness2)
 k_fill
 refine Mi.walk_m (l:=PySem.Challenge.rw_ringmeet_k19_standings_told) (m:=Law.m_law) (k:=10) (x:="_law_script") rfl rfl ⟨rfl,by decide,by decide,rfl⟩ (fun w h Y=>PySem.W.kIn_of Y) Law.truth ?F
 case F=>
  intro w mg f h e G b;refine' Law.all_mk e G b ?a1 ?a2 ?a3 ?a4 ?a5 ?a6 ?a7 ?a8 ?a9 ?a10 ?a11 ?a12 ?a13 ?a14 ?a15 ?a16 ?a17 ?a18 ?a19 ?a20 ?a21 ?a22 ?a23 ?a24 ?a25 ?a26 ?a27 ?a28 ?a29 ?a30 ?a31 ?a32 ?z
  all_goals try (refine' Mi.Ju ?a ?l ?c ?k;(case a=>k_is);(case l=>k_is);(case c=>k_is);(case k=>k_is))
  (case z=>exact ⟨by k_is,by k_is,by k_is,by k_is,by k_is,by k_is,by k_is,by k_is,by k_is,by k_is,by k_is,by k_is,by k_is,by k_is,trivial⟩)

