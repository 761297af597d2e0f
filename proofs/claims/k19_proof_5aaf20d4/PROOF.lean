import PyProof.Rows.All
import Wide.All
import OpenK.AllK
import Wide.FinOn
import Lean
import PyProof.EqAt
import PyProof.EqKinds
import PyProof.TupleCall
import PySem.Challenge.RW_ringmeet_k19_standings_told
set_option Elab.async false
set_option compiler.extract_closed false
set_option genSizeOf false
set_option bootstrap.genMatcherCode false
set_option linter.all false
set_option maxRecDepth 100000
set_option maxHeartbeats 4000000
open List renaming getElem?_eq_some_iff → gE1, getElem?_append_left → gL1, getElem?_eq_getElem → gG1, mem_of_getElem? → gM1, getElem?_set_ne → gS1, length_append → lA1, length_map → lM1, getElem?_cons_succ → gC1, mem_cons_of_mem → mC1, mem_cons_self → mS1, getElem?_map → gP1, getElem?_append_right → gR1, size_toArray → sT1, map_cons → mP1, length_cons → lC1, length_replicate → lR1, mem_append_right → mA1
open Option renaming bind_eq_some_iff → oB1, map_eq_some_iff → oM1, bind_some → oS1, map_some → oP1
open Nat renaming le_refl → nR1, lt_of_lt_of_le → nL1, ne_of_lt → nN1, ne_of_gt → nG1
open Bool renaming and_eq_true → bA1, false_eq_true → bF1
open Array renaming getElem?_eq_getElem → aG1, getElem?_toList → aT1
open PySem.W renaming Frag → Fg1, nsIn → wN1, keepIn → wK1, codeIn → wC1, fnOf → wF1, mg_of → wM1
open PySem.Heap renaming get?_push_of_some → hP1, get?_push_size → hS1, lt_size → hL1, size_push → hZ1, get?_update_ne → hU1, get?_update_self → hW1
open PySem renaming wpAny_bind → wB1, wpAny_pure → wP1, wpAny_setField_rec → wS1, wpAny_newObj_type → wO1, codeAny_builtin → wD1, wpAny_call_entry → wE1
open List renaming take_nil → av, drop_nil → aw, mem_filter → aA, mem_range → aB, filterMap_cons → aE, mem_cons → aF, mem_append → aG, mem_append_left → aH, getElem_inj → aI, getElem?_set_self → aJ, mem_filterMap → aM, any_eq_false → aN, append_nil → aP, nodup_cons → aQ, replicate → aR, length_take → aT, getElem?_replicate → aU, getElem?_take_of_lt → aV, take_sublist → aW, length_drop → aX, length_set → aY, length_singleton → a0, map_nil → bc, find?_cons → bd, any_cons → bf, length_nil → bg, cons_append → bm, prefix_rfl → bo, nodup_nil → bp, getElem?_of_mem → bq, map_map → bv, prefix_append → bw, nodup_append → bB, all_eq_true → bD, drop_drop → bF, mem_replicate → bG, forIn_cons → bH, lookup_cons → bI, append_assoc → bJ, getD_eq_getElem?_getD → bM, zipIdx_cons → bN, not_mem_nil → bO, all_cons → bS, any_eq_true → bU, getElem_mem → bV, zip_cons_cons → bW, drop_eq_getElem_cons → bX, cons_prefix_cons → bY, drop_zero → bZ, take_length → b4, ext_getElem? → b5, getElem?_eq_none → b6, findIdx?_eq_some_iff_getElem → b8, foldl_cons → ca, pairwise_singleton → cb, pairwise_cons → cc, mem_map → cg, getElem?_toArray → ck, mapM_toArray → cq, all_toArray → cr, length_eq_zero_iff → cs, take_succ → cv, map_append → cx, mem_singleton → cA, pairwise_iff_getElem → cC, forall_mem_nil → cD, pairwise_append → cE, take_append_drop → cF, drop_sublist → cG, mem_of_mem_take → cH, perm_append_comm → cI, take_succ_cons → cJ, take_zero → cK, getElem?_drop → cN, extract_eq_take_drop → cP, take_of_length_le → cQ, drop_of_length_le → cS, mem_of_mem_drop → cT, mem_reverse → cU, drop_append_of_le_length → cV, nil_append → cW, set_append_right → cY, set_cons_zero → c5, eraseIdx_cons_succ → c6, flatten_cons → c7, set_cons_succ → c8, length_pos_iff → c9, flatten_append → da, take_left → db, map_congr_left → de, all_append → df, map_id → di, mem_zipIdx_iff_getElem? → dj, getElem?_cons_zero → dk, length_filter_le → dr, pairwise_map → dt, nodup_range → dv, filter_append → dw, getElem?_concat_length → dy, getElem?_zipIdx → dz, getElem?_range → dA, length_range → dB, nodup_iff_pairwise_ne → dD, filter_cons_of_pos → dE, filter_cons_of_neg → dG, eq_nil_or_concat → dH, concat_eq_append → dI, take_add_one → dL
open Option renaming some → ay, isSome_iff_exists → aS, isSome_map → bh, getD_some → b9, join_some → dq
open Nat renaming lt_irrefl → az, le_trans → aC, le_of_lt → aD, le_succ → aZ, lt_trans → bi, zero_le → bj, add_assoc → bn, le_add_right → br, add_sub_cancel_left → bu, not_lt_zero → bA, min_eq_left → bC, lt_succ_self → bE, lt_of_le_of_lt → bK, le_of_succ_le → bL, zero_add → bQ, max_eq_right → ci, lt_succ_of_lt → cB, sub_self → cZ, add_zero → c0, reduceAdd → dm, pow_le_pow_right → dJ
open Array renaming length_toList → aK, mem_toList_iff → aO, perm_iff_toList_perm → cf, mem_of_getElem? → cj, toList_push → cu, toArray_toList → cy, getElem_mem → cM, toList_extract → cO, toList_append → cR, toList_reverse → cX
open Bool renaming false_ne_true → aL, and_true → bP, or_eq_true → bR, eq_iff_iff → bT, not_true → b7, not_false → cm, or_eq_false_iff → dg, eq_false_iff → dh
open PySem renaming Value → dM, Shared → dN, Addr → dP, Program → dQ, Around → dR, World → dS, mainGlobals → dU, starEach → dV, sizeLine → dW, wpAny → dX, codeAny → dY, Heap → dZ, FuncData → d2, Stmt → d3, Scope → d4
open Option renaming some → Z, none → Y
open Bool renaming true → M, false → J
theorem gu0(h0:True:=by repeat first|rfl|exact .inl rfl|assumption|apply Or.inr)(h1:True:=by decide)(h2:True:=by rfl)(h3:True:=by intro _;rfl)(h4:True:=by decide+kernel)(h5:True:=by assumption):True:=h0
namespace gu0
end gu0
open gu0 renaming _auto_1 → au0, _auto_2 → bu0, _auto_3 → cu0, _auto_4 → du0, _auto_5 → eu0, _auto_6 → fu0
theorem Mi.O{α}{a:α}:a=a:=rfl
open Mi (O)
open PySem.Value renaming int → aa, none → ab, bool → ae, ref → Mz, type → MB, notImplemented → OG
open PyProof.Rows renaming IsTup → MD, AllBare → MJ, callWith_type1 → Ni, envOfC → Ny, slot_tuple_getitem → NO, subscriptTail → NS, IntsAre → N0, step_dedup → ON, Keyed → OP, SortKind → OQ, SortSt → OR, arrOf → OS, failedOf → OT, pendingOf → OU, wpS_bind → OV, wpS_get → OW, wpS_pure → OX, wpS_lift → OY, wpS_forRange → OZ, wpS_mono → O2, wpS_modify → O3, pairsOf → O4, tuples' → O5, listItems_at → O7, seqObj → O8, sortedHeap → O9, listUpdate_at → Pa, seqEpoch_at → Pb
open PySem renaming sysModules → MF, bootBuiltins → MH, model → MN, backTo → MP, wpAny_mono → MQ, wpAny_truthy_bool → MR, wpAny_execs_nil → MV, swapsWith → MX, assign → MY, assignEach → MZ, Operator → M0, holding → M3, standAt → M4, wpAny_holding → M5, wpAny_standAt → M6, swapsWithSole → M7, swappedStores → M8, wpAny_rule → M9, PassesOwn → Na, wpAny_passesOwn → Nb, pyNext → Nc, letOwnedTupleGo → Nd, pyIter → Nf, rawInt → Ng, foldedSetIterable → Nj, binaryOp → Nk, compareOp → Nl, CmpOp → Nm, behindInMarks → Nn, sizeLine_eq → No, cLine → Nt, codeAny_mono → Nv, Keyword → Nw, NameKind → Nx, cellsFrom → Nz, mem_of_lookup → NB, IsPart → NK, wpAny_field → NL, wpAny_callSpecial?_slot → NM, wpAny_typeOf → NQ, sliceBounds → NU, attributeBase → NW, keywordEach → NX, DictEntry → N1, valueAt → N2, atKey → N3, tupleKind_room_in1 → N4, pushCells_keeps → Oa, compTurn → Oc, wpAny_seqItems → Oh, firstArgMember → Oi, IsEnum → Oj, wpAny_attempt → Ol, wpAny_newTuple → On, wpAny_letGo → Oq, wpAny_isInstance → Os, isSubtype_stop → Ot, IsZip → Ou, IsPair → Ov, wpAny_updateSeq_pair → Ox, richCompare → OB, wpAny_forIn_list → OC, plainId_quiet → OD, richCompare_meets_room → OF, wpAny_specialOf → OH, wpAny_callSpecialIfBoundUnlessNone?_slot → OI, eqIsQuiet_byValue → OK, scanBound → OO, wpAny_newList → Pc, wpAny_typeNameOfWhole_keyiter → Pg, wpAny_updateSeq → Pi, wpAny_runValue → Pj, argBest → Pr, wpAny_tryCatch → Pt
open PySem.Heap renaming get?_none_of_le → MK, SameBut → MM
open Ne renaming symm → ML
open False renaming elim → MU
open PySem.Builtin.Range renaming rangeSize → Nh
open PySem.W renaming kitOne → Np, kia_one → Nq, cellsFrom_some → NA
open True renaming intro → Nr
open PySem.Calls renaming spliced_cons → Nu, callWith_builtin → NY, evalArgs_plain → NZ
open PySem.F renaming slot_tuple_add → NC, entry_tuple_add → ND, args_tuple_add_2 → NE, slot_dict_get → N5, slot_tuple_iterator_next → Of, slot_enumerate_next → Om, slot_zip_next → Ow, slot_dict_keyiterator_next → Pf, plain_extend_loop → Ph, plain_min_loop → Ps, slot_list_pop → Pu, type_list_pop → Pv
open Int renaming toNat_natCast → NF
open PySem.Builtin.Slice renaming sliceAdjust → NG, slicePlaces → NI
open PySem.Str renaming ofString → NN
open PySem.Builtin.Tuple renaming tupleItemsOf → NP, tupleExact → NR, tupleHashOf → N6
open PySem.Obj renaming mapSeq → NT
open PySem.SeqAt renaming EqAt → NV, RcAt → OA
open PySem.NameKind renaming free → N8, cell → N9
open ForInStep renaming yield → Od, done → Po
open PySem.Builtin.SmallTypes renaming nextOf → Oe, ownedTupleIsFree → Oo, ownedTupleHandOut → Op
open PySem.Around renaming under_plainId → OE
open Classical renaming byContradiction → OJ
open PySem.AutoSeq1 renaming wpAny_loadPart' → OL
open PySem.MeetsSeq renaming plain_index_loop → OM
open PySem.Builtin.List renaming listItems → O6, listExtendWith → Pk
open PyProof.Rows.SortSt renaming mk' → Pe
open PySem.PassesOwn renaming never → Pm
open List.Perm renaming append_left → Pp
open Exists renaming elim → Pq
open List.Pairwise renaming imp_of_mem → Pw
def Mi.NH:=@if_false
def Mi.NJ:=@if_true
def Mi.N7:=@of_decide_eq_true
def Mi.Oy:=@or_false
def Mi.Oz:=@beq_self_eq_true
def Mi.O0:=@decide_true
def Mi.O1:=@decide_false
def Mi.Pd:=@bne_self_eq_false
def Mi.Pn:=@beq_iff_eq
noncomputable def Mi.Px{α}{l:List α}{i:Nat}{a:α}:=(List.getElem?_eq_some_iff (l:=l) (i:=i) (a:=a)).mp
noncomputable def Mi.Py{α β}{x:Option α}{f:α->Option β}{b:β}:=(Option.bind_eq_some_iff (x:=x) (f:=f) (b:=b)).mp
noncomputable def Mi.Pz{α β}{x:Option α}{f:α->β}{b:β}:=(Option.map_eq_some_iff (x:=x) (f:=f) (b:=b)).mp
noncomputable def Mi.PB{α β}{f:α->β}{l:List α}{b:β}:=(List.mem_map (f:=f) (l:=l) (b:=b)).mp
open Mi (NH NJ N7 Oy Oz O0 O1 Pd Pn Px Py Pz PB)
theorem Mi.al{p:Prop}[Decidable p]:(decide p=true)=p:=decide_eq_true_eq
theorem Mi.ak{c:Prop}{h:Decidable c}(a:c){α:Sort _}{t e:α}:ite c t e=t:=if_pos a
theorem Mi.aj{c:Prop}{h:Decidable c}(a:¬c){α:Sort _}{t e:α}:ite c t e=e:=if_neg a
theorem Mi.ai{p:Prop}[Decidable p]:¬p→decide p=false:=decide_eq_false
theorem Mi.ah{p:Prop}[Decidable p]:p→decide p=true:=decide_eq_true
open List renaming range → af
open Mi (al ak aj ai ah)
noncomputable section
namespace L2
open PySem PySem.Spec PyProof.Rows
abbrev Key:=Sum Int Str
noncomputable def qf:Key->dM->Bool
 | .inl k,v=>Value.isInt k v
 | .inr x,v=>Value.isStrOf x v
noncomputable def KO(w:dS):Key->Int
 | .inl k=>hashInt k
 | .inr x=>hashStr w x
theorem fA:∀{k:Key} {v:dM},qf k v=M->(∃i t,k=Sum.inl i/\v=aa i t)\/(∃x t,k=Sum.inr x/\v=Value.str x t)
 | .inl i,v,h=>by
  obtain⟨t,e⟩:=Value.isInt_shape (k:=i) (v:=v) h;exact .inl ⟨i,t,O,e⟩
 | .inr x,v,h=>by
  obtain⟨t,e⟩:=Value.isStrOf_shape (x:=x) (v:=v) h;exact .inr ⟨x,t,O,e⟩
theorem yr(i:Int)(t:Tok):qf (.inl i) (.int i t)=M:=by simp[qf,Value.isInt]
theorem yq(x:Str)(t:Tok):qf (.inr x) (.str x t)=M:=by simp[qf,Value.isStrOf]
theorem G6(a b:Int):decide ((Sum.inl a:Key)=Sum.inl b)=(a == b):=by
 by_cases e:a=b
 ·subst e;simp
 ·have h:¬ (Sum.inl a:Key)=Sum.inl b:=λq=>e (Sum.inl.inj q);rw[ai h];exact(beq_eq_false_iff_ne.mpr e).symm
theorem GZ(a b:Str):decide ((Sum.inr a:Key)=Sum.inr b)=decide (a=b):=by
 by_cases e:a=b
 ·subst e;simp
 ·have h:¬ (Sum.inr a:Key)=Sum.inr b:=λq=>e (Sum.inr.inj q);rw[ai h,ai e]
theorem G5(a:Int)(b:Str):decide ((Sum.inl a:Key)=Sum.inr b)=J:=ai (λq=>nomatch q)
theorem G0(a:Str)(b:Int):decide ((Sum.inr a:Key)=Sum.inl b)=J:=ai (λq=>nomatch q)
def fe(prog:dQ)(w:dS):PySem.KeyKind prog w Key where
 is:=qf
 hash:=KO w
 inj:=λv a b ha hb=>by
  rcases fA ha with⟨i,t,rfl,rfl⟩|⟨x,t,rfl,rfl⟩
  ·rcases fA hb with⟨j,u,rfl,e⟩|⟨y,u,rfl,e⟩
   ·injection e with e1 _;rw[e1]
   ·exact nomatch e
  ·rcases fA hb with⟨j,u,rfl,e⟩|⟨y,u,rfl,e⟩
   ·exact nomatch e
   ·injection e with e1 _;rw[e1]
 byValue:=λk v h=>by
  rcases fA h with⟨i,t,rfl,rfl⟩|⟨x,t,rfl,rfl⟩<;>rfl
 pyHash:=λhv h=>by
  rcases fA hv with⟨i,t,rfl,rfl⟩|⟨x,t,rfl,rfl⟩
  ·exact wpAny_pyHash_int h
  ·exact wpAny_pyHash_str h
 eqBool:=λhu hv h=>by
  rcases fA hu with⟨i,t,rfl,rfl⟩|⟨x,t,rfl,rfl⟩
  ·rcases fA hv with⟨j,u,rfl,rfl⟩|⟨y,u,rfl,rfl⟩
   ·rw[G6]at h;exact wpAny_eqBool_int h
   ·rw[G5]at h;exact SeqAt.EqAt.int_str i t y u _ _ _ _ h
  ·rcases fA hv with⟨j,u,rfl,rfl⟩|⟨y,u,rfl,rfl⟩
   ·rw[G0]at h;exact SeqAt.EqAt.str_int x t j u _ _ _ _ h
   ·rw[GZ]at h;exact wpAny_eqBool_str h
 «strs» :=λk x t v h=>by
  rcases fA h with⟨i,u,rfl,e⟩|⟨y,u,rfl,e⟩
  ·exact nomatch e
  ·injection e with e1 _;subst e1;cases v<;>rfl
theorem t5(prog:dQ)(w:dS)(i:Int)(t:Tok):(fe prog w).is (.inl i) (.int i t)=M:=yr i t
theorem t4(prog:dQ)(w:dS)(x:Str)(t:Tok):(fe prog w).is (.inr x) (.str x t)=M:=yq x t
inductive V where
 |non|bl (b:Bool)|int (i:Int)|str (x:Str)|byt (b:Array UInt8)|flt (b:UInt64)|ref (a:dP)|ty (n:String)
 deriving DecidableEq
def ew:V->dM->Prop
 | .non,u=>u=ab
 | .bl b,u=>u=ae b
 | .int i,u=>∃t,u=aa i t
 | .str x,u=>∃t,u=Value.str x t
 | .byt b,u=>∃t,u=Value.bytes b t
 | .flt b,u=>∃t,u=Value.float b t
 | .ref a,u=>u=Mz a
 | .ty n,u=>u=MB n
abbrev eH:List V->List dM->Prop:=Paired ew
theorem eH.length{xs:List V}{a:List dM}(r:eH xs a):xs.length=a.length:=Paired.length r
theorem eH.get:∀{xs:List V} {a:List dM} {i:Nat} {x:V},eH xs a->xs[i]?=Z x -> ∃u,a[i]?=Z u/\ew x u:=by
 intro xs a i x h e
 induction h generalizing i with
 |nil=>cases e
 |cons r t ih=>cases i with
  |zero=>cases e;exact⟨_,O,r⟩
  |succ i=>exact ih (i:=i) e
theorem eH.set{x:V}{u:dM}(r:ew x u):∀{xs:List V} {a:List dM} (i:Nat),eH xs a->eH (xs.set i x) (a.set i u):=by
 intro xs a i h
 induction h generalizing i with
 |nil=>exact .nil
 |cons q t ih=>cases i with
  |zero=>exact .cons r t
  |succ i=>exact .cons q (ih i)
theorem eH.append:∀{xs ys:List V} {a ws:List dM},eH xs a->eH ys ws->eH (xs++ys) (a++ws):=by
 intro xs ys a ws h s
 induction h with
 |nil=>exact s
 |cons r t ih=>exact .cons r ih
theorem eH.take:∀{xs:List V} {a:List dM} (n:Nat),eH xs a->eH (xs.take n) (a.take n):=by
 intro xs a n h
 induction h generalizing n with
 |nil=>rw[av,av];exact .nil
 |cons r t ih=>cases n with
  |zero=>exact .nil
  |succ n=>exact .cons r (ih n)
theorem eH.drop:∀{xs:List V} {a:List dM} (n:Nat),eH xs a->eH (xs.drop n) (a.drop n):=by
 intro xs a n h
 induction h generalizing n with
 |nil=>rw[aw,aw];exact .nil
 |cons r t ih=>cases n with
  |zero=>exact .cons r t
  |succ n=>exact ih n
def lc:Option V->Option dM->Prop
 |some v,Z u=>ew v u
 |none,Y=>True
 |_,_=>False
def KV{κ:Type}:List (κ×V)->List (κ×dM)->Prop:=Paired λ(p:κ×V) (q:κ×dM)=>p.1=q.1/\ew p.2 q.2
def kV:Key->V
 | .inl i=>.int i
 | .inr x=>.str x
inductive HO where
 /-- a list -/
 |lst (xs:List V)
 /-- a tuple (never changes) -/
 |tup (xs:List V)
 /-- a dict whose keys are ints and texts; one whose keys are tuples of ints and texts (the empty one is both) -/
 |dK (kvs:List (Key×V))|dT (kvs:List (List Key×V))
 /-- a set of ints: its members, its size -/
 |set (S:Int->Bool) (n:Nat)
 /-- an instance of the class at C, its dict at dx, its attributes -/
 |ins (C dx:dP) (fs:List (Str×V))
 /-- the dict of the instance at x -/
 |own (x:dP)
 /-- the dict of an exception -/
 |xd (fs:List (Str×V))
 /-- a bound method, f of x -/
 |met (f x:dP)
 /-- a range object lo, lo + 1, .. below hi -/
 |rng (lo hi:Int)
 /-- a thing that is known to the object (the script; a dict while a loop walks it): read, never written while it is so -/
 |frz (o:Obj) (u:HO)
 /-- a code object's table -/
 |tbl (ps:Array dM)
 /-- any other thing, by what is true of its one object (a def of one's own: SetO a S n := HO.ext λh => ..) -/
 |ext (φ:dZ->Prop)
abbrev Hp:=dP->Option HO
noncomputable def upd(H:Hp)(a:dP)(o:HO):Hp:=λb=>if b=a then Z o else H b
theorem eJ{H:Hp}{a:dP}{o:HO}:upd H a o a=Z o:=by unfold upd;rw[ak O]
theorem eE{H:Hp}{a b:dP}{o:HO}(h:b≠a):upd H a o b=H b:=by unfold upd;rw[aj h]
theorem IL{H:Hp}{a b:dP}{o u:HO}(h:H a=Z o)(h':H b=Z u)(d:o≠u):a≠b:=by
 intro e;subst e;rw[h]at h';exact d (Option.some.inj h')
theorem eO{H:Hp}{a b:dP}{o:HO}(h:H a=Z o)(h':H b=Y):a≠b:=by
 intro e;subst e;rw[h]at h';cases h'
section
variable(P:dQ) (w:dS)
def fb(H:Hp)(h:dZ)(a:dP):HO->Prop
 | .lst xs=>xs.length<=dW /\ ∃(its:List dM) (n:Nat),eH xs its/\h.get? a=Z {cls:=.type "list",data:=.seq its.toArray n}
 | .tup xs=>xs.length<=dW /\ ∃its:List dM,eH xs its/\MD h a its.toArray
 | .dK kvs=>kvs.length<=dW/\(a == MF)=J /\ ∃vs,KV kvs vs/\h.DictOf (fe P w) a vs
 | .dT kvs=>kvs.length<=dW/\(a == MF)=false /\ ∃ xs:List (List Key×dP×dM),
   Paired (λ(p:List Key×V) (q:List Key×dP×dM)=>p.1=q.1/\H q.2.1=Z (.tup (p.1.map kV))/\ew p.2 q.2.2) kvs xs /\
   ∃o es ep,h.get? a=Z o/\o.ExactDict/\o.data = .dict es ep/\es.toList=xs.map (entryOfKey (tupleKind (fe P w)))/\(xs.map (·.1)).Nodup
 | .set S n=>h.SetOf (intKind P w) a S n
 | .ins C dx fs=>H dx=some (.own a)/\fs.length<=1000/\dx≠a/\h.get? a=some (PySem.W.instObj C dx) /\
   ∃mA,h.Ns1 dx mA/\(∀f,lc (fs.lookup f) (mA f))/\PySem.Within mA (fs.map (·.1))
 | .own _=>∃o,h.get? a=Z o
 | .xd fs=>∃mA,h.Ns1 a mA /\ ∀f,lc (fs.lookup f) (mA f)
 | .rng lo hi=>∃t u v,h.get? a=Z {cls:=.type "range",data:=.fields #[.int lo t,.int hi u,.int 1 v]}
 | .frz o u=>h.get? a=Z o/\fb H h a u
 | .tbl ps=>h.get? a=Z {cls:=.none,data:=.fields ps}
 | .met f x=>h.get? a=Z (PySem.W.methodObj (.ref f) (.ref x))
 | .ext φ=>φ h/\(∃o,h.get? a=Z o) /\ ∀h1 h2:dZ,φ h1->(∀o,h1.get? a=Z o->h2.get? a=Z o)->φ h2
def lg(H:Hp)(h:dZ):Prop:=∀a o,H a=Z o->fb P w H h a o
end
section
variable{P:dQ}{w:dS}{H H':Hp}{h h':dZ}{a:dP}{o:HO}
theorem fb.lt(x:fb P w H h a o):a<h.objs.size:=by
 cases o with
 |lst xs=>obtain⟨_,_,_,_,e⟩:=x;exact hL1 e
 |tup xs=>obtain⟨_,_,_,p⟩:=x;exact p.lt
 |dK kvs=>obtain⟨_,_,_,_,o,_,_,e,_⟩:=x;exact hL1 e
 |dT kvs=>obtain⟨_,_,_,_,o,_,_,e,_⟩:=x;exact hL1 e
 |set S n=>obtain⟨o,_,_,_,e,_⟩:=x;exact hL1 e
 |ins C dx fs=>obtain⟨_,_,_,e,_⟩:=x;exact hL1 e
 |own y=>obtain⟨_,e⟩:=x;exact hL1 e
 |xd fs=>obtain⟨_,⟨_,_,_,e,_⟩,_⟩:=x;exact hL1 e
 |rng lo hi=>obtain⟨_,_,_,e⟩:=x;exact hL1 e
 |frz b u=>obtain⟨e,_⟩:=x;exact hL1 e
 |tbl ps=>exact hL1 (show h.get? a=Z _ from x)
 |met f y=>exact hL1 (show h.get? a=Z _ from x)
 |ext φ=>obtain⟨_,⟨_,e⟩,_⟩:=x;exact hL1 e
theorem Paired.mapP{α β:Type}{F G:α->β->Prop}:∀{c:List α} {l₂:List β},Paired F c l₂->(∀a b,F a b->G a b)->Paired G c l₂:=by
 intro a b h f
 induction h with
 |nil=>exact .nil
 |cons r t ih=>exact .cons (f _ _ r) ih
theorem fb.stay(x:fb P w H h a o)(k:∀ b u,(b=a\/H b=Z (.own a))->h.get? b=Z u->h'.get? b=Z u)(ho:∀b,H b=Z (.own a)->H' b=Z (.own a))(ht:∀b xs,H b=Z (.tup xs)->H' b=Z (.tup xs)):fb P w H' h' a o:=by
 induction o with
 |lst xs=>obtain⟨z,i,n,r,e⟩:=x;exact⟨z,i,n,r,k _ _ (.inl O) e⟩
 |tup xs=>obtain⟨z,i,r,g,e,c⟩:=x;exact⟨z,i,r,g,k _ _ (.inl O) e,c⟩
 |dK kvs=>obtain⟨z,y,vs,r,g,es,ep,e,c⟩:=x;exact⟨z,y,vs,r,g,es,ep,k _ _ (.inl O) e,c⟩
 |dT kvs=>
  obtain⟨z,y,xs,r,g,es,ep,e,c⟩:=x;exact⟨z,y,xs,Paired.mapP r λp q z=>⟨z.1,ht _ _ z.2.1,z.2.2⟩,g,es,ep,k _ _ (.inl O) e,c⟩
 |set S n=>obtain⟨g,es,ep,t,e,c⟩:=x;exact⟨g,es,ep,t,k _ _ (.inl O) e,c⟩
 |ins C dx fs=>
  obtain⟨d,z,ne,e,mA,⟨j,es,ep,l,c⟩,r⟩:=x;exact⟨ho _ d,z,ne,k _ _ (.inl O) e,mA,⟨j,es,ep,k _ _ (.inr d) l,c⟩,r⟩
 |own y=>obtain⟨g,e⟩:=x;exact⟨g,k _ _ (.inl O) e⟩
 |xd fs=>obtain⟨mA,⟨j,es,ep,e,c⟩,r⟩:=x;exact⟨mA,⟨j,es,ep,k _ _ (.inl O) e,c⟩,r⟩
 |rng lo hi=>obtain⟨t,u,v,e⟩:=x;exact⟨t,u,v,k _ _ (.inl O) e⟩
 |frz g u ih=>obtain⟨e,q⟩:=x;exact⟨k _ _ (.inl O) e,ih q⟩
 |tbl ps=>
  have e:h.get? a=Z {cls:=.none,data:=.fields ps}:=x;show h'.get? a=Z {cls:=.none,data:=.fields ps};exact k a _ (.inl O) e
 |met f y=>
  have e:h.get? a=Z (PySem.W.methodObj (.ref f) (.ref y)):=x;show h'.get? a=Z (PySem.W.methodObj (.ref f) (.ref y));exact k a _ (.inl O) e
 |ext φ=>obtain⟨p,⟨o,e⟩,st⟩:=x;exact⟨st _ _ p λo q=>k _ _ (.inl O) q,⟨o,k _ _ (.inl O) e⟩,st⟩
theorem lg.lt(x:lg P w H h)(e:H a=Z o):a<h.objs.size:=(x a o e).lt
theorem lg.fresh(x:lg P w H h)(e:h.objs.size<=a):H a=Y:=by
 cases q:H a with
 |none=>rfl
 |some u=>exact absurd (nL1 (x.lt q) e) (az _)
theorem lg.kept(x:lg P w H h)(k:∀b u,h.get? b=Z u->h'.get? b=Z u):lg P w H h':=λa o e=>
 (x a o e).stay (λb u _ q=>k b u q) (λ_ q=>q) λ_ _ q=>q
theorem lg.laid(x:lg P w H h)(k:∀b u,h.get? b=Z u->h'.get? b=Z u)(hp:h.objs.size<=a)(new:fb P w (upd H a o) h' a o):lg P w (upd H a o) h':=λb u e=>by
 have d:=x.fresh hp;by_cases f:b=a
 ·subst f;rw[eJ]at e;cases e;exact new
 ·rw[eE f]at e;exact(x b u e).stay (λc v _ q=>k c v q) (λc q=>by rw[eE (eO q d)];exact q) λc xs q=>by rw[eE (eO q d)];exact q
end
def Rd(H:Hp)(a:dP)(u:HO):Prop:=H a=Z u \/ ∃o,H a=Z (.frz o u)
theorem Rd.of{H:Hp}{a:dP}{u:HO}(h:H a=Z u):Rd H a u:=.inl h
theorem Rd.ok{P:dQ}{w:dS}{H:Hp}{h:dZ}{a:dP}{u:HO}(r:Rd H a u)(x:lg P w H h):fb P w H h a u:=by
 rcases r with r|⟨o,r⟩
 ·exact x a u r
 ·obtain⟨_,q⟩:=x a _ r;exact q
def HH:Option HO->Prop
 |some (.lst _)=>True
 |some (.dK _)=>True
 |some (.dT _)=>True
 |some (.set _ _)=>True
 |some (.ins _ _ _)=>True
 |some (.ext _)=>True
 |_=>False
section
variable{P:dQ}{w:dS}{H:Hp}{h h':dZ}{x e:dP}{o':HO}
theorem lg.write(ok:lg P w H h)(mu:HH (H x))(he:e=x\/H e=Z (.own x))(k:∀ b u,b≠e->h.get? b=Z u->h'.get? b=Z u)(i:∃ u,h'.get? e=Z u)(new:fb P w (upd H x o') h' x o'):lg P w (upd H x o') h':=λb u q=>by
 have d:∀c y,H c=Z (.own y)->c≠x:=λc y r z=>by subst z;rw[r]at mu;exact mu
 have f:∀c xs,H c=Z (.tup xs)->c≠x:=λc xs r z=>by subst z;rw[r]at mu;exact mu
 by_cases g:b=x
 ·subst g;rw[eJ]at q;cases q;exact new
 ·rw[eE g]at q;by_cases a:b=e
  ·have j:H b=some (.own x):=by
    rcases he with z|z
    ·exact absurd (a.trans z) g
    ·rw[a];exact z
   rw[q]at j;cases j;obtain⟨v,l⟩:=i;exact⟨v,by rw[a];exact l⟩
  ·refine(ok b u q).stay (λc v hc r=>k c v ?_ r) (λc r=>by rw[eE (d c b r)];exact r) λc xs r=>by rw[eE (f c xs r)];exact r
   rcases hc with rfl|hc
   ·exact a
   ·rintro rfl;rcases he with z|z
    ·exact d c b hc z
    ·rw[hc]at z;cases z;exact g O
end
structure Un (fs ex:List dP)(H H':Hp)(h h':dZ):Prop where
 keep:∀b o,h.get? b=some o->H b=none->b∉fs->b∉ex->h'.get? b=some o
 slot:∀b o,h.get? b=some o->H b=none->b∈fs->b∉ex -> ∃sl,h'.get? b=some {o with slots:=sl}
 free:∀b o,h.get? b=some o->H b=none->b∉ex->H' b=none
 there:∀b o,h.get? b=some o->b∉ex -> ∃o',h'.get? b=some o'
 tups:∀b xs,H b=some (.tup xs)->H' b=some (.tup xs)
 frzs:∀b o u,H b=some (.frz o u)->H' b=some (.frz o u)
 tbls:∀b ps,H b=some (.tbl ps) -> ∃more,H' b=some (.tbl (ps++more))
section
variable{fs fs' ex ex':List dP}{H H1 H2:Hp}{h h1 h2 h':dZ}{a x e:dP}{o:HO}
theorem Un.any(u:Un fs ex H H1 h h1){b:dP}{a:Obj}(q:h.get? b=Z a)(n:H b=Y)(hx:b∉ex):∃d,h1.get? b=Z {a with slots:=d}:=by
 by_cases c:b∈fs
 ·exact u.slot b a q n c hx
 ·exact⟨a.slots,u.keep b a q n c hx⟩
theorem Un.kept(k:∀b u,h.get? b=Z u->h'.get? b=Z u):Un fs ex H H h h':=
 ⟨λb a q _ _ _=>k b a q,λb a q _ _ _=>⟨a.slots,k b a q⟩,λ_ _ _ n _=>n,λb a q _=>⟨a,k b a q⟩,λ_ _ q=>q,λ_ _ _ q=>q,λ_ ps q=>⟨#[],by rw[q];simp⟩⟩
theorem Un.refl:Un fs ex H H h h:=Un.kept λ_ _ q=>q
theorem Un.laid(k:∀b u,h.get? b=Z u->h'.get? b=Z u)(hp:h.objs.size<=a)(hn:H a=Y):Un fs ex H (upd H a o) h h' where
 keep:=λb u q _ _ _=>k b u q
 slot:=λb u q _ _ _=>⟨u.slots,k b u q⟩
 free:=λb u q n _=>by rw[eE (nN1 (nL1 (hL1 q) hp))];exact n
 there:=λb u q _=>⟨u,k b u q⟩
 tups:=λb xs q=>by rw[eE (eO q hn)];exact q
 frzs:=λb u xs q=>by rw[eE (eO q hn)];exact q
 tbls:=λb ps q=>⟨#[],by rw[eE (eO q hn),q];simp⟩
theorem Un.write(mu:HH (H x))(he:e=x\/H e=Z (.own x))(k:∀b u,b≠e->h.get? b=Z u->h'.get? b=Z u)(c:∃u,h'.get? e=Z u):Un fs ex H (upd H x o) h h':=by
 have f:∀b,H b=Y->b≠x:=λb n z=>by subst z;rw[n]at mu;exact mu
 have g:∀b,H b=Y->b≠e:=λb n z=>by
  subst z;rcases he with r|r
  ·exact f b n r
  ·rw[n]at r;cases r
 have d:∀b u,H b=Z u -> ¬ HH (Z u)->b≠x:=λb u q nm z=>by subst z;rw[q]at mu;exact nm mu
 refine⟨λb u q n _ _=>k b u (g b n) q,λb u q n _ _=>⟨u.slots,k b u (g b n) q⟩,λb u q n _=>by rw[eE (f b n)];exact n,λb u q _=>?_,
  λb xs q=>by rw[eE (d b _ q λz=>z)];exact q,λb u xs q=>by rw[eE (d b _ q λz=>z)];exact q,λb ps q=>⟨#[],by rw[eE (d b _ q λz=>z),q];simp⟩⟩
 by_cases a:b=e
 ·subst a;exact c
 ·exact⟨u,k b u a q⟩
end
noncomputable def trk(h:dZ)(H:Hp):List dP:=(af h.objs.size).filter λa=>(H a).isSome
def sg(h:dZ)(H:Hp):dZ:=PySem.W.hideAll h (trk h H)
theorem yx(h:dZ)(H:Hp):(sg h H).objs.size=h.objs.size:=PySem.W.hideAll_size _ _
theorem Bk{h:dZ}{H:Hp}{b:dP}{o:Obj}(e:h.get? b=Z o)(n:H b=Y):(sg h H).get? b=Z o:=
 PySem.W.hideAll_get _ e λa=>by
  have q:(H b).isSome=M:=(aA.mp a).2;rw[n]at q;simp at q
theorem C7{h:dZ}{H:Hp}{b:dP}{o:Obj}(e:(sg h H).get? b=Z o):h.get? b=Z o/\H b=Y:=by
 have a:h.get? b=Z o:=PySem.W.of_hideAll (trk h H) e;refine⟨a,?_⟩;cases q:H b with
 |none=>rfl
 |some x=>
  have c:b∈trk h H:=aA.mpr ⟨aB.mpr (hL1 a),by simp[q]⟩;have z:(sg h H).get? b=Y:=PySem.W.hideAll_none (trk h H) c;rw[z]at e;cases e
noncomputable def Ee(g h:dZ)(L:dP):List (dP×Obj):=(af h.objs.size).filterMap λa=>if a=L\/(g.get? a).isSome=M then Y else(h.get? a).map λo=>(a,o)
def rest(g h:dZ)(L d:dP):List (dP×Obj):=(Ee g h L).filter λp=>decide (p.1≠d)
structure Mod (K:Fg1)(mg:Str->Option dM)(base:dZ):Prop where
 kin:K.In base
 glob:base.Ns dU mg
 blt:∃mb,base.Ns builtinsNs mb /\ ∀x:Str,x≠"__name__"->mb x=MH x
 nolimit:base.NoLimit
structure Cx where
 prog:dQ
 w:dS
 K:Fg1
 mg:Str->Option dM
 base:dZ
 A:dR
 N:List Str
 s₀:dN
 H₀:Hp
 env:Env
 outer:List Env
 stack:List Env
 ex:List dP
 fn:Str->Bool
 calm:Bool
 pn:List (dP×Obj)
 xe:dM->dN->Prop
def frs(l:List Env):List dP:=l.filterMap (·.frame)
abbrev Cx.fs(X:Cx):List dP:=frs X.outer
def Vis(sc:d4)(x:Str):Prop:=sc.names.lookup x=Z .local\/sc.names.lookup x=Z .cell\/sc.names.lookup x=Z .free
def uV(sc:d4)(x:Str):Prop:=sc.names.lookup x=Z .local\/sc.names.lookup x=Z .cell
def Lc(env:Env)(h:dZ)(m:Str->Option dM)(x:Str)(u:dM):Prop:=
 (env.kindOf x=Z .local/\m x=Z u)\/((env.kindOf x=Z .cell\/env.kindOf x=Z .free) /\ ∃c,env.cells.lookup x=Z c/\h.IsCell c (Z u))
structure Cx.Ok (X:Cx):Prop where
 mod:Mod X.K X.mg X.base
 kind:X.env.scope.kind = .function
 glob:X.env.globals=dU
 blt:X.env.builtins=builtinsNs
 above:X.s₀.heap.objs.size<=X.env.locals
 inj:∀x y c,X.env.cells.lookup x=some c->X.env.cells.lookup y=some c->x=y
 has:∀x,(X.env.kindOf x=some .cell\/X.env.kindOf x=some .free) -> ∃c,X.env.cells.lookup x=some c
 cab:∀x c,X.fn x=true->X.env.cells.lookup x=some c->X.s₀.heap.objs.size<=c
 hd:X.calm=true->X.A.handled=none
 frames:X.A.frames=some X.stack
 stk:X.stack=X.outer\/(X.stack=X.env::X.outer/\X.env.frame=some X.env.locals)
 exf:∀b∈X.ex,b≠X.env.locals /\ ∀x c,X.env.cells.lookup x=some c->c≠b
 bs:∀b o,X.base.get? b=some o->X.s₀.heap.get? b=some o/\X.H₀ b=none
 bsz:X.base.objs.size<=X.s₀.heap.objs.size
 noex:∀b o,X.base.get? b=some o->b∉X.ex
 exfs:∀b∈X.ex,b∉X.fs
 funs:X.s₀.heap.FunFrames X.base X.outer
 frf:∀b∈X.fs,X.H₀ b=none
structure Inv (X:Cx)(ag:List (dP×Obj))(σ:List (Option V))(H:Hp)(s:dN):Prop where
 ok:X.Ok
 os:s.os=X.s₀.os
 bare:MJ s.gens
 base:Un X.fs X.ex X.H₀ H X.s₀.heap s.heap
 loc:∃m,s.heap.Ns X.env.locals m /\ ∀(i:Nat) (x:Str) (v:V),X.N[i]?=some x->σ[i]?=some (some v)->Vis X.env.scope x -> ∃u,ew v u/\Lc X.env s.heap m x u
 cell:∀x c,X.env.cells.lookup x=some c -> ∃v,s.heap.IsCell c v
 free:H X.env.locals=none
 freeC:∀x c,X.env.cells.lookup x=some c->H c=none
 pin:∀p∈X.pn++ag,s.heap.get? p.1=some p.2/\H p.1=none/\p.1≠X.env.locals/\p.1∉X.fs /\ ∀v,p.2.data ≠ .cell v
 hok:lg X.prog X.w H s.heap
 len:σ.length=X.N.length
variable{X:Cx}
section
variable{ag:List (dP×Obj)}{σ:List (Option V)}{H H':Hp}{s:dN}{h':dZ}
theorem Cx.Ok.nofr(ok:X.Ok){b:dP}{o:Obj}(e:X.base.get? b=Z o):b∉X.fs:=λa=>by
 have:=(ok.funs.mem a).1;rw[e]at this;cases this
theorem Inv.bs(I:Inv X ag σ H s):∀b o,X.base.get? b=Z o->s.heap.get? b=Z o/\H b=Y:=λb o e=>
 ⟨I.base.keep b o (I.ok.bs b o e).1 (I.ok.bs b o e).2 (I.ok.nofr e) (I.ok.noex b o e),I.base.free b o (I.ok.bs b o e).1 (I.ok.bs b o e).2 (I.ok.noex b o e)⟩
theorem Inv.bk(I:Inv X ag σ H s):∀b o,X.base.get? b=Z o->s.heap.get? b=Z o:=λb o e=>(I.bs b o e).1
theorem Inv.mod(I:Inv X ag σ H s):Mod X.K X.mg X.base:=I.ok.mod
theorem Inv.kIn(I:Inv X ag σ H s):X.K.In s.heap:=I.ok.mod.kin.keeps I.bk
theorem Inv.lt(I:Inv X ag σ H s):X.env.locals<s.heap.objs.size:=let ⟨_,hn,_⟩:=I.loc;hn.lt
theorem Inv.sz(I:Inv X ag σ H s):X.s₀.heap.objs.size<=s.heap.objs.size:=aC I.ok.above (aD I.lt)
theorem Inv.nofs(I:Inv X ag σ H s){a:dP}(h:s.heap.objs.size<=a):a∉X.fs:=λc=>by
 obtain⟨_,o,b,_⟩:=I.ok.funs.mem c;exact absurd (nL1 (hL1 b) (aC I.sz h)) (az _)
theorem Inv.cne(I:Inv X ag σ H s):∀x c,X.env.cells.lookup x=Z c->c≠X.env.locals:=λx c e z=>by
 obtain⟨v,o,d,f⟩:=I.cell x c e;obtain⟨m,⟨o',es,ep,a,b,_⟩,_⟩:=I.loc;rw[z,a]at d;cases d;rw[b]at f;cases f
theorem Inv.funs(I:Inv X ag σ H s):s.heap.FunFrames X.base X.outer:=by
 have all:∀(l:List Env),(∀b∈frs l,b∈X.fs)->X.s₀.heap.FunFrames X.base l->s.heap.FunFrames X.base l:=by
  intro l
  induction l with
  |nil=>intro _ _;trivial
  |cons k r ih=>
   intro f h;obtain⟨g,⟨L,o,c,m,n,j⟩,i⟩:=h;have a:L∈X.fs:=f L (by unfold frs;rw[aE,c];exact mS1);obtain⟨p,e⟩:=I.base.slot L o n (I.ok.frf L a) a λz=>I.ok.exfs L z a;exact⟨g,⟨L,_,c,m,e,j⟩,ih (λb d=>f b (by unfold frs;rw[aE,c];exact mC1 _ d)) i⟩
 exact all X.outer (λ_ d=>d) I.ok.funs
theorem Inv.stack(I:Inv X ag σ H s):s.heap.FunFrames X.base X.stack:=by
 rcases I.ok.stk with e|⟨e,a⟩
 ·rw[e];exact I.funs
 ·rw[e];obtain⟨m,b,_⟩:=I.loc;refine .cons (by rw[I.ok.kind];decide) a b ?_ I.funs;exact MK (aC I.ok.bsz I.ok.above)
theorem Inv.stkSub(I:Inv X ag σ H s):∀b∈frs X.stack,b∈X.env.locals::X.fs:=λb a=>by
 rcases I.ok.stk with e|⟨e,c⟩
 ·rw[e]at a;exact mC1 _ a
 ·rw[e]at a;unfold frs at a;rw[aE,c]at a;exact a
theorem Inv.stkFree(I:Inv X ag σ H s):∀b∈frs X.stack,H b=Y:=λb a=>by
 rcases aF.mp (I.stkSub b a)with e|a
 ·rw[e];exact I.free
 ·obtain⟨_,o,c,_⟩:=I.ok.funs.mem a;exact I.base.free b o c (I.ok.frf b a) λz=>I.ok.exfs b z a
theorem Inv.step{g':Array GenState}{t':Nat}{d':Drawn}{ch:List dP}(I:Inv X ag σ H s)(g:∀b∈ch,(b∈X.ex\/X.s₀.heap.objs.size<=b)/\b≠X.env.locals/\(∀x c,X.env.cells.lookup x=some c->c≠b) /\ ∀p∈X.pn++ag,p.1≠b)(keep:∀b o,b≠X.env.locals->b∉X.fs->b∉ch->s.heap.get? b=some o->H b=none->h'.get? b=some o)(slot:∀b o,b≠X.env.locals->b∈X.fs->b∉ch->s.heap.get? b=some o->H b=none -> ∃ao,h'.get? b=some {o with slots:=ao})(f:∀b o,b∉ch->s.heap.get? b=some o->H b=none->H' b=none)(A:∀b o,b∉ch->s.heap.get? b=some o -> ∃o',h'.get? b=some o')(E:∀b xs,H b=some (.tup xs)->H' b=some (.tup xs))(G:∀b o u,H b=some (.frz o u)->H' b=some (.frz o u))(F:∀b ps,H b=some (.tbl ps) -> ∃more,H' b=some (.tbl (ps++more)))(ns:∀m,s.heap.Ns X.env.locals m->h'.Ns X.env.locals m)(am:lg X.prog X.w H' h')(hg:MJ g'):
  Inv X ag σ H' {s with heap:=h',gens:=g',drawn:=d',toks:=t'}:=by
 have D:∀b o,X.s₀.heap.get? b=Z o->b≠X.env.locals:=λb o e=>nN1 (nL1 (hL1 e) I.ok.above);have w:∀b o,X.s₀.heap.get? b=Z o->b∉X.ex->b∉ch:=λb o e a y=>by
  rcases(g b y).1 with z|z
  ·exact a z
  ·exact absurd (nL1 (hL1 e) z) (az _)
 have j:∀x c,X.env.cells.lookup x=Z c -> ∀v,s.heap.IsCell c v->h'.IsCell c v:=λx c e v ⟨o,B,L⟩=>by
  have h:c∉ch:=λz=>(g c z).2.2.1 x c e O;by_cases hc:c∈X.fs
  ·obtain⟨ao,q⟩:=slot c o (I.cne x c e) hc h B (I.freeC x c e);exact⟨_,q,L⟩
  ·exact⟨o,keep c o (I.cne x c e) hc h B (I.freeC x c e),L⟩
 refine⟨I.ok,I.os,hg,⟨λb o e n y a=>?_,λb o e n y a=>?_,λb o e n a=>?_,λb o e a=>?_,λb xs e=>E b xs (I.base.tups b xs e),λb o xs e=>G b o xs (I.base.frzs b o xs e),λb ps e=>?_⟩,?_,λx c e=>?_,?_,λx c e=>?_,λp N=>?_,am,I.len⟩
 ·exact keep b o (D b o e) y (w b o e a) (I.base.keep b o e n y a) (I.base.free b o e n a)
 ·obtain⟨ao,t⟩:=I.base.slot b o e n y a;obtain⟨K,C⟩:=slot b _ (D b o e) y (w b o e a) t (I.base.free b o e n a);exact⟨K,C⟩
 ·obtain⟨o',t⟩:=I.base.there b o e a;exact f b o' (w b o e a) t (I.base.free b o e n a)
 ·obtain⟨o',t⟩:=I.base.there b o e a;exact A b o' (w b o e a) t
 ·obtain⟨m1,t⟩:=I.base.tbls b ps e;obtain⟨m2,C⟩:=F b _ t;exact⟨m1++m2,by rw[C,Array.append_assoc]⟩
 ·obtain⟨m,Q,R⟩:=I.loc;refine⟨m,ns m Q,λi x v t C P=>?_⟩;obtain⟨u,r,l⟩:=R i x v t C P;refine⟨u,r,?_⟩;rcases l with l|⟨k,c,e,z⟩
  ·exact .inl l
  ·exact .inr ⟨k,c,e,j x c e _ z⟩
 ·obtain⟨v,z⟩:=I.cell x c e;exact⟨v,j x c e v z⟩
 ·obtain⟨m,⟨o,_,_,B,_⟩,_⟩:=I.loc;exact f _ o (λz=>(g _ z).2.1 O) B I.free
 ·obtain⟨v,o,B,L⟩:=I.cell x c e;exact f c o (λz=>(g c z).2.2.1 x c e O) B (I.freeC x c e)
 ·obtain⟨e,n,ne,au,d⟩:=I.pin p N;have h:p.1∉ch:=λz=>(g p.1 z).2.2.2 p N O;exact⟨keep p.1 p.2 ne au h e n,f p.1 p.2 h e n,ne,au,d⟩
theorem Inv.un{t':Nat}(I:Inv X ag σ H s)(u:Un X.fs [] H H' s.heap h')(d:lg X.prog X.w H' h'):Inv X ag σ H' {s with heap:=h',toks:=t'}:=by
 obtain⟨m,⟨o,es,ep,h,r⟩,_⟩:=id I.loc;obtain⟨l,i⟩:=u.any h I.free (by simp);exact I.step (g':=s.gens) (d':=s.drawn) (ch:=[]) (λ_ z=>nomatch z) (λb o _ g _ e n=>u.keep b o e n g (by simp)) (λb o _ g _ e n=>u.slot b o e n g (by simp)) (λb o _ e n=>u.free b o e n (by simp)) (λb o _ e=>u.there b o e (by simp)) u.tups u.frzs u.tbls (λp k=>by
  obtain⟨o',c,f,a,j⟩:=k;rw[h]at a;cases a;exact⟨_,c,f,i,j⟩) d I.bare
theorem Inv.call{g':Array GenState}{t':Nat}{d':Drawn}{ch:List dP}(I:Inv X ag σ H s)(u:Un (frs X.stack) ch H H' s.heap h')(h:lg X.prog X.w H' h')(hg:MJ g')(a:∀b∈ch,(b∈X.ex\/X.s₀.heap.objs.size<=b)/\b≠X.env.locals/\(∀x c,X.env.cells.lookup x=some c->c≠b) /\ ∀p∈X.pn++ag,p.1≠b):
  Inv X ag σ H' {s with heap:=h',gens:=g',drawn:=d',toks:=t'}:=by
 obtain⟨m,⟨o,es,ep,j,r⟩,_⟩:=id I.loc;obtain⟨t,f⟩:=u.any j I.free λz=>(a _ z).2.1 O;exact I.step (ch:=ch) a (λb o f l hc e n=>u.keep b o e n (λz=>(aF.mp (I.stkSub b z)).elim f l) hc) (λb o _ _ hc e n=>u.any e n hc) (λb o hc e n=>u.free b o e n hc) (λb o hc e=>u.there b o e hc) u.tups u.frzs u.tbls (λv q=>by
  obtain⟨o',g,i,d,k⟩:=q;rw[j]at d;cases d;exact⟨_,g,i,f,k⟩) h hg
theorem Inv.turned{t':Nat}{it:dP}(I:Inv X ag σ H s)(k:∀ b o,b≠it->s.heap.get? b=Z o->h'.get? b=Z o)(hn:H it=Y)(d:it≠X.env.locals)(h1:it∈X.ex\/X.s₀.heap.objs.size<=it)(h2:∀x c,X.env.cells.lookup x=Z c->c≠it)(f:∀p∈X.pn++ag,p.1≠it):Inv X ag σ H {s with heap:=h',toks:=t'}:=by
 have a:∀b u,H b=Z u->b≠it:=λb u e z=>by rw[z,hn]at e;cases e
 refine I.step (g':=s.gens) (d':=s.drawn) (ch:=[it]) (λb g=>?_) (λb o _ _ hc e _=>k b o (λz=>hc (by simp[z])) e) (λb o _ _ hc e _=>⟨o.slots,k b o (λz=>hc (by simp[z])) e⟩) (λ_ _ _ _ n=>n)
  (λb o hc e=>⟨o,k b o (λz=>hc (by simp[z])) e⟩) (λ_ _ e=>e) (λ_ _ _ e=>e) (λb ps e=>⟨#[],by rw[e];simp⟩) (λm i=>?_) (λb u e=>?_) I.bare
 ·have e:b=it:=by simpa using g
  subst e;exact⟨h1,d,h2,f⟩
 ·obtain⟨o,es,ep,h,r⟩:=i;exact⟨o,es,ep,k _ o (ML d) h,r⟩
 ·refine(I.hok b u e).stay (λc v hc q=>k c v ?_ q) (λ_ q=>q) λ_ _ q=>q;rcases hc with z|z
  ·rw[z];exact a b u e
  ·exact a c _ z
theorem Inv.tok(I:Inv X ag σ H s)(t:Nat):Inv X ag σ H {s with toks:=t}:=I.un (h':=s.heap) (t':=t) Un.refl I.hok
theorem Inv.kept{t':Nat}(I:Inv X ag σ H s)(k:∀b u,s.heap.get? b=Z u->h'.get? b=Z u):Inv X ag σ H {s with heap:=h',toks:=t'}:=I.un (Un.kept k) (I.hok.kept k)
theorem Inv.laid{a:dP}{o:HO}{t':Nat}(I:Inv X ag σ H s)(k:∀ b u,s.heap.get? b=some u->h'.get? b=some u)(hp:s.heap.objs.size<=a)(new:fb X.prog X.w (upd H a o) h' a o):
  Inv X ag σ (upd H a o) {s with heap:=h',toks:=t'}:=I.un (Un.laid k hp (I.hok.fresh hp)) (I.hok.laid k hp new)
theorem Inv.write{x e:dP}{o:HO}{t':Nat}(I:Inv X ag σ H s)(mu:HH (H x))(he:e=x\/H e=Z (.own x))(k:∀ b u,b≠e->s.heap.get? b=Z u->h'.get? b=Z u)(a:∃ u,h'.get? e=Z u)(new:fb X.prog X.w (upd H x o) h' x o):Inv X ag σ (upd H x o) {s with heap:=h',toks:=t'}:=I.un (Un.write mu he k a) (I.hok.write mu he k a new)
theorem Inv.pins_of{a:List (dP×Obj)}(I:Inv X ag σ H s)(h:∀p∈a,s.heap.get? p.1=Z p.2/\H p.1=Y/\p.1≠X.env.locals/\p.1∉X.fs /\ ∀v,p.2.data ≠ .cell v):Inv X a σ H s:=
 ⟨I.ok,I.os,I.bare,I.base,I.loc,I.cell,I.free,I.freeC,λp b=>(aG.mp b).elim (λz=>I.pin p (aH _ z)) (h p),I.hok,I.len⟩
theorem tZ{N:List Str}(hN:N.Nodup){i j:Nat}{x:Str}(a:N[i]?=Z x)(b:N[j]?=Z x):i=j:=by
 obtain⟨h1,d⟩:=Px a;obtain⟨h2,c⟩:=Px b;exact(aI hN).mp (d.trans c.symm)
theorem xU{ao:Model}{A:dR}{E:dM->dN->Prop}{i:Nat}{x:Str}{v:V}{u:dM}{Q:Unit->dN->Prop}(I:Inv X ag σ H s)(hN:X.N.Nodup)(hi:X.N[i]? = Z x)(hx:uV X.env.scope x)(r:ew v u)(h:∀s',Inv X ag (σ.set i (Z v)) H s'->(∃a,MM a s.heap s'.heap/\(a=X.env.locals\/X.env.cells.lookup x=Z a))->Q () s')(hf:autoParam (X.fn x=M\/X.env.scope.names.lookup x=Z .local) au0):dX ao A (storeName X.env x u) Q E s:=by
 obtain⟨m,W,hl⟩:=id I.loc;have N:(X.env.scope.kind == .class||(X.env.scope.kind == .module&&X.env.locals != X.env.globals))=J:=by rw[I.ok.kind];rfl
 have B:i<σ.length:=by rw[I.len];exact(Px hi).1
 have cne:=I.cne;have tracked:∀{a:dP} {h':dZ},(∃o,s.heap.get? a=Z o/\H a=Y)->MM a s.heap h'->lg X.prog X.w H h':=λ{a h'} ha f b ob e=>by
  obtain⟨_,_,l⟩:=ha;refine(I.hok b ob e).stay (λc P hc q=>(f.2 c ?_).trans q) (λ_ q=>q) λ_ _ q=>q;rintro rfl;rcases hc with rfl|hc
  ·rw[l]at e;cases e
  ·rw[l]at hc;cases hc
 rcases hx with w|w
 ·refine wpAny_storeName_local w W (λh' hn' f=>?_) N;obtain⟨oL,_,_,R,_⟩:=id W;refine h _ ⟨I.ok,I.os,I.bare,⟨λb o e n D hx=>?_,λb o e n D hx=>?_,I.base.free,λb o e hx=>?_,I.base.tups,I.base.frzs,I.base.tbls⟩,⟨_,hn',λj y T g t U=>?_⟩,λy c e=>?_,I.free,I.freeC,λp S=>?_,tracked ⟨oL,R,I.free⟩ f,by simpa using I.len⟩ ⟨_,f,.inl O⟩
  ·exact(f.2 b (nN1 (nL1 (hL1 e) I.ok.above))).trans (I.base.keep b o e n D hx)
  ·obtain⟨wq,g⟩:=I.base.slot b o e n D hx;exact⟨wq,(f.2 b (nN1 (nL1 (hL1 e) I.ok.above))).trans g⟩
  ·obtain⟨o',g⟩:=I.base.there b o e hx;exact⟨o',(f.2 b (nN1 (nL1 (hL1 e) I.ok.above))).trans g⟩
  ·by_cases C:j=i
   ·subst C;rw[hi]at g;cases g;rw[aJ B]at t;cases t;exact⟨u,r,.inl ⟨w,by simp⟩⟩
   ·rw[gS1 (ML C)]at t;obtain⟨aq,r',q⟩:=hl j y T g t U;refine⟨aq,r',?_⟩;rcases q with⟨k,e⟩|⟨k,c,e,z⟩
    ·refine .inl ⟨k,?_⟩;have:y≠x:=λe=>C (tZ hN g (e ▸ hi));simp[this,e]
    ·exact .inr ⟨k,c,e,z.sameBut f (cne y c e)⟩
  ·obtain⟨P,z⟩:=I.cell y c e;exact⟨P,z.sameBut f (cne y c e)⟩
  ·obtain⟨e,n,ne,nf,d⟩:=I.pin p S;exact⟨(f.2 p.1 ne).trans e,n,ne,nf,d⟩
 ·have F:X.fn x=true:=by
   rcases hf with z|z
   ·exact z
   ·rw[z]at w;cases w
  obtain⟨c,hc⟩:=I.ok.has x (.inl w);obtain⟨P,z⟩:=I.cell x c hc;refine wpAny_storeName_cell I.ok.kind w hc z (λh' K f=>?_);obtain⟨oc,L,am⟩:=id z;refine h {s with heap:=h'} ⟨I.ok,I.os,I.bare,⟨λb o e n D hx=>?_,λb o e n D hx=>?_,I.base.free,λb o e hx=>?_,I.base.tups,I.base.frzs,I.base.tbls⟩,⟨m,W.sameBut f (ML (cne x c hc)),λj y T g t U=>?_⟩,λy au e=>?_,I.free,I.freeC,λp S=>?_,tracked ⟨oc,L,I.freeC x c hc⟩ f,by simpa using I.len⟩ ⟨c,f,.inr hc⟩
  ·exact(f.2 b (nN1 (nL1 (hL1 e) (I.ok.cab x c F hc)))).trans (I.base.keep b o e n D hx)
  ·obtain⟨wq,g⟩:=I.base.slot b o e n D hx;exact⟨wq,(f.2 b (nN1 (nL1 (hL1 e) (I.ok.cab x c F hc)))).trans g⟩
  ·obtain⟨o',g⟩:=I.base.there b o e hx;exact⟨o',(f.2 b (nN1 (nL1 (hL1 e) (I.ok.cab x c F hc)))).trans g⟩
  ·by_cases C:j=i
   ·subst C;rw[hi]at g;cases g;rw[aJ B]at t;cases t;exact⟨u,r,.inr ⟨.inl w,c,hc,K⟩⟩
   ·rw[gS1 (ML C)]at t;obtain⟨aq,r',q⟩:=hl j y T g t U;refine⟨aq,r',?_⟩;rcases q with q|⟨k,au,e,z'⟩
    ·exact .inl q
    ·refine .inr ⟨k,au,e,z'.sameBut f ?_⟩;rintro rfl;exact C (tZ hN g (I.ok.inj _ _ _ e hc ▸ hi))
  ·by_cases G:au=c
   ·subst G;exact⟨_,K⟩
   ·obtain⟨w2,z2⟩:=I.cell y au e;exact⟨w2,z2.sameBut f G⟩
  ·obtain⟨e,n,ne,nf,d⟩:=I.pin p S;refine⟨(f.2 p.1 ?_).trans e,n,ne,nf,d⟩;intro q;rw[q,L]at e;have q':oc=p.2:=Option.some.inj e;exact d P (by rw[<- q'];exact am)
theorem jx{ao:Model}{A:dR}{E:dM->dN->Prop}{i:Nat}{x:Str}{v:V}{u:dM}{Q:Unit->dN->Prop}(I:Inv X ag σ H s)(hN:X.N.Nodup)(hi:X.N[i]? = Z x)(hx:uV X.env.scope x)(r:ew v u)(h:∀s',Inv X ag (σ.set i (Z v)) H s'->Q () s')(hf:autoParam (X.fn x=M\/X.env.scope.names.lookup x=Z .local) au0):dX ao A (storeName X.env x u) Q E s:=
 xU I hN hi hx r (λs' a _=>h s' a) hf
theorem Inv.call'{s':dN}{ch:List dP}(I:Inv X ag σ H s)(ho:s'.os=s.os)(u:Un (frs X.stack) ch H H' s.heap s'.heap)(a:lg X.prog X.w H' s'.heap)(hg:MJ s'.gens)(d:∀b∈ch,(b∈X.ex\/X.s₀.heap.objs.size<=b)/\b≠X.env.locals/\(∀x c,X.env.cells.lookup x=Z c->c≠b) /\ ∀p∈X.pn++ag,p.1≠b):Inv X ag σ H' s':=by
 obtain⟨h',h,f,g,o'⟩:=s';have e:o'=s.os:=ho;subst e;exact I.call (g':=h) (t':=g) (d':=f) u a hg d
end
abbrev XK:=dM->Option dP->Hp->Prop
abbrev St:=List (Option V)
abbrev VK:=V->Hp->Prop
abbrev TE:=St->Hp->VK->Prop
abbrev TT:=St->Hp->(Bool->Hp->Prop)->Prop
abbrev TA:=St->Hp->(List V->Hp->Prop)->Prop
structure jr where
 nx:St->Hp->Prop
 rt:VK
 bk:St->Hp->Prop:=λ_ _=>False
 ct:St->Hp->Prop:=λ_ _=>False
abbrev TS:=jr->St->Hp->Prop
def EP(X:Cx)(ag:List (dP×Obj))(σ:St)(Q:VK)(u:dM)(s':dN):Prop:=∃v H',Inv X ag σ H' s'/\ew v u/\Q v H'
def TP(X:Cx)(ag:List (dP×Obj))(σ:St)(Q:Bool->Hp->Prop)(b:Bool)(s':dN):Prop:=∃H',Inv X ag σ H' s'/\Q b H'
def AP(X:Cx)(ag:List (dP×Obj))(σ:St)(Q:List V->Hp->Prop)(us:List dM)(s':dN):Prop:=∃vs H',Inv X ag σ H' s'/\eH vs us/\Q vs H'
def SP(X:Cx)(ag:List (dP×Obj))(D:jr)(f:Flow)(s':dN):Prop:=
 match f with
 | .next=>∃ σ' H',Inv X ag σ' H' s'/\D.nx σ' H'
 | .brk=>∃ σ' H',Inv X ag σ' H' s'/\D.bk σ' H'
 | .cont=>∃ σ' H',Inv X ag σ' H' s'/\D.ct σ' H'
 | .ret u=>∃v σ' H',Inv X ag σ' H' s'/\ew v u/\D.rt v H'
def PE(X:Cx)(e:Expr)(t:TE):Prop:=
 ∀(ag:List (dP×Obj)) (s:dN) (σ:St) (H:Hp) (Q:VK),Inv X ag σ H s->t σ H Q->dX (MN X.prog X.w) X.A (eval e X.env) (EP X ag σ Q) X.xe s
def PT(X:Cx)(e:Expr)(t:TT):Prop:=
 ∀(ag:List (dP×Obj)) (s:dN) (σ:St) (H:Hp) (Q:Bool->Hp->Prop),Inv X ag σ H s->t σ H Q->dX (MN X.prog X.w) X.A (isTrue e X.env (eval e X.env)) (TP X ag σ Q) X.xe s
def PW(X:Cx)(e:Expr)(t:TT):Prop:=
 ∀(whole:Sem dM) (ag:List (dP×Obj)) (s:dN) (σ:St) (H:Hp) (Q:Bool->Hp->Prop),Inv X ag σ H s->t σ H Q->dX (MN X.prog X.w) X.A (isTrue e X.env whole) (TP X ag σ Q) X.xe s
theorem PW.pt{X:Cx}{e:Expr}{t:TT}(h:PW X e t):PT X e t:=h _
def PA(X:Cx)(es:List Expr)(t:TA):Prop:=
 ∀(pos:Pos) (ag:List (dP×Obj)) (s:dN) (σ:St) (H:Hp) (Q:List V->Hp->Prop),Inv X ag σ H s->t σ H Q->dX (MN X.prog X.w) X.A (spliced (MP pos (dV es X.env))) (AP X ag σ Q) X.xe s
def PS(X:Cx)(st:d3)(t:TS):Prop:=
 ∀(ag:List (dP×Obj)) (s:dN) (σ:St) (H:Hp) (D:jr),Inv X ag σ H s->t D σ H->dX (MN X.prog X.w) X.A (exec st X.env) (SP X ag D) X.xe s
def u6(X:Cx)(st:List d3)(t:TS):Prop:=
 ∀(ag:List (dP×Obj)) (s:dN) (σ:St) (H:Hp) (D:jr),Inv X ag σ H s->t D σ H->dX (MN X.prog X.w) X.A (execs st X.env) (SP X ag D) X.xe s
theorem ft{α:Type}{t:Sem α}{Q b:α->dN->Prop}{ao:Model}{A:dR}{E:dM->dN->Prop}{s:dN}(h:dX ao A t Q E s)(c:∀a s,Q a s->b a s):dX ao A t b E s:=MQ h c λ_ _ x=>x
section
theorem Ms{a b:Expr}{ta tb:TE}(ha:PE X a ta)(hb:PE X b tb){ag:List (dP×Obj)}{s:dN}{σ:St}{H:Hp}{R:V->V->Hp->Prop}(I:Inv X ag σ H s)(h:ta σ H fun x H1=>tb σ H1 fun y H2=>R x y H2){α:Type}{Q:α->dN->Prop}{f:dM->dM->Sem α}(hf:∀v u e x y H2,Inv X ag σ H2 e->ew x v->ew y u->R x y H2->dX (MN X.prog X.w) X.A (f v u) Q X.xe e):
  dX (MN X.prog X.w) X.A (eval a X.env) (λv c=>dX (MN X.prog X.w) X.A (eval b X.env) (λu d=>dX (MN X.prog X.w) X.A (f v u) Q X.xe d) X.xe c) X.xe s:=by
 refine ft (ha ag s σ H _ I h) λv l ⟨x,H1,g,j,i⟩=>?_;refine ft (hb ag l σ H1 _ g i) λu e ⟨y,H2,m,r2,k⟩=>?_;exact hf v u e x y H2 m j r2 k
def HW(i:Nat):TE:=fun σ H Q=>∃v,σ[i]?=Z (Z v)/\Q v H
def tC(v:V):TE:=λ_ H Q=>Q v H
theorem Ae {i:Nat}{x:Str}{pos:Pos}(hN:X.N[i]?=Z x)(hv:Vis X.env.scope x)(hd:autoParam ((x == ("__debug__":Str))=J) bu0)(hcd:autoParam ((x == ("__classdict__":Str))=J) bu0):PE X (.Name x pos) (HW i):=by
 intro ag s σ H Q I h;obtain⟨v,e,h⟩:=h;obtain⟨m,f,g⟩:=I.loc;obtain⟨u,r,l⟩:=g i x v hN e hv;have d:EP X ag σ Q u s:=⟨v,H,I,r,h⟩;rcases l with⟨b,j⟩|⟨b,c,hc,a⟩
 ·exact wpAny_Name (wpAny_loadName_local I.ok.kind b f j d) hd
 ·rcases b with b|b
  ·exact wpAny_Name (wpAny_loadName_cell I.ok.kind b hc a d) hd
  ·exact wpAny_Name (wpAny_loadName_free I.ok.kind b hc a d hcd) hd
theorem F7{i j pos}:PE X (.Constant (.int i) j pos) (tC (.int i)):=λ_ _ _ H _ I h=>wpAny_Constant_int ⟨.int i,H,I.tok _,⟨_,O⟩,h⟩
theorem IA{b j pos}:PE X (.Constant (.bool b) j pos) (tC (.bl b)):=λ_ _ _ H _ I h=>Constant_bool ⟨.bl b,H,I,O,h⟩
theorem F5{j pos}:PE X (.Constant .none j pos) (tC .non):=λ_ _ _ H _ I h=>Constant_none ⟨.non,H,I,O,h⟩
def Gl(X:Cx)(x:Str):Prop:=X.env.kindOf x=Z .globalImplicit
theorem Dz {E:dM->dN->Prop}{ag:List (dP×Obj)}{s:dN}{σ:St}{H:Hp}{x:Str}{u:dM}{pos:Pos}{Q:dM->dN->Prop}(I:Inv X ag σ H s)(hg:Gl X x)(hm:X.mg x=some u)(h:Q u s)
  (hd:autoParam ((x == ("__debug__":Str))=J) bu0):dX (MN X.prog X.w) X.A (eval (.Name x pos) X.env) Q E s:=
 Calls.Name_function_global I.ok.kind hg (Calls.loadGlobal_global (by rw[I.ok.glob];exact I.mod.glob.keeps I.bk) hm h) hd
theorem jT {E:dM->dN->Prop}{ag:List (dP×Obj)}{s:dN}{σ:St}{H:Hp}{x:Str}{u:dM}{pos:Pos}{Q:dM->dN->Prop}(I:Inv X ag σ H s)(hg:Gl X x)(hm:X.mg x=none)(hv:MH x=some u)(h:Q u s)
  (hn:autoParam (x≠"__name__") bu0) (hd:autoParam ((x == ("__debug__":Str))=J) bu0):dX (MN X.prog X.w) X.A (eval (.Name x pos) X.env) Q E s:=by
 obtain⟨a,h1,h2⟩:=I.mod.blt;exact Calls.Name_function_global I.ok.kind hg (Calls.loadGlobal_builtin (by rw[I.ok.glob];exact I.mod.glob.keeps I.bk) hm (by rw[I.ok.blt];exact h1.keeps I.bk) ((h2 x hn).trans hv) h) hd
theorem C3 {x:Str}{v:V}{u:dM}{pos:Pos}(hg:Gl X x)(hm:X.mg x=Y)(hv:MH x=Z u)(r:ew v u)(hn:autoParam (x≠"__name__") bu0)(hd:autoParam ((x == ("__debug__":Str))=J) bu0):PE X (.Name x pos) (tC v):=
 λ_ _ _ H _ I h=>jT I hg hm hv ⟨v,H,I,r,h⟩ hn hd
variable{a b:Expr}{ta tb:TE}{pos:Pos}
noncomputable def tB(t:TE):TT:=fun σ H Q=>t σ H λx H1=>∃c,x = .bl c/\Q c H1
variable{tA tB':TT}{rest:List Expr}
noncomputable def Kw(t u:TT):TT:=fun σ H Q=>t σ H λc H1=>if c=M then u σ H1 Q else Q J H1
noncomputable def LI(t u:TT):TT:=fun σ H Q=>t σ H λc H1=>if c=M then Q M H1 else u σ H1 Q
def Kn(t:TT):TT:=fun σ H Q=>t σ H λc H1=>Q (!c) H1
theorem CF(ha:PT X a tA):PW X (.BoolOp .And [a] pos) tA:=by
 intro d ag s σ H Q I h;refine isTrue_and (ft (ha ag s σ H Q I h) λc b e=>?_);cases c with
 |true=>exact isTrue_and_nil e
 |false=>exact e
theorem FC(ha:PT X a tA):PW X (.BoolOp .Or [a] pos) tA:=by
 intro d ag s σ H Q I h;refine isTrue_or (ft (ha ag s σ H Q I h) λc b e=>?_);cases c with
 |false=>exact isTrue_or_nil e
 |true=>exact e
theorem FD(ha:PT X a tA)(hb:PW X (.BoolOp .And (b::rest) pos) tB'):PW X (.BoolOp .And (a::b::rest) pos) (Kw tA tB'):=by
 intro g ag s σ H Q I h;refine isTrue_and (ft (ha ag s σ H _ I h) λc f ⟨H1,d,e⟩=>?_);cases c with
 |true=>exact hb g ag f σ H1 Q d e
 |false=>exact⟨H1,d,e⟩
theorem Ip(ha:PT X a tA)(hb:PW X (.BoolOp .Or (b::rest) pos) tB'):PW X (.BoolOp .Or (a::b::rest) pos) (LI tA tB'):=by
 intro g ag s σ H Q I h;refine isTrue_or (ft (ha ag s σ H _ I h) λc f ⟨H1,d,e⟩=>?_);cases c with
 |true=>exact⟨H1,d,e⟩
 |false=>exact hb g ag f σ H1 Q d e
theorem FH(ha:PT X a tA):PT X (.UnaryOp .Not a pos) (Kn tA):=by
 intro ag s σ H Q I h;exact isTrue_not (ha ag s σ H (λc H1=>Q (!c) H1) I h)
noncomputable def Ih(ta tb:TE):TE:=fun σ H Q=>ta σ H λx H1=>∃c,x = .bl c/\if c=M then tb σ H1 Q else Q (.bl J) H1
noncomputable def H0(ta:TE):TE:=fun σ H Q=>ta σ H λx H1=>∃c,x = .bl c/\Q (.bl (!c)) H1
theorem F3{op}{t:TE}(h:PE X a t):PE X (.BoolOp op [a] pos) t:=λag s σ H Q I b=>BoolOp_one (h ag s σ H Q I b)
theorem F9(ha:PE X a ta)(hb:PE X (.BoolOp .And (b::rest) pos) tb):PE X (.BoolOp .And (a::b::rest) pos) (Ih ta tb):=by
 intro ag s σ H Q I h;refine BoolOp_and (ft (ha ag s σ H _ I h) λv f ⟨x,H1,e,g,d⟩=>?_);obtain⟨c,rfl,d⟩:=d;cases g;refine MR ?_;cases c with
 |true=>exact hb ag f σ H1 Q e d
 |false=>exact⟨.bl J,H1,e,O,d⟩
theorem F4(ha:PE X a ta):PE X (.UnaryOp .Not a pos) (H0 ta):=by
 intro ag s σ H Q I h;refine UnaryOp_ (ft (ha ag s σ H _ I h) λv f ⟨x,H1,d,e,b⟩=>?_);obtain⟨c,rfl,b⟩:=b;cases e;exact not_of (MR ⟨.bl (!c),H1,d,O,b⟩)
noncomputable def LK(t:TT)(ta tb:TE):TE:=fun σ H Q=>t σ H λc H1=>if c=M then ta σ H1 Q else tb σ H1 Q
theorem Ag{c:Expr}(hc:PT X c tA)(ha:PE X a ta)(hb:PE X b tb):PE X (.IfExp c a b pos) (LK tA ta tb):=by
 intro ag s σ H Q I h;refine wpAny_IfExp (ft (hc ag s σ H _ I h) λd g ⟨H1,e,f⟩=>?_);cases d with
 |true=>exact ha ag g σ H1 Q e f
 |false=>exact hb ag g σ H1 Q e f
end
def nE(K:Fg1)(H:Hp)(a:dP)(xs:List V):Prop:=
 Rd H a (.lst xs) \/
  ∃(o:Obj) (its:Array dM) (n:Nat),K.lookup a=Z o/\o.cls = .type "list"/\o.dict=Y/\o.data = .seq its n/\its.size<=dW/\eH xs its.toList
def kC(K:Fg1)(H:Hp)(a:dP)(xs:List V):Prop:=
 Rd H a (.tup xs) \/
  ∃(o:Obj) (its:Array dM) (n:Nat),K.lookup a=Z o/\o.cls = .type "tuple"/\o.data = .seq its n/\its.size<=dW/\eH xs its.toList
noncomputable def K5:dM->Option V
 | .none=>Z .non
 | .bool b=>Z (.bl b)
 | .int i _=>Z (.int i)
 | .str x _=>Z (.str x)
 | .bytes b _=>Z (.byt b)
 | .float b _=>Z (.flt b)
 | .ref a=>Z (.ref a)
 | .type n=>Z (.ty n)
 |_=>Y
theorem ew.abs{x:V}{u:dM}(r:ew x u):K5 u=Z x:=by
 cases x with
 |non=>cases r;rfl
 |bl _=>cases r;rfl
 |int _=>obtain⟨t,rfl⟩:=r;rfl
 |str _=>obtain⟨t,rfl⟩:=r;rfl
 |byt _=>obtain⟨t,rfl⟩:=r;rfl
 |flt _=>obtain⟨t,rfl⟩:=r;rfl
 |ref _=>cases r;rfl
 |ty _=>cases r;rfl
theorem ew.inj{x y:V}{u:dM}(r:ew x u)(q:ew y u):x=y:=Option.some.inj (r.abs.symm.trans q.abs)
theorem eH.inj:∀{xs ys:List V} {a:List dM},eH xs a->eH ys a->xs=ys:=by
 intro xs ys a h g
 induction h generalizing ys with
 |nil=>cases g;rfl
 |cons r t ih=>cases g with
  |cons b c=>rw[r.inj b,ih c]
section
variable{ag:List (dP×Obj)}{σ:St}{H:Hp}{s:dN}{a:dP}{xs ys:List V}
theorem nE.of{K:Fg1}(h:H a=Z (.lst xs)):nE K H a xs:=.inl (.inl h)
theorem kC.of{K:Fg1}(h:H a=Z (.tup xs)):kC K H a xs:=.inl (.inl h)
theorem Inv.list(I:Inv X ag σ H s)(h:nE X.K H a xs):∃b:List dM,eH xs b/\PlainL s.heap a b.toArray/\xs.length<=dW:=by
 rcases h with h|⟨o,b,n,c,hc,f,d,g,r⟩
 ·obtain⟨z,b,n,r,e⟩:=h.ok I.hok;exact⟨b,r,⟨_,n,e,O,O,O⟩,z⟩
 ·refine⟨b.toList,r,⟨o,n,I.kIn a o c,hc,f,by simpa using d⟩,?_⟩;have e:=r.length;simp only[aK]at e;lia
theorem Inv.tuple(I:Inv X ag σ H s)(h:kC X.K H a xs):∃b:List dM,eH xs b/\MD s.heap a b.toArray/\xs.length<=dW:=by
 rcases h with h|⟨o,b,n,d,hc,c,f,r⟩
 ·obtain⟨z,b,r,p⟩:=h.ok I.hok;exact⟨b,r,p,z⟩
 ·refine⟨b.toList,r,⟨o,I.kIn a o d,hc,n,by simpa using c⟩,?_⟩;have e:=r.length;simp only[aK]at e;lia
theorem Inv.list_inj(I:Inv X ag σ H s)(h:nE X.K H a xs)(h':nE X.K H a ys):xs=ys:=by
 obtain⟨b,r,⟨o,n,e,_,_,d⟩,_⟩:=I.list h;obtain⟨its',g,⟨o',j,f,_,_,c⟩,_⟩:=I.list h';rw[e]at f;cases f;rw[d]at c;injection c with i _;have:b=its':=by simpa using congrArg Array.toList i
 subst this;exact r.inj g
theorem Inv.tuple_inj(I:Inv X ag σ H s)(h:kC X.K H a xs)(h':kC X.K H a ys):xs=ys:=by
 obtain⟨b,r,⟨o,e,_,n,d⟩,_⟩:=I.tuple h;obtain⟨its',g,⟨o',f,_,j,c⟩,_⟩:=I.tuple h';rw[e]at f;cases f;rw[d]at c;injection c with i _;have:b=its':=by simpa using congrArg Array.toList i
 subst this;exact r.inj g
end
abbrev Cx.wish(X:Cx)(E:dM->dN->Prop):Cx:={X with xe:=E}
abbrev Cx.nox(X:Cx):Cx:=X.wish λ_ _=>False
theorem Cx.Ok.wish{X:Cx}(ok:X.Ok)(E:dM->dN->Prop):(X.wish E).Ok:=
 ⟨ok.mod,ok.kind,ok.glob,ok.blt,ok.above,ok.inj,ok.has,ok.cab,ok.hd,ok.frames,ok.stk,ok.exf,ok.bs,ok.bsz,ok.noex,ok.exfs,ok.funs,ok.frf⟩
theorem Cx.Ok.unwish{X:Cx}{E:dM->dN->Prop}(ok:(X.wish E).Ok):X.Ok:=
 ⟨ok.mod,ok.kind,ok.glob,ok.blt,ok.above,ok.inj,ok.has,ok.cab,ok.hd,ok.frames,ok.stk,ok.exf,ok.bs,ok.bsz,ok.noex,ok.exfs,ok.funs,ok.frf⟩
section
variable{ag:List (dP×Obj)}{σ:St}{H:Hp}{s:dN}{E:dM->dN->Prop}
theorem Inv.wish(I:Inv X ag σ H s)(E:dM->dN->Prop):Inv (X.wish E) ag σ H s:=⟨I.ok.wish E,I.os,I.bare,I.base,I.loc,I.cell,I.free,I.freeC,I.pin,I.hok,I.len⟩
theorem Inv.unwish(I:Inv (X.wish E) ag σ H s):Inv X ag σ H s:=⟨I.ok.unwish,I.os,I.bare,I.base,I.loc,I.cell,I.free,I.freeC,I.pin,I.hok,I.len⟩
theorem SP.unwish{D:jr}{f:Flow}{s':dN}(h:SP (X.wish E) ag D f s'):SP X ag D f s':=by
 cases f with
 |next=>obtain⟨a,H',I,q⟩:=h;exact⟨a,H',I.unwish,q⟩
 |brk=>obtain⟨a,H',I,q⟩:=h;exact⟨a,H',I.unwish,q⟩
 |cont=>obtain⟨a,H',I,q⟩:=h;exact⟨a,H',I.unwish,q⟩
 |ret u=>obtain⟨v,a,H',I,r,q⟩:=h;exact⟨v,a,H',I.unwish,r,q⟩
theorem u6.nox{st:List d3}{t:TS}(h:u6 X.nox st t):u6 X st t:=λag s σ H D I a=>
 MQ (h ag s σ H D (I.wish _) a) (λ_ _ q=>q.unwish) λ_ _ z=>MU z
end
section
variable{st:d3}{rest:List d3}{t u:TS}{e:Expr}{te:TE}{pos:Pos}
def H7:TS:=λD σ H=>D.nx σ H
def Kk(t u:TS):TS:=λD σ H=>t {D with nx:=u D} σ H
theorem CM:u6 X [] H7:=λ_ _ σ H _ I h=>MV ⟨σ,H,I,h⟩
theorem zT(h1:PS X st t)(h2:u6 X rest u):u6 X (st::rest) (Kk t u):=by
 intro ag s σ H D I h;refine wpAny_execs_cons (ft (h1 ag s σ H {D with nx:=u D} I h) λf b q=>?_);cases f with
 |next=>
  obtain⟨a,H',c,q⟩:=q;exact h2 ag b a H' D c q
 |ret v=>exact q
 |brk=>exact q
 |cont=>exact q
theorem CL(h1:PS X st t):u6 X [st] t:=by
 intro ag s σ H D I h;refine wpAny_execs_cons (ft (h1 ag s σ H D I h) λf a q=>?_);cases f with
 |next=>exact MV q
 |ret v=>exact q
 |brk=>exact q
 |cont=>exact q
theorem Inv.quiet{ag:List (dP×Obj)}{σ:St}{H:Hp}{s:dN}(I:Inv X ag σ H s):interactive X.env=J:=by simp[interactive,I.ok.kind]
def Ib(te:TE):TS:=λD σ H=>te σ H λ_ H1=>D.nx σ H1
theorem CN(he:PE X e te)(hs:autoParam (MX e Y pos.line X.env=pure J) cu0):PS X (.Expr e pos) (Ib te):=by
 intro ag s σ H D I h;exact wpAny_Expr_any (ft (he ag s σ H _ I h) λv c ⟨x,H1,a,d,b⟩=>⟨σ,H1,a,b⟩) I.quiet hs
def Kl(te:TE):TS:=λD σ H=>te σ H D.rt
theorem FK(he:PE X e te):PS X (.Return (Z e) pos) (Kl te):=by
 intro ag s σ H D I h;exact wpAny_Return_some (ft (he ag s σ H _ I h) λv d ⟨x,H1,a,c,b⟩=>⟨x,σ,H1,a,c,b⟩)
noncomputable def Kt(c:TT)(t u:TS):TS:=λD σ H=>c σ H λb H1=>if b=M then t D σ H1 else u D σ H1
theorem Ir{c:Expr}{a b:List d3}{tc:TT}(hc:PT X c tc)(ha:u6 X a t)(hb:u6 X b u):PS X (.If c a b pos) (Kt tc t u):=by
 intro ag s σ H D I h;refine wpAny_If (ft (hc ag s σ H _ I h) λd g ⟨H1,e,f⟩=>?_);cases d with
 |true=>exact ha ag g σ H1 D e f
 |false=>exact hb ag g σ H1 D e f
end
abbrev TG:=V->St->Hp->(St->Hp->Prop)->Prop
abbrev EO:=List V->St->Hp->(St->Hp->Prop)->Prop
def PG(X:Cx)(target:Expr)(t:TG):Prop:=
 ∀(ag:List (dP×Obj)) (s:dN) (σ:St) (H:Hp) (v:V) (u:dM) (Q:St->Hp->Prop),Inv X ag σ H s->ew v u->t v σ H Q ->
  dX (MN X.prog X.w) X.A (MY target X.env u) (λ_ s'=>∃ σ' H',Inv X ag σ' H' s'/\Q σ' H') X.xe s
def HF(X:Cx)(ts:List Expr)(t:EO):Prop:=
 ∀(ag:List (dP×Obj)) (s:dN) (σ:St) (H:Hp) (vs:List V) (us:List dM) (Q:St->Hp->Prop),Inv X ag σ H s->eH vs us->t vs σ H Q ->
  dX (MN X.prog X.w) X.A (assignInOrder ((MZ ts X.env).map (·.2)) us) (λ_ s'=>∃ σ' H',Inv X ag σ' H' s'/\Q σ' H') X.xe s
abbrev HE:=V->V->V->Hp->(Hp->Prop)->Prop
def wd(X:Cx)(t:HE):Prop:=
 ∀(ag:List (dP×Obj)) (s:dN) (σ:St) (H:Hp) (o i v:V) (ov iv u:dM) (Q:Hp->Prop),Inv X ag σ H s->ew o ov->ew i iv->ew v u->t o i v H Q ->
  dX (MN X.prog X.w) X.A (setItem ov iv u) (λ_ s'=>∃H',Inv X ag σ H' s'/\Q H') X.xe s
abbrev La:=V->V->Hp->VK->Prop
def Kf(X:Cx)(op:M0)(t:La):Prop:=
 ∀(ag:List (dP×Obj)) (s:dN) (σ:St) (H:Hp) (x y:V) (v u:dM) (Q:VK),Inv X ag σ H s->ew x v->ew y u->t x y H Q ->
  dX (MN X.prog X.w) X.A (inplaceOp op v u) (EP X ag σ Q) X.xe s
section
variable{pos:Pos}
def xb(i:Nat):TG:=λv σ H Q=>Q (σ.set i (Z v)) H
theorem wE{i:Nat}{x:Str}(hN:X.N.Nodup)(hi:X.N[i]?=Z x)(hx:uV X.env.scope x)(hf:autoParam (X.fn x=M\/X.env.scope.names.lookup x=Z .local) au0):PG X (.Name x pos) (xb i):=by
 intro ag s σ H v u Q I r h;exact wpAny_assign_Name (jx I hN hi hx r (λs' a=>⟨_,H,a,h⟩) hf)
def KS:EO:=λvs σ H Q=>vs=[]/\Q σ H
noncomputable def Jm(t:TG)(u:EO):EO:=λvs σ H Q=>∃v r,vs=v::r/\t v σ H fun σ' H'=>u r σ' H' Q
theorem CY:HF X [] KS:=by
 intro ag s σ H vs a Q I r h;obtain⟨e,h⟩:=h;subst e;cases r;exact assignInOrder_nil ⟨σ,H,I,h⟩
theorem Ad{e:Expr}{es:List Expr}{t:TG}{u:EO}(h1:PG X e t)(h2:HF X es u)(hs:autoParam ((MZ (e::es) X.env).map (·.2)=MY e X.env::(MZ es X.env).map (·.2)) cu0):HF X (e::es) (Jm t u):=by
 intro ag s σ H vs i Q I r h;obtain⟨v,j,d,h⟩:=h;subst d;cases r with
 |cons r f=>
  rw[hs];refine assignInOrder_cons (ft (h1 ag s σ H _ _ _ I r h) λ_ g ⟨a,H1,b,c⟩=>?_);exact h2 ag g a H1 _ _ Q b f c
noncomputable def gTup(K:Fg1)(n:Nat)(t:EO):TG:=λv σ H Q=>∃a xs,v = .ref a/\kC K H a xs/\xs.length=n/\t xs σ H Q
theorem F0{es:List Expr}{k:Nat}{t:EO}{n:Nat}(hc:X.calm=M)(h:HF X es t)(hn:autoParam ((MZ es X.env).length=n) cu0)(hst:autoParam ((MZ es X.env).findIdx? (·.1)=Y) cu0):PG X (.Tuple es k pos) (gTup X.K n t):=by
 intro ag s σ H v u Q I r c;obtain⟨a,xs,g,m,p,c⟩:=c;subst g;cases r;obtain⟨l,d,j,q⟩:=I.tuple m;refine assign_Tuple_tuple (I.ok.hd hc) j (by simp[hn,<- p,d.length]) hst λh' i=>?_;have f:Inv X ag σ H {s with heap:=h'}:=I.kept (t':=s.toks) λb o e=>i b o (nN1 (hL1 e)) e;exact h ag _ σ H xs _ Q f (by simpa using d) c
noncomputable def gSub(to ti:TE)(t:HE):TG:=λv σ H Q=>to σ H λo H1=>ti σ H1 λi H2=>t o i v H2 λH3=>Q σ H3
theorem F1{o i:Expr}{to c:TE}{t:HE}(ho:PE X o to)(hi:PE X i c)(hs:wd X t)(ha:autoParam (∀v,MY (.Subscript o i pos) X.env v=(do
   let a<-M3 [v] (eval o X.env)
   let b<-M3 [v,a] (eval i X.env)
   M4 pos
   M3 [v,a,b] (setItem a b v)
   release [v,a,b] [])) du0):PG X (.Subscript o i pos) (gSub to c t):=by
 intro ag s σ H v u Q I r h;rw[ha];refine wB1 (M5 (ft (ho ag s σ H _ I h) λa m ⟨x,H1,d,k,f⟩=>?_));refine wB1 (M5 (ft (hi ag m σ H1 _ d f) λb e ⟨y,H2,p,r2,l⟩=>?_));refine wB1 (M6 (wB1 (M5 (ft (hs ag e σ H2 x y v a b u _ p k r2 r l) λ_ q ⟨g,j,n⟩=>?_))));exact wpAny_release ⟨σ,g,j,n⟩
noncomputable def zx(te:TE)(g:TG):TS:=λD σ H=>te σ H λx H1=>g x σ H1 D.nx
theorem FR{tg e:Expr}{te:TE}{g:TG}(he:PE X e te)(hg:PG X tg g)(hs:autoParam (M7 [tg] e pos.line X.env=pure J) cu0)(hw:autoParam (M8 [tg] e X.env=pure Y) cu0)(h1:autoParam ((MZ [tg] X.env).map (·.2)=[MY tg X.env]) cu0):PS X (.Assign [tg] e pos) (zx te g):=by
 intro ag s σ H D I h;refine wpAny_Assign_stores (ft (he ag s σ H _ I h) λv d ⟨x,H1,a,c,b⟩=>?_) hs hw;rw[h1];exact ft (hg ag d σ H1 x v _ a c b) λ_ f q=>q
theorem FJ{i:Nat}{x:Str}{e:Expr}{te:TE}{pos':Pos}(hN:X.N.Nodup)(hi:X.N[i]? = some x)(hx:uV X.env.scope x)(he:PE X e te)(hs:autoParam (MX e (some (.Name x pos')) pos.line X.env=pure false) cu0)(hf:autoParam (X.fn x=true\/X.env.scope.names.lookup x=some .local) au0):
  PS X (.Assign [.Name x pos'] e pos) (zx te (xb i)):=by
 intro ag s σ H D I h;refine wpAny_Assign_Name (ft (he ag s σ H _ I h) λv g ⟨y,H1,a,c,b⟩=>?_) hs;exact jx a hN hi hx c (λf d=>⟨_,H1,d,b⟩) hf
noncomputable def Km(i j:Nat)(ta:TA):TS:=λD σ H=>ta σ H λvs H1=>∃v w,vs=[v,w]/\D.nx ((σ.set i (Z v)).set j (Z w)) H1
theorem FL{i j:Nat}{x y:Str}{a b:Expr}{ta:TA}{l g pt:Pos}{kt k2 pt2}(hc:X.calm=true)(hN:X.N.Nodup)(hi:X.N[i]? = some x)(t:X.N[j]? = some y)(n:i≠j)(hx:X.env.scope.names.lookup x=some .local)(hy:X.env.scope.names.lookup y=some .local)(ha:PA X [a,b] ta)(hw:M8 [.Tuple [.Name x l,.Name y g] kt pt] (.Tuple [a,b] k2 pt2) X.env=pure (some [x,y]))(hs:autoParam (M7 [.Tuple [.Name x l,.Name y g] kt pt] (.Tuple [a,b] k2 pt2) pos.line X.env=pure false) cu0):
  PS X (.Assign [.Tuple [.Name x l,.Name y g] kt pt] (.Tuple [a,b] k2 pt2) pos) (Km i j ta):=by
 intro ag s σ H D I h;rw[exec_Assign_arm];refine wB1 (M6 ?_);rw[hs];refine wB1 (wP1 ?_);rw[aj (by decide)];refine wB1 (Tuple_ (ft (ha _ ag s σ H _ I h) λF d ⟨vs,H1,B,C,k⟩=>?_));obtain⟨v,w,u,k⟩:=k;subst u;obtain⟨c,u2,rfl,K,m⟩:∃c u2,F=[c,u2]/\ew v c/\ew w u2:=by
  cases C with
  |cons p q=>
   cases q with
   |cons A am=>
    cases am;exact⟨_,_,O,p,A⟩
 refine wO1 ?_ (by show 2<=dW;decide);have G:Inv X ag σ H1 {d with heap:=d.heap.push {cls:=.type "tuple",data:=.seq [c,u2].toArray}}:=B.kept (t':=d.toks) λb o e=>hP1 _ e;rw[hw];refine wB1 (wP1 ?_);show dX (MN X.prog X.w) X.A (do rule "assign.swapped-stores";let items<-unpackItems (.ref d.heap.objs.size) 2 Y;assignInOrder [λv=>bindName X.env y v,λv=>bindName X.env x v] items.reverse;pure Flow.next) _ _ _;refine wB1 (M9 (wB1 (unpackItems_tuple (items:= #[c,u2]) (I.ok.hd hc) (IsTup.new d.heap _) λh' f=>?_)));have z:=G.kept (h':=h') (t':=d.toks) λb o e=>f b o (nN1 (hL1 e)) e;show dX _ _ (assignInOrder [λv=>bindName X.env y v,λv=>bindName X.env x v] [u2,c] >>= λ_=>pure Flow.next) _ _ _;refine wB1 (assignInOrder_cons (wpAny_bindName (jx z hN t (.inl hy) m (λao E=>?_) (.inr hy))));refine assignInOrder_cons (wpAny_bindName (jx E hN hi (.inl hx) K (λL r=>assignInOrder_nil (wP1 ?_)) (.inr hx)));rw[List.set_comm _ _ (ML n)]at r;exact⟨_,H1,r,k⟩
noncomputable def Kv(i:Nat)(te:TE)(ti:La):TS:=λD σ H=>∃x,σ[i]?=Z (Z x)/\te σ H λy H1=>ti x y H1 λz H2=>D.nx (σ.set i (Z z)) H2
theorem FQ{i:Nat}{x:Str}{e:Expr}{te:TE}{op:M0}{j:La}{pos':Pos}(hN:X.N.Nodup)(hi:X.N[i]? = some x)(hx:uV X.env.scope x)(he:PE X e te)(ho:Kf X op j)(hf:autoParam (X.fn x=true\/X.env.scope.names.lookup x=some .local) au0):
  PS X (.AugAssign (.Name x pos') op e pos) (Kv i te j):=by
 intro ag s σ H D I h;obtain⟨v,o,h⟩:=h;obtain⟨m,B,E⟩:=I.loc;have g:Vis X.env.scope x:=by rcases hx with k|k;exact .inl k;exact .inr (.inl k)
 obtain⟨u,r,l⟩:=E i x v hi o g;refine wpAny_AugAssign_Name ?_;have n:dX (MN X.prog X.w) X.A (eval e X.env) (λw f=>dX (MN X.prog X.w) X.A (inplaceOp op u w) (λr d=>dX (MN X.prog X.w) X.A (storeName X.env x r) (λ_=>SP X ag D .next) X.xe d) X.xe f) X.xe s:=by
  refine ft (he ag s σ H _ I h) λw G ⟨y,H1,q,t,A⟩=>?_;refine ft (ho ag G σ H1 v y u w _ q r t A) λz L ⟨ao,H2,C,r2,F⟩=>?_;exact jx C hN hi hx r2 (λK p=>⟨_,H2,p,F⟩) hf
 rcases l with⟨a,am⟩|⟨a,c,hc,b⟩
 ·exact wpAny_loadName_local I.ok.kind a B am n
 ·rcases a with a|a
  ·exact wpAny_loadName_cell I.ok.kind a hc b n
  ·rcases hx with k|k
   ·have:X.env.scope.names.lookup x=Z .free:=a;rw[k]at this;cases this
   ·have:X.env.scope.names.lookup x=Z .free:=a;rw[k]at this;cases this
noncomputable def zr(c:TT)(tb:TS):TS:=λD σ H=>∃W:Nat->St->Hp->Prop,(∃m,W m σ H) /\ ∀m σ H,W m σ H ->
 c σ H λb H1=>if b=M then∃N:St->Hp->Prop,(∀ σ' H',N σ' H' -> ∃m',m'<m/\W m' σ' H')/\tb {D with nx:=N,ct:=N,bk:=D.nx} σ H1 else D.nx σ H1
theorem zU{c:Expr}{e:List d3}{tc:TT}{tb:TS}(hp:Na (MN X.prog X.w) X.A X.env X.xe)(hc:PT X c tc)(hb:u6 X e tb):PS X (.While c e [] pos) (zr tc tb):=by
 intro ag s σ H D I h;obtain⟨W,⟨A,w⟩,g⟩:=h;refine wpAny_While (codeAny_whileLoop (λn s'=>∃j H',Inv X ag j H' s'/\W n j H') ?_ A ⟨σ,H,I,w⟩);rintro n B ⟨d,H1,x,z⟩;refine Nb hp (ft (hc ag B d H1 _ x (g n d H1 z)) λb y ⟨H2,u,l⟩=>?_);cases b with
 |true=>
  obtain⟨N,t,l⟩:=l;rw[ak O];refine Nb hp (ft (hb ag y d H2 _ u l) λf C k=>?_);cases f with
  |next=>
   obtain⟨a,i,m,q⟩:=k;obtain⟨o,r,p⟩:=t a i q;exact⟨o,r,a,i,m,p⟩
  |cont=>
   obtain⟨a,i,m,q⟩:=k;obtain⟨o,r,p⟩:=t a i q;exact⟨o,r,a,i,m,p⟩
  |brk=>exact k
  |ret v=>exact k
 |false=>
  rw[aj aL];exact MV ⟨d,H2,u,l⟩
end
structure It where
 go:Nat->Hp->Prop
 yld:Nat->Hp->V->Hp->Prop
 stop:Nat->Hp->Prop
def kE(X:Cx)(ag:List (dP×Obj))(H:Hp)(b:dP):Prop:=
 H b=Y/\b≠X.env.locals/\b∉X.fs/\(b∈X.ex\/X.s₀.heap.objs.size<=b)/\(∀x c,X.env.cells.lookup x=Z c->c≠b) /\ ∀p∈X.pn++ag,p.1≠b
theorem Inv.fpOk{X:Cx}{ag:List (dP×Obj)}{σ:St}{H H':Hp}{s:dN}{b:dP}(I:Inv X ag σ H s)(hb:s.heap.objs.size<=b)(hn:H' b=Y):kE X ag H' b:=by
 refine⟨hn,nG1 (nL1 I.lt hb),I.nofs hb,.inr (aC I.sz hb),λx c e z=>?_,λp a z=>?_⟩
 ·obtain⟨v,q⟩:=I.cell x c e;exact absurd (nL1 q.lt (by rw[z];exact hb)) (az _)
 ·exact absurd (nL1 (hL1 (I.pin p a).1) (by rw[z];exact hb)) (az _)
structure wb (P:dQ)(w:dS)(K:Fg1)(tg:Expr)(am:It)(fp:List dP)(it:dP)(tn:Nat->dZ->Prop):Prop where
 mem:it∈fp
 obj:∀i h,tn i h -> ∀b∈fp,∃o,h.get? b=some o /\ ∀v,o.data ≠ .cell v
 keep:∀i h h',tn i h->(∀b∈fp,∀o,h.get? b=some o->h'.get? b=some o)->tn i h'
 item:∀(X:Cx),X.prog=P->X.w=w->X.K=K->X.calm=true -> ∀(i:Nat) (ag:List (dP×Obj)) (s:dN) (σ:St) (H:Hp) (E:dM->dN->Prop),Inv X ag σ H s->(∀b∈fp,kE X ag H b)->tn i s.heap->am.go i H ->
  dX (MN P w) X.A (Nc (.ref it)) (λr s1=>∃u,r=some u /\
   dX (MN P w) X.A (Nd tg (.ref it) u) (λ_ s2=>∃x H',Inv X ag σ H' s2/\ew x u/\am.yld i H x H'/\tn (i+1) s2.heap /\ ∀b∈fp,H' b=none) E s1) E s
 done:∀(X:Cx),X.prog=P->X.w=w->X.K=K->X.calm=true -> ∀(i:Nat) (ag:List (dP×Obj)) (s:dN) (σ:St) (H:Hp) (E:dM->dN->Prop),Inv X ag σ H s->(∀b∈fp,kE X ag H b)->tn i s.heap->am.stop i H ->
  dX (MN P w) X.A (Nc (.ref it)) (λr s1=>r=none/\Inv X ag σ H s1) E s
 self:∀(A:dR) (i:Nat) (s:dN) (Q:dM->dN->Prop) (E:dM->dN->Prop),tn i s.heap->Q (.ref it) s->dX (MN P w) A (Nf (.ref it)) Q E s
abbrev TI:=St->Hp->(It->Hp->Prop)->Prop
def Lx(X:Cx)(ag:List (dP×Obj))(σ:St)(tg:Expr)(R:It->Hp->Prop)(itv:dM)(s2:dN):Prop:=
 ∃(it:dP) (fp:List dP) (tn:Nat->dZ->Prop) (am:It) (H':Hp),itv = .ref it/\Inv X ag σ H' s2/\wb X.prog X.w X.K tg am fp it tn/\tn 0 s2.heap/\(∀b∈fp,kE X ag H' b)/\R am H'
def PI(X:Cx)(tg iter:Expr)(wi:TI):Prop:=
 ∀(ag:List (dP×Obj)) (s:dN) (σ:St) (H:Hp) (R:It->Hp->Prop),Inv X ag σ H s->wi σ H R ->
  dX (MN X.prog X.w) X.A (eval iter X.env) (λv s1=>dX (MN X.prog X.w) X.A (Nf v) (Lx X ag σ tg R) X.xe s1) X.xe s
theorem Bm {ao:Model}{A:dR}{E:dM->dN->Prop}{s:dN}{tg:Expr}{it:dP}{u:dM}{o:Obj}{n:String}{vs:Array dM}{Q:Unit->dN->Prop}(ho:s.heap.get? it=some o)(hc:o.cls = .type n)(hd:o.data = .fields vs)
   (hn:["enumerate","zip","dict_itemiterator","dict_reverseitemiterator","odict_iterator","itertools.zip_longest","itertools.pairwise"].contains n=J) (a:Q () s):dX ao A (Nd tg (.ref it) u) Q E s:=by
 unfold Nd;cases tg <;> first
   |exact wP1 a
   | (cases u<;>first
       |exact wP1 a
       | (refine wB1 (wpAny_load ho ?_)
          rw[hc,hd];show dX ao A (if(["enumerate","zip","dict_itemiterator","dict_reverseitemiterator","odict_iterator","itertools.zip_longest","itertools.pairwise"].contains n&&vs[0]? == Z (Ng _))=M then _ else _) Q E s;rw[aj (by intro h;rw[hn,Bool.false_and]at h;cases h)];exact wP1 a))
noncomputable def LB(K:Fg1)(a:dP):It:=
 ⟨λi H=>∃xs x,nE K H a xs/\xs[i]?=Z x,λi H x H'=>H'=H /\ ∀xs,nE K H a xs->xs[i]?=Z x,λi H=>∃xs,nE K H a xs/\xs.length<=i⟩
noncomputable def LA(K:Fg1)(a:dP):It:=
 ⟨λi H=>∃xs x,kC K H a xs/\xs[i]?=Z x,λi H x H'=>H'=H /\ ∀xs,kC K H a xs->xs[i]?=Z x,λi H=>∃xs,kC K H a xs/\xs.length<=i⟩
noncomputable def JP(lo:Int)(n:Nat):It:=⟨λi _=>i<n,λi H x H'=>H'=H/\x = .int (lo+i),λi _=>n<=i⟩
theorem xR{P:dQ}{w:dS}{K:Fg1}{tg:Expr}(a it:dP):wb P w K tg (LB K a) [it] it (λi h=>h.IsListIter it a i) where
 mem:=by simp
 obj:=λi h st b f=>by
  have e:b=it:=by simpa using f
  subst e;obtain⟨o,e,c,d⟩:=st;exact⟨o,e,λv z=>by rw[d]at z;cases z⟩
 keep:=λi h h' st k=>st.at λo e=>k it (by simp) o e
 item:=by
  intro X y q A hc i ag s σ H E I g st m;subst y q A;obtain⟨xs,x,j,l⟩:=m;obtain⟨C,F,p,G⟩:=I.list j;obtain⟨u,ao,N⟩:=F.get l;obtain⟨B,n,R,t,r,D⟩:=g it (by simp);refine wpAny_pyNext_list_item st p.isList (x:=u) (by simpa using ao) λh' st' au=>?_;have am:Inv X ag σ H {s with heap:=h'}:=I.turned (t':=s.toks) (λb o f e=>(au.2 b f).trans e) B n t r D;obtain⟨o,e,c,d⟩:=id st';exact⟨u,O,Bm (s:={s with heap:=h'}) e c d (by decide) ⟨x,H,am,N,⟨O,λys Q=>by rw[I.list_inj Q j];exact l⟩,st',λb f=>(g b f).1⟩⟩
 done:=by
  intro X y q A hc i ag s σ H E I g st m;subst y q A;obtain⟨xs,j,l⟩:=m;obtain⟨C,F,p,G⟩:=I.list j;obtain⟨B,n,R,t,r,D⟩:=g it (by simp);have S:=F.length;exact wpAny_pyNext_list_end (I.ok.hd hc) st p.isList (by simp;lia) λh' L=>⟨O,I.turned (t':=s.toks) (λb o f e=>L b o f e) B n t r D⟩
 self:=λ_ _ _ _ _ st h=>wpAny_pyIter_listiter st h
theorem ve{P:dQ}{w:dS}{K:Fg1}{tg:Expr}(a it:dP):wb P w K tg (LA K a) [it] it (λi h=>h.IsTupleIter it a i) where
 mem:=by simp
 obj:=λi h st b f=>by
  have e:b=it:=by simpa using f
  subst e;obtain⟨o,e,c,d⟩:=st;exact⟨o,e,λv z=>by rw[d]at z;cases z⟩
 keep:=λi h h' st k=>st.at λo e=>k it (by simp) o e
 item:=by
  intro X A r B hc i ag s σ H E I j st n;subst A r B;obtain⟨xs,x,l,m⟩:=n;obtain⟨g,F,p,G⟩:=I.tuple l;obtain⟨u,ao,N⟩:=F.get m;obtain⟨C,q,R,y,t,D⟩:=j it (by simp);refine wpAny_pyNext_tuple_item st (show s.heap.IsTuple a g.toArray from p) (x:=u) (by simpa using ao) λh' st' au=>?_;have am:Inv X ag σ H {s with heap:=h'}:=I.turned (t':=s.toks) (λb o f e=>(au.2 b f).trans e) C q y t D;obtain⟨o,e,c,d⟩:=id st';exact⟨u,O,Bm (s:={s with heap:=h'}) e c d (by decide) ⟨x,H,am,N,⟨O,λys Q=>by rw[I.tuple_inj Q l];exact m⟩,st',λb f=>(j b f).1⟩⟩
 done:=by
  intro X A r B hc i ag s σ H E I j st n;subst A r B;obtain⟨xs,l,m⟩:=n;obtain⟨g,F,p,G⟩:=I.tuple l;obtain⟨C,q,R,y,t,D⟩:=j it (by simp);have S:=F.length;exact wpAny_pyNext_tuple_end (I.ok.hd hc) st (show s.heap.IsTuple a g.toArray from p) (by simp;lia) λh' L=>⟨O,I.turned (t':=s.toks) (λb o f e=>L b o f e) C q y t D⟩
 self:=λ_ _ _ _ _ st h=>wpAny_pyIter_tupleiter st h
theorem vf{P:dQ}{w:dS}{K:Fg1}{tg:Expr}(it:dP)(lo:Int)(n:Nat):wb P w K tg (JP lo n) [it] it (λi h=>IsRangeIter h it (lo+(i:Nat)*1) ((n:Int)-(i:Nat)) 1) where
 mem:=by simp
 obj:=λi h st b a=>by
  have e:b=it:=by simpa using a
  subst e;exact⟨_,st,λv z=>by
   have C:Data.fields _=Data.cell v:=z;cases C⟩
 keep:=λi h h' st k=>k it (by simp) _ st
 item:=by
  intro X m g f hc i ag s σ H E I c st p;subst m g f;obtain⟨r,d,A,l,j,q⟩:=c it (by simp);have W:=Walks.range (prog:=X.prog) (w:=X.w) (I.ok.hd hc) it lo 1 n;refine W.item i s _ _ p st λv h' tk B st' x=>?_;obtain⟨t,rfl⟩:=B;have u:Inv X ag σ H {s with heap:=h',toks:=tk}:=I.turned (λb o a e=>x b o (by simpa using a) e) r d l j q;refine⟨_,O,Bm (s:={s with heap:=h',toks:=tk}) (n:="range_iterator") st' O O (by decide) ⟨.int (lo+i),H,u,⟨t,?_⟩,⟨O,O⟩,st',λb a=>(c b a).1⟩⟩;rw[Int.mul_one]
 done:=by
  intro X m g f hc i ag s σ H E I c st p;subst m g f;obtain⟨r,d,A,l,j,q⟩:=c it (by simp);exact wpAny_pyNext_range_end (I.ok.hd hc) st (by have:n<=i:=p;lia) λh' y=>⟨O,I.turned (t':=s.toks) (λb o a e=>y b o a e) r d l j q⟩
 self:=λ_ _ _ _ _ st h=>wpAny_pyIter_rangeiter st h
section
variable{tg:Expr}
def Jf(K:Fg1)(tl:TE):TI:=fun σ H R=>tl σ H λx H1=>∃a,x = .ref a/\(∃xs,nE K H1 a xs)/\R (LB K a) H1
def KQ(K:Fg1)(tl:TE):TI:=fun σ H R=>tl σ H λx H1=>∃a,x = .ref a/\(∃xs,kC K H1 a xs)/\R (LA K a) H1
theorem CV{l:Expr}{tl:TE}(m:PE X l tl):PI X tg l (Jf X.K tl):=by
 intro ag s σ H R I h;refine ft (m ag s σ H _ I h) λv d ⟨x,H1,c,g,f⟩=>?_;obtain⟨a,e,⟨xs,k⟩,q⟩:=f;subst e;cases g;obtain⟨i,n,p,r⟩:=c.list k;refine wpAny_pyIter_list p.isList ?_;refine⟨d.heap.objs.size,[d.heap.objs.size],_,_,H1,O,c.kept (t':=d.toks) λb o e=>hP1 _ e,xR a _,⟨_,hS1 _ O,O,O⟩,λb j=>?_,q⟩;have e:b=d.heap.objs.size:=by simpa using j
 subst e;exact c.fpOk (nR1 _) (c.hok.fresh (nR1 _))
theorem FY{l:Expr}{tl:TE}(m:PE X l tl):PI X tg l (KQ X.K tl):=by
 intro ag s σ H R I h;refine ft (m ag s σ H _ I h) λv c ⟨x,H1,d,i,g⟩=>?_;obtain⟨a,e,⟨xs,k⟩,q⟩:=g;subst e;cases i;obtain⟨f,n,p,r⟩:=d.tuple k;refine wpAny_pyIter_tuple (show c.heap.IsTuple a f.toArray from p) ?_;refine⟨c.heap.objs.size,[c.heap.objs.size],_,_,H1,O,d.kept (t':=c.toks) λb o e=>hP1 _ e,ve a _,⟨_,hS1 _ O,O,O⟩,λb j=>?_,q⟩;have e:b=c.heap.objs.size:=by simpa using j
 subst e;exact d.fpOk (nR1 _) (d.hok.fresh (nR1 _))
theorem tF{ag:List (dP×Obj)}{σ:St}{H:Hp}{s:dN}{R:It->Hp->Prop}{E:dM->dN->Prop}{lo hi:Int}{t u v:Tok}{tk:Nat}(I:Inv X ag σ H s)(h1: -(2^62)<=lo)(h2:lo<2^62)(d: -(2^62)<=hi)(f:hi<2^62)(q:R (JP lo (hi-lo).toNat) H):dX (MN X.prog X.w) X.A (Nf (.ref s.heap.objs.size)) (Lx X ag σ tg R) E {s with heap:=s.heap.push {cls:=.type "range",data:=.fields #[.int lo t,.int hi u,.int 1 v]},toks:=tk}:=by
 refine wpAny_pyIter_range (IsRange.new ..) (small_one h1 h2 d f) ?_;have a:Inv X ag σ H {s with heap:=s.heap.push {cls:=.type "range",data:=.fields #[.int lo t,.int hi u,.int 1 v]},toks:=tk}:=I.kept λb o e=>hP1 _ e;refine⟨(s.heap.push {cls:=.type "range",data:=.fields #[.int lo t,.int hi u,.int 1 v]}).objs.size,[(s.heap.push {cls:=.type "range",data:=.fields #[.int lo t,.int hi u,.int 1 v]}).objs.size],_,_,H,O,
  a.kept (t':=tk) λb o e=>hP1 _ e,vf _ lo (hi-lo).toNat,?_,λb g=>?_,q⟩
 ·have c:lo+((0:Nat):Int)*1=lo:=by simp
  have h:(((hi-lo).toNat:Nat):Int)-((0:Nat):Int)=Nh lo hi 1:=by rw[rangeSize_one];split<;>lia
  show IsRangeIter _ _ (lo+((0:Nat):Int)*1) ((((hi-lo).toNat:Nat):Int)-((0:Nat):Int)) 1;rw[c,h];exact hS1 _ O
 ·have e:b=(s.heap.push {cls:=.type "range",data:=.fields #[.int lo t,.int hi u,.int 1 v]}).objs.size:=by simpa using g
  subst e;exact a.fpOk (nR1 _) (a.hok.fresh (nR1 _))
def Je(ta:TA):TI:=fun σ H R=>ta σ H λvs H1=>∃j:Int,vs=[.int j] /\ -(2^62)<=j/\j<2^62/\R (JP 0 j.toNat) H1
def Jd(ta:TA):TI:=fun σ H R=>ta σ H λvs H1=>∃i j:Int,vs=[.int i,.int j]/\(-(2^62)<=i/\i<2^62 /\ -(2^62)<=j/\j<2^62)/\R (JP i (j-i).toNat) H1
theorem ya {a:Expr}{ta:TA}{p pos:Pos}(hg:Gl X "range")(hm:X.mg "range"=Y)(ha:PA X [a] ta)(hs:autoParam (dV [a] X.env=[(J,eval a X.env)]) cu0):PI X tg (.Call (.Name "range" p) [a] [] pos) (Je ta):=by
 intro ag s σ H R I h;refine Call_ (jT I hg hm boot_range (Ni (ft (ha pos ag s σ H _ I h) λi k ⟨vs,H1,c,d,b⟩=>?_) hs O));obtain⟨j,e,b,g,q⟩:=b;subst e;cases d with
 |cons r f=>
  cases f;obtain⟨t,rfl⟩:=r;exact call_range_1 (tF c (by lia) (by lia) b g (by simpa using q))
theorem x2 {a b:Expr}{ta:TA}{p pos:Pos}(hg:Gl X "range")(hm:X.mg "range"=none)(ha:PA X [a,b] ta)(hs:autoParam (dV [a,b] X.env=[(false,eval a X.env),(false,eval b X.env)]) cu0)(hs2:autoParam (dV [b] X.env=[(false,eval b X.env)]) cu0):
  PI X tg (.Call (.Name "range" p) [a,b] [] pos) (Jd ta):=by
 intro ag s σ H R I h;refine Call_ (jT I hg hm boot_range (Ni (ft (ha pos ag s σ H _ I h) λu v ⟨vs,H1,f,k,c⟩=>?_) (by rw[hs,hs2]) (by rw[hs2];rfl)));obtain⟨i,j,e,⟨c,m,n,g⟩,q⟩:=c;subst e;cases k with
 |cons r d=>
  cases d with
  |cons l d=>
   cases d;obtain⟨t,rfl⟩:=r;obtain⟨o,rfl⟩:=l;exact call_range_2 (tF f c m n g q)
noncomputable def Ia(wi:TI)(g:TG)(tb:TS):TS:=λD σ H=>wi σ H λam H1=>∃W:Nat->Nat->St->Hp->Prop,(∃m,W 0 m σ H1) /\ ∀i m σ H,W i m σ H ->
 (am.stop i H/\D.nx σ H)\/(am.go i H /\ ∃N:St->Hp->Prop,(∀ σ' H',N σ' H' -> ∃m',m'<m/\W (i+1) m' σ' H') /\ ∀x H',am.yld i H x H'->g x σ H' fun σ2 H2=>tb {D with nx:=N,ct:=N,bk:=D.nx} σ2 H2)
noncomputable def om(fp:List dP)(h:dZ):List (dP×Obj):=fp.filterMap λb=>(h.get? b).map λo=>(b,o)
theorem jd{fp:List dP}{h:dZ}{b:dP}{o:Obj}(hb:b∈fp)(e:h.get? b=Z o):(b,o)∈om fp h:=aM.mpr ⟨b,hb,by rw[e];rfl⟩
theorem yc{fp:List dP}{h:dZ}{p:dP×Obj}(hp:p∈om fp h):p.1∈fp/\h.get? p.1=Z p.2:=by
 obtain⟨b,c,e⟩:=aM.mp hp;cases q:h.get? b with
 |none=>rw[q]at e;cases e
 |some o=>
  rw[q]at e;have a:(b,o)=p:=Option.some.inj e;subst a;exact⟨c,q⟩
theorem Inv.pinned{ag:List (dP×Obj)}{σ:St}{H:Hp}{s:dN}{fp:List dP}(I:Inv X ag σ H s)(hf:∀b∈fp,kE X ag H b)(ho:∀b∈fp,∃o,s.heap.get? b=Z o /\ ∀v,o.data ≠ .cell v):Inv X (ag++om fp s.heap) σ H s:=
 I.pins_of λp g=>(aG.mp g).elim (λz=>I.pin p (mA1 _ z)) λz=>by
  obtain⟨c,e⟩:=yc z;obtain⟨i,f,h,_⟩:=hf p.1 c;obtain⟨o,a,d⟩:=ho p.1 c;rw[e]at a;cases a;exact⟨e,i,f,h,d⟩
theorem Inv.unpinned{ag pl:List (dP×Obj)}{σ:St}{H:Hp}{s:dN}(I:Inv X (ag++pl) σ H s):Inv X ag σ H s:=I.pins_of λp a=>I.pin p (mA1 _ (aH _ a))
theorem FP{iter:Expr}{t:List d3}{S:TI}{g:TG}{tb:TS}{pos:Pos}(hp:Na (MN X.prog X.w) X.A X.env X.xe)(hc:X.calm=M)(hi:PI X tg iter S)(hg:PG X tg g)(hb:u6 X t tb)(hs:autoParam (∀x,Nj iter X.env x=pure x) du0):PS X (.For tg iter t [] pos) (Ia S g tb):=by
 intro ag s σ H D I h;refine wpAny_For (ft (hi ag s σ H _ I h) λv s1 h1=>ft h1 λwq s2 h2=>?_) hs;obtain⟨it,fp,tn,am,H2,e,I2,T,L,U,W,⟨m0,aq⟩,A⟩:=h2;subst e
 -- what stays M of the iterator's objects through the loop
 have c:∀{H':Hp},(∀b∈fp,H' b=Y) -> ∀b∈fp,kE X ag H' b:=λhn b hb=>⟨hn b hb,(U b hb).2⟩;refine codeAny_forLoop_any (λn s'=>∃i l H',Inv X ag l H' s'/\tn i s'.heap/\(∀b∈fp,H' b=Y)/\W i n l H') ?_ m0 ⟨0,σ,H2,I2,L,λb hb=>(U b hb).1,aq⟩;rintro n Q ⟨i,k,E,P,z,C,w3⟩;rcases A i n k E w3 with⟨B,qn⟩|⟨go,N,hN,step⟩
 ·refine Nb hp (ft (T.done X O O O hc i ag Q k E X.xe P (c C) z B) λr s4 ⟨ao,I4⟩=>?_);subst ao;exact MV ⟨k,E,I4,qn⟩
 ·refine Nb hp (ft (T.item X rfl rfl rfl hc i ag Q k E X.xe P (c C) z go) fun r s4 ⟨u,ao,h4⟩=>?_);subst ao;refine Nb hp (ft h4 fun _ V ⟨x,R,I5,r5,y5,w,G⟩=>?_);have K:=I5.pinned (c G) (T.obj _ _ w);refine Nb hp (ft (hg _ V k R x u _ K r5 (step x R y5)) fun _ s6 ⟨F,H6,I6,q6⟩=>?_);refine Nb hp (ft (hb _ s6 F H6 _ I6 q6) fun f au q=>?_);have again:∀ {a:St} {p:Hp},Inv X (ag++om fp V.heap) a p au->N a p -> ∃ m,m<n /\ ∃ i l H',Inv X ag l H' au/\tn i au.heap/\(∀ b∈fp,H' b=none)/\W i m l H':=fun {a p} j y=>by
   obtain⟨m',hm,w7⟩:=hN a p y;refine⟨m',hm,i+1,a,p,j.unpinned,T.keep _ _ _ w λb hb o e=>(j.pin (b,o) (mA1 _ (mA1 _ (jd hb e)))).1,λb hb=>?_,w7⟩;obtain⟨o,e,d⟩:=T.obj _ _ w b hb;exact(j.pin (b,o) (mA1 _ (mA1 _ (jd hb e)))).2.1
  cases f with
  |next=>obtain⟨a,p,j,y⟩:=q;exact again j y
  |cont=>obtain⟨a,p,j,y⟩:=q;exact again j y
  |brk=>obtain⟨a,p,j,q⟩:=q;exact⟨a,p,j.unpinned,q⟩
  |ret v=>obtain⟨x7,a,p,j,r7,q⟩:=q;exact⟨x7,a,p,j.unpinned,r7,q⟩
end
abbrev R2:=V->V->Hp->VK->Prop
def gI(X:Cx)(f:dM->dM->Sem dM)(r:R2):Prop:=
 ∀(ag:List (dP×Obj)) (s:dN) (σ:St) (H:Hp) (x y:V) (v u:dM) (Q:VK),Inv X ag σ H s->ew x v->ew y u->r x y H Q ->
  dX (MN X.prog X.w) X.A (f v u) (EP X ag σ Q) X.xe s
def HM(X:Cx)(f:dM->Sem dM)(r:V->Hp->VK->Prop):Prop:=
 ∀(ag:List (dP×Obj)) (s:dN) (σ:St) (H:Hp) (x:V) (v:dM) (Q:VK),Inv X ag σ H s->ew x v->r x H Q ->
  dX (MN X.prog X.w) X.A (f v) (EP X ag σ Q) X.xe s
def fi(X:Cx)(f:dM)(r:List V->Hp->VK->Prop):Prop:=
 ∀(ag:List (dP×Obj)) (s:dN) (σ:St) (H:Hp) (xs:List V) (us:List dM) (Q:VK),Inv X ag σ H s->eH xs us->r xs H Q ->
  dX (MN X.prog X.w) X.A (call f us) (EP X ag σ Q) X.xe s
def K9(X:Cx)(r:V->Hp->(Bool->Hp->Prop)->Prop):Prop:=
 ∀(ag:List (dP×Obj)) (s:dN) (σ:St) (H:Hp) (x:V) (v:dM) (Q:Bool->Hp->Prop),Inv X ag σ H s->ew x v->r x H Q ->
  dX (MN X.prog X.w) X.A (truthy v) (TP X ag σ Q) X.xe s
noncomputable def HZ(r:R2)(ta tb:TE):TE:=fun σ H Q=>ta σ H λx H1=>tb σ H1 λy H2=>r x y H2 Q
def Lh(r:V->Hp->VK->Prop)(ta:TE):TE:=fun σ H Q=>ta σ H λx H1=>r x H1 Q
def rI(C:Int->Int->Prop)(g:Int->Int->V):R2:=λx y H Q=>∃i j,x = .int i/\y = .int j/\C i j/\Q (g i j) H
noncomputable def Ez(g:Int->Int->V):R2:=λx y H Q=>∃i j,x = .int i/\y = .int j/\Q (g i j) H
def rU(g:Int->V):V->Hp->VK->Prop:=λx H Q=>∃i,x = .int i/\Q (g i) H
section
variable{a b c:Expr}{ta tb tc:TE}{pos:Pos}
theorem Hw(ha:PE X a ta)(hb:PE X b tb){ag:List (dP×Obj)}{s:dN}{σ:St}{H:Hp}{R:V->V->Hp->Prop}(I:Inv X ag σ H s)(h:ta σ H fun x H1=>tb σ H1 fun y H2=>R x y H2){Q:dM->dN->Prop}{f:dM->dM->Sem dM}(hf:∀v u e x y H2,Inv X ag σ H2 e->ew x v->ew y u->R x y H2->dX (MN X.prog X.w) X.A (f v u) Q X.xe e):
  dX (MN X.prog X.w) X.A (eval a X.env) (λv c=>dX (MN X.prog X.w) X.A (eval b X.env) (λu d=>dX (MN X.prog X.w) X.A (f v u) Q X.xe d) X.xe c) X.xe s:=by
 refine ft (ha ag s σ H _ I h) λv l ⟨x,H1,g,j,i⟩=>?_;refine ft (hb ag l σ H1 _ g i) λu e ⟨y,H2,m,r2,k⟩=>?_;exact hf v u e x y H2 m j r2 k
theorem Ix{op:M0}{r:R2}(ho:gI X (Nk op) r)(ha:PE X a ta)(hb:PE X b tb):PE X (.BinOp a op b pos) (HZ r ta tb):=by
 intro ag s σ H Q I h;exact wpAny_BinOp (Hw ha hb I h λv u d x y H2 f e c q=>ho ag d σ H2 x y v u Q f e c q)
theorem Iw{op:UnaryOp}{r:V->Hp->VK->Prop}(ho:HM X (unaryOp op) r)(ha:PE X a ta):PE X (.UnaryOp op a pos) (Lh r ta):=by
 intro ag s σ H Q I h;exact UnaryOp_ (ft (ha ag s σ H _ I h) λv d ⟨x,H1,b,e,c⟩=>ho ag d σ H1 x v Q b e c)
theorem JX{f:dM->dM->Sem dM}{C:Int->Int->Prop}{g:Int->Int->Int}(a:∀(i j:Int) (t u:Tok) (s:dN) (Q:dM->dN->Prop) (E:dM->dN->Prop),C i j->Q (.int (g i j) s.toks) {s with toks:=s.toks+1}->dX (MN X.prog X.w) X.A (f (.int i t) (.int j u)) Q E s):
  gI X f (rI C λi j=>.int (g i j)):=by
 intro ag s σ H x y v u Q I b c h;obtain⟨i,j,rfl,rfl,hc,q⟩:=h;obtain⟨t,rfl⟩:=b;obtain⟨d,rfl⟩:=c;exact a i j t d s _ _ hc ⟨.int (g i j),H,I.tok _,⟨_,O⟩,q⟩
theorem IF{f:dM->dM->Sem dM}{g:Int->Int->Int}(a:∀(i j:Int) (t u:Tok) (s:dN) (Q:dM->dN->Prop) (E:dM->dN->Prop),Q (.int (g i j) s.toks) {s with toks:=s.toks+1}->dX (MN X.prog X.w) X.A (f (.int i t) (.int j u)) Q E s):
  gI X f (Ez λi j=>.int (g i j)):=by
 intro ag s σ H x y v u Q I b c h;obtain⟨i,j,rfl,rfl,q⟩:=h;obtain⟨t,rfl⟩:=b;obtain⟨d,rfl⟩:=c;exact a i j t d s _ _ ⟨.int (g i j),H,I.tok _,⟨_,O⟩,q⟩
theorem Gi{f:dM->dM->Sem dM}{g:Int->Int->Bool}(a:∀(i j:Int) (t u:Tok) (s:dN) (Q:dM->dN->Prop) (E:dM->dN->Prop),Q (.bool (g i j)) s->dX (MN X.prog X.w) X.A (f (.int i t) (.int j u)) Q E s):
  gI X f (Ez λi j=>.bl (g i j)):=by
 intro ag s σ H x y v u Q I b c h;obtain⟨i,j,rfl,rfl,q⟩:=h;obtain⟨t,rfl⟩:=b;obtain⟨d,rfl⟩:=c;exact a i j t d s _ _ ⟨.bl (g i j),H,I,O,q⟩
def JS(i j:Int):Prop:=0<j/\j<1073741824
def JR(i j:Int):Prop:=0<=j/\j<=1000000/\i.natAbs<2^64
theorem Gh:gI X (Nk .Add) (Ez λi j=>.int (i+j)):=IF λ_ _ _ _ _ _ _ q=>add_int q
theorem C4:gI X (Nk .FloorDiv) (rI JS λi j=>.int (i/j)):=JX λi j _ _ _ _ _ hc q=>by
 have h1:(0:Int)<j:=hc.1;have h2:j<1073741824:=hc.2;exact floordiv_int (by lia) (by rw[Int.fdiv_eq_ediv_of_nonneg i (by lia)];exact q) (.inl (PyProof.noPylong_small (by lia)))
theorem Ge:gI X (Nk .Mod) (rI (λ_ j=>0<j) λi j=>.int (i%j)):=JX λi j _ _ _ _ _ hc q=>by
 have h1:(0:Int)<j:=hc;exact mod_int' (by lia) (by rw[Int.fmod_eq_emod_of_nonneg i (by lia)];exact q)
theorem Gc:gI X (Nk .Pow) (rI JR λi j=>.int (i^j.toNat)):=JX λ_ _ _ _ _ _ _ hc q=>pow_int_small hc.1 hc.2.1 hc.2.2 q
theorem DU:gI X (inplaceOp .Add) (Ez λi j=>.int (i+j)):=IF λ_ _ _ _ _ _ _ q=>iadd_int q
theorem LG{f:dM->Sem dM}{g:Int->Int}(a:∀(i:Int) (t:Tok) (s:dN) (Q:dM->dN->Prop) (E:dM->dN->Prop),Q (.int (g i) s.toks) {s with toks:=s.toks+1}->dX (MN X.prog X.w) X.A (f (.int i t)) Q E s):
  HM X f (rU λi=>.int (g i)):=by
 intro ag s σ H x v Q I b h;obtain⟨i,rfl,q⟩:=h;obtain⟨t,rfl⟩:=b;exact a i t s _ _ ⟨.int (g i),H,I.tok _,⟨_,O⟩,q⟩
theorem EV:HM X (unaryOp .USub) (rU λi=>.int (-i)):=LG λ_ _ _ _ _ q=>neg_int q
theorem Hi{ag:List (dP×Obj)}{σ:St}{H:Hp}{s:dN}{Q:VK}{k k':Bool}(I:Inv X ag σ H s)(q:Q (.bl k) H)(e:k=k'):EP X ag σ Q (.bool k') s:=by
 subst e;exact⟨.bl k,H,I,O,q⟩
theorem IC:gI X (Nl .LtE) (Ez λi j=>.bl (decide (i<=j))):=Gi λ_ _ _ _ _ _ _ q=>le_int q
theorem ID:gI X (Nl .Gt) (Ez λi j=>.bl (decide (j<i))):=Gi λ_ _ _ _ _ _ _ q=>gt_int q
theorem IE:gI X (Nl .GtE) (Ez λi j=>.bl (decide (j<=i))):=Gi λ_ _ _ _ _ _ _ q=>ge_int q
theorem Gf:gI X (Nl .Is) (λx y H Q=>y = .non/\Q (.bl (decide (x = .non))) H):=by
 intro ag s σ H x y v u Q I a b h;obtain⟨rfl,q⟩:=h;cases b;refine is_none_gen (Hi I q ?_);cases x<;>first
  |(cases a;rfl)
  |(obtain⟨t,rfl⟩:=a;rfl)
theorem As(b:Expr){op:Nm}(h:autoParam (op ≠ .In) bu0)(h2:autoParam (op ≠ .NotIn) bu0):Nn op b=J:=by
 have c:(op == CmpOp.In)=J:=by cases op<;>first|rfl|exact absurd rfl h
 have a:(op == CmpOp.NotIn)=J:=by cases op<;>first|rfl|exact absurd rfl h2
 cases b<;>simp[Nn,c,a]
theorem C1{op:Nm}{r:R2}(ho:gI X (Nl op) r)(ha:PE X a ta)(hb:PE X b tb)(hm:Nn op b=J):PE X (.Compare a [op] [b] pos) (HZ r ta tb):=by
 intro ag s σ H Q I h;exact wpAny_Compare1 (Hw ha hb I h λv u d x y H2 f e c q=>ho ag d σ H2 x y v u Q f e c q) hm
noncomputable def Et(t:TE):TT:=fun σ H Q=>t σ H λx H'=>∃k,x = .bl k/\Q k H'
theorem CK{op:Nm}{r:R2}(ho:gI X (Nl op) r)(ha:PE X a ta)(hb:PE X b tb)(hm:Nn op b=J):PT X (.Compare a [op] [b] pos) (Et (HZ r ta tb)):=by
 intro ag s σ H Q I h;refine wpAny_isTrue_Compare1 (ft (ha ag s σ H _ I h) λv o ⟨x,H1,d,m,g⟩=>ft (hb ag o σ H1 _ d g) λu f ⟨y,H2,q,r2,n⟩=>
  ft (ho ag f σ H2 x y v u _ q m r2 n) λc t ⟨z,j,l,i,k,e,p⟩=>?_) hm
 subst e;cases i;exact MR ⟨j,l,p⟩
noncomputable def vh(r r':R2)(ta tb tc:TE):TE:=fun σ H Q=>ta σ H λx H1=>tb σ H1 λy H2=>r x y H2 λz H3=>∃k,z = .bl k /\
 (if k=M then tc σ H3 λw' H4=>r' y w' H4 Q else Q (.bl J) H3)
theorem Aj{op op':Nm}{r j:R2}(ho:gI X (Nl op) r)(ho':gI X (Nl op') j)(ha:PE X a ta)(hb:PE X b tb)(hc:PE X c tc)(hm:lastMarks [op,op'] [b,c]=J:=by with_unfolding_all rfl):PE X (.Compare a [op,op'] [b,c] pos) (vh r j ta tb tc):=by
 intro ag s σ H Q I h;refine Compare_chain (ft (ha ag s σ H _ I h) λv F ⟨x,H1,o,q,A⟩=>chain_link (ft (hb ag F σ H1 _ o A) λu p ⟨y,H2,C,r2,E⟩=>
  ft (ho ag p σ H2 x y v u _ C q r2 E) λd m ⟨z,i,f,D,k,e,g⟩=>?_)) hm
 subst e;cases D;refine MR ?_;cases k with
 |false=>exact ite_ff ⟨.bl J,i,f,O,g⟩
 |true=>exact ite_tt (chain_last (ft (hc ag m σ i _ f g) λB n ⟨am,w,t,G,l⟩=>ho' ag n σ w y am u B Q t r2 G l))
theorem zS{op op':Nm}{r j:R2}(ho:gI X (Nl op) r)(ho':gI X (Nl op') j)(ha:PE X a ta)(hb:PE X b tb)(hc:PE X c tc)(hm:autoParam (lastMarks [op,op'] [b,c]=J) Aj._auto_1):PT X (.Compare a [op,op'] [b,c] pos) (Et (vh r j ta tb tc)):=by
 intro ag s σ H Q I h;refine isTrue_chain (ft (ha ag s σ H _ I h) λv au ⟨x,H1,p,t,C⟩=>test_link (ft (hb ag au σ H1 _ p C) λu q ⟨y,H2,F,r2,N⟩=>
  ft (ho ag q σ H2 x y v u _ F t r2 N) λd m ⟨z,i,f,K,k,e,g⟩=>?_)) hm
 subst e;cases K;refine MR ?_;cases k with
 |false=>
  obtain⟨T,G,ao⟩:=g;cases G;exact ite_ff ⟨i,f,ao⟩
 |true=>
  refine ite_tt (test_last (ft (hc ag m σ i _ f g) λD o ⟨R,B,w,P,l⟩=>ft (ho' ag o σ B y R u D _ w r2 P l) λS W ⟨U,L,E,A,V,n,am⟩=>?_));subst n;cases A;exact MR ⟨L,E,am⟩
def Ei(K:Fg1)(x:V)(H:Hp)(k:Bool):Prop:=
 match x with
 | .non=>k=J
 | .bl b=>k=b
 | .int i=>k=(i != 0)
 | .str y=>y.length<=dW/\k=((y.length:Int) != 0)
 | .byt y=>y.size<=dW/\k=((y.size:Int) != 0)
 | .ref p=>(∃xs,nE K H p xs/\k = !xs.isEmpty)\/(∃xs,kC K H p xs/\k = !xs.isEmpty) \/ ∃kvs,H p=Z (.dK kvs)/\k = !kvs.isEmpty
 |_=>False
theorem vM{κ:Type}{kvs:List (κ×V)}{vs:List (κ×dM)}(r:KV kvs vs):(!vs.isEmpty) = !kvs.isEmpty:=by
 cases r<;>rfl
theorem oK{xs:List V}{its:List dM}(r:eH xs its):(!its.toArray.isEmpty) = !xs.isEmpty:=by
 cases r<;>simp
theorem mP:(dW:Nat)<2^63:=by rw[No];decide
theorem E3:K9 X (λx H Q=>∃k,Ei X.K x H k/\Q k H):=by
 intro ag s σ H x v Q I d h;obtain⟨k,e,q⟩:=h;have u:=mP;have o:dW=16777216:=No;cases x with
 |non=>
  cases d;have a:k=J:=e;subst a;exact truthy_none ⟨H,I,q⟩
 |bl b=>
  cases d;have a:k=b:=e;subst a;exact MR ⟨H,I,q⟩
 |int i=>
  obtain⟨t,rfl⟩:=d;have a:k=(i != 0):=e;subst a;exact PySem.P.truthy_int ⟨H,I,q⟩
 |str y=>
  obtain⟨t,rfl⟩:=d;obtain⟨l,a⟩:y.length<=dW/\k=((y.length:Int) != 0):=e;subst a;exact PySem.P.truthy_str (by lia) ⟨H,I.tok _,q⟩
 |byt y=>
  obtain⟨t,rfl⟩:=d;obtain⟨l,a⟩:y.size<=dW/\k=((y.size:Int) != 0):=e;subst a;exact PySem.W.truthy_bytes (by lia) ⟨H,I.tok _,q⟩
 |ref p=>
  cases d;have a:(∃xs,nE X.K H p xs/\k = !xs.isEmpty)\/(∃xs,kC X.K H p xs/\k = !xs.isEmpty) \/ ∃kvs,H p=Z (.dK kvs)/\k = !kvs.isEmpty:=e;rcases a with⟨xs,f,a⟩|⟨xs,f,a⟩|⟨kvs,f,a⟩
  ·subst a;obtain⟨g,r,pl,j⟩:=I.list f;have c:=r.length;exact wpAny_truthy_list pl.isList (by simp only[sT1];lia) ⟨H,I.tok _,by rw[oK r];exact q⟩
  ·subst a;obtain⟨g,r,pl,j⟩:=I.tuple f;have c:=r.length;exact truthy_tuple pl (by simp only[sT1];lia) ⟨H,I.tok _,by rw[oK r];exact q⟩
  ·subst a;obtain⟨j,n,vs,r,m⟩:kvs.length<=dW/\(p == MF)=false /\ ∃vs,KV kvs vs/\s.heap.DictOf (fe X.prog X.w) p vs:=I.hok p _ f;have c:kvs.length=vs.length:=Paired.length r;exact wpAny_truthy_dict n m (by lia) ⟨H,I.tok _,by rw[vM r];exact q⟩
 |_=>exact(show False from e).elim
theorem zR(ha:PE X a ta)(he:∀ b,isTrue a X.env b=(do let v<-b;M4 a.pos;M3 [v] (truthy v))):
  PT X a (fun σ H Q=>ta σ H λx H'=>∃k,Ei X.K x H' k/\Q k H'):=by
 intro ag s σ H Q I h;exact isTrue_plain (ft (ha ag s σ H _ I h) λv f ⟨x,H1,c,e,d⟩=>E3 ag f σ H1 x v Q c e d) (he _)
theorem vw:gI X (Nk .Add) (λx y H Q=>∃i j,x = .str i/\y = .str j/\i.length+j.length<=dW/\Q (.str (i++j)) H):=by
 intro ag s σ H x y v u Q I a b h;obtain⟨i,j,rfl,rfl,c,q⟩:=h;obtain⟨t,rfl⟩:=a;obtain⟨d,rfl⟩:=b;exact add_str (λd tk=>⟨.str (i++j),H,I.tok _,⟨_,O⟩,q⟩) c
theorem iN{x:V}{a:List dM}(r:eH [x] a):∃u,a=[u]/\ew x u:=by
 cases r with
 |cons b r2=>cases r2;exact⟨_,O,b⟩
theorem zg{x y:V}{a:List dM}(r:eH [x,y] a):∃u w',a=[u,w']/\ew x u/\ew y w':=by
 cases r with
 |cons c r2=>
  cases r2 with
  |cons d b=>cases b;exact⟨_,_,O,c,d⟩
theorem yM(hc:X.calm=M):fi X (.builtin "max") (λxs H Q=>∃i j,xs=[.int i,.int j]/\Q (.int (if j>i then j else i)) H):=by
 intro ag s σ H xs c Q I r h;obtain⟨i,j,rfl,q⟩:=h;obtain⟨u,b,rfl,⟨t,rfl⟩,⟨d,rfl⟩⟩:=zg r;refine max_two_ints (I.ok.hd hc) λh' tk k=>⟨_,H,I.kept k,?_,q⟩;by_cases a:j>i
 ·rw[ak a,ak a];exact⟨_,O⟩
 ·rw[aj a,aj a];exact⟨_,O⟩
theorem yL(hc:X.calm=M):fi X (.builtin "min") (λxs H Q=>∃i j,xs=[.int i,.int j]/\Q (.int (if j<i then j else i)) H):=by
 intro ag s σ H xs c Q I r h;obtain⟨i,j,rfl,q⟩:=h;obtain⟨u,b,rfl,⟨t,rfl⟩,⟨d,rfl⟩⟩:=zg r;refine min_two_ints (I.ok.hd hc) λh' tk k=>⟨_,H,I.kept k,?_,q⟩;by_cases a:j<i
 ·rw[ak a,ak a];exact⟨_,O⟩
 ·rw[aj a,aj a];exact⟨_,O⟩
theorem qu:fi X (.type "int") (λxs H Q=>(∃i,xs=[.int i]/\Q (.int i) H) \/ ∃k,xs=[.bl k]/\Q (.int (if k then 1 else 0)) H):=by
 intro ag s σ H xs b Q I r h;rcases h with⟨i,rfl,q⟩|⟨k,rfl,q⟩
 ·obtain⟨u,rfl,t,rfl⟩:=iN r;exact call_int_int ⟨.int i,H,I,⟨_,O⟩,q⟩
 ·obtain⟨u,rfl,a⟩:=iN r;cases a;exact call_int_bool ⟨.int (if k then 1 else 0),H,I.tok _,⟨_,O⟩,q⟩
end
structure HG (h:dZ)(x dx C:dP)(mA:Str->Option dM):Prop where
 obj:h.get? x=some (PySem.W.instObj C dx)
 ns:h.Ns1 dx mA
 ne:dx≠x
theorem yo{h:dZ}{dx:dP}{mA:Str->Option dM}(n:h.Ns1 dx mA):∃c,h.get? dx=Z c /\ ∀name,PySem.W.lookIn name c=Z (mA name):=by
 obtain⟨o,es,ep,f,g,d,_,k⟩:=n;refine⟨o,f,λname=>?_⟩;have e:=k name;unfold nsFind findBy at e;rw[<- Array.find?_toList]at e;unfold PySem.W.lookIn;rw[g];dsimp only;split
 ·rename_i y q;rw[q]at e;exact congrArg Z e
 ·rename_i q;rw [q] at e;have a:es.toList.any (·.refKey)=false:=by
   rw[aN];intro y i;obtain⟨z,t,b⟩:=d y (aO.mp i);simp[DictEntry.refKey,b]
  have j:¬ es.toList.any (·.refKey)=M:=by rw[a];exact aL
  rw[aj j];exact congrArg Z e
theorem HG.look{h:dZ}{x dx C:dP}{mA:Str->Option dM}(I:HG h x dx C mA):∃a,PySem.W.InstAt h x (PySem.W.instObj C dx) C (Z a) /\ ∀name,PySem.W.lookIn name a=Z (mA name):=
 let ⟨a,ho,hl⟩:=yo I.ns
 ⟨a,⟨I.obj,O,O,ho⟩,hl⟩
section
variable{prog:dQ}{w:dS}{A:dR}{E:dM->dN->Prop}{s:dN}{K:Fg1}{x dx C f:dP}{mA:Str->Option dM}{name:Str}{v:dM}
end
theorem lc.some_of{v:V}{o:Option dM}(r:lc (Z v) o):∃u,o=Z u/\ew v u:=by
 cases o with
 |none=>exact(show False from r).elim
 |some u=>exact⟨u,O,r⟩
section
variable{P:dQ}{w:dS}{H H':Hp}{h h':dZ}{a C dx:dP}{fs fs':List (Str×V)}
theorem DV(b:lg P w H h)(e:H a=Z (.ins C dx fs)):∃mA,HG h a dx C mA/\(∀f,lc (fs.lookup f) (mA f))/\PySem.Within mA (fs.map (·.1))/\fs.length<=1000/\H dx=Z (.own a):=by
 obtain⟨d,z,ne,c,mA,n,r,q⟩:=(show fb P w H h a (.ins C dx fs)from b a _ e);exact⟨mA,⟨c,n,ne⟩,r,q,z,d⟩
end
structure Lf (K:Fg1)(C:dP):Prop where
 pg:PySem.W.plainGet K C Str.empty=true
 hd:PySem.W.hasDictIn K C=true
 po:PySem.W.plainOver K C=true
 sa:PySem.W.findIn K (.ref C) "__setattr__"=some (some (.builtin "object.__setattr__"))
theorem Lf.get{K:Fg1}{C:dP}(c:Lf K C)(f:Str):PySem.W.plainGet K C f=M:=c.pg
section
variable{ag:List (dP×Obj)}{σ:St}{H:Hp}{s:dN}{a C dx:dP}{fs:List (Str×V)}{f:Str}{v:V}{A:dR}{E:dM->dN->Prop}
end
section
variable{o e value:Expr}{f:Str}{pos pos' tpos:Pos}{ta tv:TE}
end
section
variable{ag:List (dP×Obj)}{σ:St}{H:Hp}{s:dN}{A:dR}{E:dM->dN->Prop}{Q:dM->dN->Prop}{c:dM}{b:Bool}
inductive nD (K:Fg1)(H:Hp):V->dM->Prop where
 |non:nD K H .non (.type "NoneType")
 |bl (x:Bool):nD K H (.bl x) (.type "bool")
 |int (i:Int):nD K H (.int i) (.type "int")
 |str (x:Str):nD K H (.str x) (.type "str")
 |flt (x:UInt64):nD K H (.flt x) (.type "float")
 |lst {a:dP} {xs:List V} (e:H a=some (.lst xs)):nD K H (.ref a) (.type "list")
 |frz {a:dP} {o:Obj} {xs:List V} (e:H a=some (.frz o (.lst xs))):nD K H (.ref a) (.type "list")
 |tup {a:dP} {xs:List V} (e:H a=some (.tup xs)):nD K H (.ref a) (.type "tuple")
 |dK {a:dP} {kvs:List (Key×V)} (e:H a=some (.dK kvs)):nD K H (.ref a) (.type "dict")
 |dT {a:dP} {kvs:List (List Key×V)} (e:H a=some (.dT kvs)):nD K H (.ref a) (.type "dict")
 | ins {a C dx:dP} {fs:List (Str×V)} (e:H a=some (.ins C dx fs)) (cl:Lf K C) (ha:PySem.W.findIn K (.ref C) "__class__"=some (some (.builtin "object.__class__")))
   (hn:PySem.W.specialIn K (.builtin "object.__class__") "__get__"=some (some (.builtin "getset_descriptor.__get__"))) (htk:PySem.W.takesIn K (.builtin "object.__class__")=some true)
   (hm:PySem.W.mroIn K C (.type "object")=some true):nD K H (.ref a) (.ref C)
theorem iY{x:V}{u t:dM}(I:Inv X ag σ H s)(f:ew x u)(ty:nD X.K H x t)(e:Np X.K t c=some b)(h:∀ tk,Q (.bool b) {s with toks:=tk}):
  dX (MN X.prog X.w) A (call (.builtin "isinstance") [u,c]) Q E s:=by
 cases ty with
 |non=>cases(show u=ab from f);exact Nq PySem.W.kitx_none I.kIn Nr e (λz=>nomatch z) h
 |bl y=>cases(show u=ae y from f);exact Nq PySem.W.kitx_bool I.kIn Nr e (λz=>nomatch z) h
 |int i=>obtain⟨t,q⟩:=(show∃t,u=aa i t from f);cases q;exact Nq PySem.W.kitx_int I.kIn Nr e (λz=>nomatch z) h
 |str y=>obtain⟨t,q⟩:=(show∃t,u=Value.str y t from f);cases q;exact Nq PySem.W.kitx_str I.kIn Nr e (λz=>nomatch z) h
 |flt y=>obtain⟨t,q⟩:=(show∃t,u=Value.float y t from f);cases q;exact Nq PySem.W.kitx_float I.kIn Nr e (λz=>nomatch z) h
 | @lst a xs d=>
  cases(show u=Mz a from f);obtain⟨_,_,n,_,h1⟩:=(show fb X.prog X.w H s.heap a (.lst xs)from I.hok a _ d);exact Nq PySem.W.kitx_list I.kIn ⟨_,h1,O⟩ e (λz=>nomatch z) h
 | @frz a m xs d=>
  cases(show u=Mz a from f);obtain⟨_,_,_,n,_,h1⟩:=(show fb X.prog X.w H s.heap a (.frz m (.lst xs))from I.hok a _ d);exact Nq PySem.W.kitx_list I.kIn ⟨_,h1,O⟩ e (λz=>nomatch z) h
 | @tup a xs d=>
  cases(show u=Mz a from f);obtain⟨_,_,_,p⟩:=(show fb X.prog X.w H s.heap a (.tup xs)from I.hok a _ d);obtain⟨o,h1,h2,_⟩:=p;exact Nq PySem.W.kitx_tuple I.kIn ⟨o,h1,h2⟩ e (λz=>nomatch z) h
 | @dK a kvs d=>
  cases(show u=Mz a from f);obtain⟨_,_,vs,_,p⟩:=(show fb X.prog X.w H s.heap a (.dK kvs)from I.hok a _ d);obtain⟨o,es,ep,h1,h2,_⟩:=p;exact Nq PySem.W.kitx_dict I.kIn ⟨o,h1,h2.1⟩ e (λz=>nomatch z) h
 | @dT a kvs d=>
  cases(show u=Mz a from f);obtain⟨_,_,xs,_,o,es,ep,h1,h2,_⟩:=(show fb X.prog X.w H s.heap a (.dT kvs)from I.hok a _ d);exact Nq PySem.W.kitx_dict I.kIn ⟨o,h1,h2.1⟩ e (λz=>nomatch z) h
 | @ins a C dx fs d j l k g r=>
  cases(show u=Mz a from f);obtain⟨mA,au,_⟩:=DV I.hok d;obtain⟨v,am,_⟩:=au.look;exact Nq (PySem.W.kitx_own (j.get _) j.hd l k g r) I.kIn am e (λz=>nomatch z) h
end
structure gl (k:Nat)(A:dR):Prop where
 hd:A.handled=none
 dp:A.depth+3*k+5<recursionLimit
 un:A.units+16*k+200<Nt
 gd:A.guards=some []
theorem gl.mono{j k:Nat}{A:dR}(r:gl k A)(h:j<=k):gl j A:=⟨r.hd,by have:=r.dp;lia,by have:=r.un;lia,r.gd⟩
theorem gl.deeper{k:Nat}{A:dR}(r:gl (k+1) A)(env:Env):gl k (A.deeper env):=
 ⟨r.hd,by have:=r.dp;show A.depth+1+3*k+5<_;lia,by have:=r.un;show A.units+3+16*k+200<_;lia,r.gd⟩
theorem gl.depth{k:Nat}{A:dR}(r:gl k A):A.depth<recursionLimit:=by have:=r.dp;lia
theorem gl.units{k:Nat}{A:dR}(r:gl k A):A.units+64<Nt:=by have:=r.un;lia
def Ko:TA:=λ_ H Q=>Q [] H
noncomputable def Ie(ta:TE)(tr:TA):TA:=fun σ H Q=>ta σ H λx H1=>tr σ H1 λxs H2=>Q (x::xs) H2
section
variable{e:Expr}{es:List Expr}{te:TE}{t:TA}{pos:Pos}
theorem rE:PA X [] Ko:=λ_ _ _ _ H Q I h=>Calls.spliced_nil ⟨[],H,I,.nil,h⟩
theorem lU(ha:PE X e te)(hr:PA X es t)(hs:autoParam (dV (e::es) X.env=(J,eval e X.env)::dV es X.env) cu0):PA X (e::es) (Ie te t):=by
 intro pos ag s σ H Q I h;rw[hs];show dX _ _ (spliced ((J,eval e X.env)::MP pos (dV es X.env))) _ _ s;refine Nu (ft (ha ag s σ H _ I h) λu f ⟨x,H1,a,c,b⟩=>?_);exact ft (hr pos ag f σ H1 _ a b) λj i ⟨xs,H2,g,r2,d⟩=>⟨x::xs,H2,g,.cons c r2,d⟩
def Kj(t:TA):TE:=fun σ H Q=>t σ H λxs H1=>xs.length<=dW /\ ∀p,H1 p=Y->Q (.ref p) (upd H1 p (.tup xs))
def Ks(t:TA):TE:=fun σ H Q=>t σ H λxs H1=>xs.length<=dW /\ ∀p,H1 p=Y->Q (.ref p) (upd H1 p (.lst xs))
theorem F2{x1}(h:PA X es t):PE X (.Tuple es x1 pos) (Kj t):=by
 intro ag s σ H Q I g;refine wpAny_Tuple_spliced (ft (h pos ag s σ H _ I g) λf a ⟨xs,H1,c,r,z,q⟩=>⟨by rw[<- r.length];exact z,?_⟩);have d:H1 a.heap.objs.size=Y:=c.hok.fresh (nR1 _);refine⟨.ref a.heap.objs.size,upd H1 a.heap.objs.size (.tup xs),c.laid (t':=a.toks) (λb u e=>hP1 _ e) (nR1 _) ?_,O,q _ d⟩;exact⟨z,f,r,⟨_,hS1 _ O,O,_,O⟩⟩
theorem F6(h:PA X es t):PE X (.List es pos) (Ks t):=by
 intro ag s σ H Q I g;refine wpAny_List_spliced (ft (h pos ag s σ H _ I g) λf a ⟨xs,H1,c,r,z,q⟩=>⟨by rw[<- r.length];exact z,?_⟩);have d:H1 a.heap.objs.size=Y:=c.hok.fresh (nR1 _);refine⟨.ref a.heap.objs.size,upd H1 a.heap.objs.size (.lst xs),c.laid (t':=a.toks) (λb u e=>hP1 _ e) (nR1 _) ?_,O,q _ d⟩;exact⟨z,f,0,r,hS1 _ O⟩
end
abbrev Sp:=List V->Hp->VK->XK->Prop
abbrev yS:=List Env->Hp->dN->XK->dM->dN->Prop
structure Em (P:dQ)(w:dS)(K:Fg1)(mg:Str->Option dM)(base:dZ)(A:dR)(outer:List Env)(s:dN)(H:Hp):Prop where
 frames:A.frames=some outer
 mod:Mod K mg base
 bs:∀b o,base.get? b=some o->s.heap.get? b=some o/\H b=none
 bsz:base.objs.size<=s.heap.objs.size
 funs:s.heap.FunFrames base outer
 frf:∀b∈frs outer,H b=none
 hok:lg P w H s.heap
 bare:MJ s.gens
def CE(outer:List Env)(P:dQ)(w:dS)(H:Hp)(s:dN)(Q:VK)(u:dM)(s':dN):Prop:=
 ∃v H',s'.os=s.os/\MJ s'.gens/\Un (frs outer) [] H H' s.heap s'.heap/\lg P w H' s'.heap/\ew v u/\Q v H'
def CR(CX:yS)(outer:List Env)(P:dQ)(w:dS)(H:Hp)(s:dN)(Q:VK)(E:XK)(r:Result)(s':dN):Prop:=
 match r with
 | .ok (.ret u)=>CE outer P w H s Q u s'
 | .ok _=>False
 | .error e=>CX outer H s E e s'
structure mY (P:dQ)(w:dS)(K:Fg1)(mg:Str->Option dM)(base:dZ)(CX:yS)(k:Nat)(f:dP)(fd:d2)(ps:List Str)(sp:Sp):Prop where
 len:∀vs H Q E,sp vs H Q E->vs.length=ps.length
 run:∀(A:dR) (outer:List Env) (s:dN) (H:Hp) (args:Args) (us:List dM) (vs:List V) (Q:VK) (E:XK),gl k A->Em P w K mg base A outer s H->BindsTo s fd args (ps.zip us)->eH vs us->sp vs H Q E ->
  dY (MN P w) A (.call (.ref f) args) (CR CX outer P w H s Q E) s
section
variable{ag:List (dP×Obj)}{σ:St}{H:Hp}{s s':dN}
theorem Inv.env0(I:Inv X ag σ H s):Em X.prog X.w X.K X.mg X.base X.A X.stack s H:=
 ⟨I.ok.frames,I.ok.mod,I.bs,aC I.ok.bsz I.sz,I.stack,I.stkFree,I.hok,I.bare⟩
theorem Inv.after{Q:VK}{u:dM}(I:Inv X ag σ H s)(h:CE X.stack X.prog X.w H s Q u s'):EP X ag σ Q u s':=by
 obtain⟨v,H',f,a,un,e,r,q⟩:=h;obtain⟨i,g,d,t,c⟩:=s';obtain rfl:c=s.os:=f;exact⟨v,H',I.call (h':=i) (g':=g) (d':=d) (t':=t) (ch:=[]) un e a (λb z=>absurd z (by simp)),r,q⟩
end
noncomputable def Ig(sp:Sp)(dvs:List V)(E:XK)(t:TA):TE:=fun σ H Q=>t σ H λvs H1=>sp (vs++dvs) H1 Q E
def j9(K:Fg1)(fd:d2)(ps:List Str)(ds:List dM):Prop:=
 ∀(s:dN) (us:List dM),K.In s.heap->(us++ds).length=ps.length->BindsTo s fd ⟨us,[]⟩ (ps.zip (us++ds))
theorem j9.all{K:Fg1}{fd:d2}{ps:List Str}(h:∀a:List dM,a.length=ps.length->bindArgs fd ⟨a,[]⟩=pure (ps.zip a)):j9 K fd ps []:=λs a _ b=>by
 rw[aP]at b ⊢;exact .of_eq (h a b)
def wc(CX:yS)(X:Cx)(E:XK):Prop:=∀(ag:List (dP×Obj)) (σ:St) (H:Hp) (s:dN) (e:dM) (s':dN),Inv X ag σ H s->CX X.stack H s E e s'->X.xe e s'
section
variable{CX:yS}{k:Nat}{f C:dP}{fd:d2}{ps:List Str}{sp:Sp}{dvs:List V}{ds:List dM}{E:XK}{x m:Str}{p pos apos:Pos}{e o:Expr}{es:List Expr}{ta:TE}{t:TA}
theorem Fu{ag:List (dP×Obj)}{σ:St}{H:Hp}{s:dN}{Q:VK}{a:List dM}{vs:List V}(F:mY X.prog X.w X.K X.mg X.base CX k f fd ps sp)(hr:gl k X.A)(hb:j9 X.K fd ps ds)(hd:eH dvs ds)(hx:wc CX X E)(I:Inv X ag σ H s)(r:eH vs a)(h:sp (vs++dvs) H Q E):dX (MN X.prog X.w) X.A (call (.ref f) a) (EP X ag σ Q) X.xe s:=by
 have r2:eH (vs++dvs) (a++ds):=r.append hd;have d:(a++ds).length=ps.length:=by rw[<- r2.length];exact F.len _ _ _ _ h
 refine wpAny_call (Nv (F.run X.A X.stack s H ⟨a,[]⟩ (a++ds) (vs++dvs) Q E hr I.env0 (hb s a I.kIn d) r2 h) λr s' b=>?_);cases r with
 |error e=>exact hx ag σ H s e s' I b
 |ok c=>
  cases c with
  |ret u=>exact I.after b
  |next=>exact MU b
  |brk=>exact MU b
  |cont=>exact MU b
theorem C2 (F:mY X.prog X.w X.K X.mg X.base CX k f fd ps sp)(hr:gl k X.A)(hg:Gl X x)(hm:X.mg x=some (.ref f))(hk:wK1 X.K (.ref f)=true)(hb:j9 X.K fd ps ds)(hd:eH dvs ds)(hx:wc CX X E)
  (ha:PA X (e::es) t) (hdb:autoParam ((x == ("__debug__":Str))=J) bu0) (he:autoParam (dV (e::es) X.env=(J,eval e X.env)::dV es X.env) cu0) (hpl:autoParam ((MP pos (dV es X.env)).any (·.1)=J) cu0):
  PE X (.Call (.Name x p) (e::es) [] pos) (Ig sp dvs E t):=by
 intro ag s σ H Q I h;refine wpAny_Call_Name_kw (Dz I hg hm ?_ hdb);refine PySem.W.callWith_K (h₀:=X.base) I.ok.mod.kin hk (ft (ha pos ag s σ H _ I h) λc b ⟨vs,H1,a,r,q⟩=>⟨a.kIn,?_⟩) he hpl;exact Fu F hr hb hd hx a r q
end
section
variable{CX:yS}{k:Nat}{f C:dP}{fd:d2}{ps ks:List Str}{sp:Sp}{E:XK}{x m:Str}{p pos apos kpos:Pos}{e o:Expr}{es:List Expr}{kws:List Nw}{te ta:TE}{t tk:TA}{nm:Option Str}
variable{g:List dM->List dM->List dM}{gV:List V->List V->List V}
end
structure gR (N P:List Str)(sc:d4):Prop where
 kind:sc.kind = .function
 co:sc.isCoroutine=false
 gen:sc.isGenerator=false
 nd:N.Nodup
 pre:N.take P.length=P
 par:∀x∈P,sc.names.lookup x=some .local\/sc.names.lookup x=some .cell
 nofree:∀y∈sc.names,y.2 ≠ .free
theorem qw{kindOf:Str->Option Nx}{x:Str}:∀{binds:List (Str×dM)} {m:Str->Option dM},(∀v,(x,v)∉binds)->bindL kindOf binds m x=m x
 |[],_,_=>rfl
 |(n,v)::r,m,h=>by
  unfold bindL;rw[qw λw a=>h w (mC1 _ a)];split
  ·have:x≠n:=by rintro rfl;exact h v mS1
   simp[this]
  ·rfl
theorem qy{kindOf:Str->Option Nx}{x:Str}:∀{binds:List (Str×dM)} {m:Str->Option dM},(∀v,(x,v)∉binds)->bindC kindOf binds m x=m x
 |[],_,_=>rfl
 |(n,v)::r,m,h=>by
  unfold bindC;rw[qy λw a=>h w (mC1 _ a)];split
  ·rfl
  ·have:x≠n:=by rintro rfl;exact h v mS1
   simp[this]
theorem qx{kindOf:Str->Option Nx}{x:Str}{v:dM}:∀ {P:List Str} {vs:List dM} {i:Nat} {m:Str->Option dM},P.Nodup->P[i]? = some x->vs[i]? = some v->kindOf x=some .local ->
  bindL kindOf (P.zip vs) m x=Z v
 |[],_,_,_,_,h,_,_=>by simp at h
 |_::_,[],_,_,_,_,h,_=>by simp at h
 |p::P,w::vs,0,m,nd,h1,h2,hk=>by
  simp at h1 h2;subst h1;subst h2;show bindL kindOf ((p,w)::P.zip vs) m p=_;unfold bindL;rw[qw λv a=>(aQ.mp nd).1 (List.of_mem_zip a).1,ak hk];simp
 |p::P,w::vs,i+1,m,nd,h1,h2,hk=>by
  show bindL kindOf ((p,w)::P.zip vs) m x=_;unfold bindL;exact qx (i:=i) (aQ.mp nd).2 (by simpa using h1) (by simpa using h2) hk
theorem qz{kindOf:Str->Option Nx}{x:Str}{v:dM}:∀ {P:List Str} {vs:List dM} {i:Nat} {m:Str->Option dM},P.Nodup->P[i]? = some x->vs[i]? = some v->kindOf x≠some .local ->
  bindC kindOf (P.zip vs) m x=Z v
 |[],_,_,_,_,h,_,_=>by simp at h
 |_::_,[],_,_,_,_,h,_=>by simp at h
 |p::P,w::vs,0,m,nd,h1,h2,hk=>by
  simp at h1 h2;subst h1;subst h2;show bindC kindOf ((p,w)::P.zip vs) m p=_;unfold bindC;rw[qy λv a=>(aQ.mp nd).1 (List.of_mem_zip a).1,aj hk];simp
 |p::P,w::vs,i+1,m,nd,h1,h2,hk=>by
  show bindC kindOf ((p,w)::P.zip vs) m x=_;unfold bindC;exact qz (i:=i) (aQ.mp nd).2 (by simpa using h1) (by simpa using h2) hk
noncomputable def jy(N:List Str)(vs:List V):St:=vs.map Z++aR (N.length-vs.length) Y
noncomputable def nC(CX:yS)(P:dQ)(w:dS)(K:Fg1)(mg:Str->Option dM)(base:dZ)(N:List Str)(qual:Str)(scope:d4)(f:dP)(cd:dM)(A:dR)(outer:List Env)(s:dN)(H:Hp)(E:XK):Cx where
 prog:=P
 w:=w
 K:=K
 mg:=mg
 base:=base
 A:=A.deeper (Ny qual scope s.heap.objs.size f cd)
 N:=N
 s₀:=s
 H₀:=H
 env:=Ny qual scope s.heap.objs.size f cd
 outer:=outer
 stack:=Ny qual scope s.heap.objs.size f cd::outer
 ex:=[]
 calm:=M
 fn:=λ_=>M
 pn:=[]
 xe:=λe s'=>dX (MN P w) (A.deeper (Ny qual scope s.heap.objs.size f cd)) (leaving (Ny qual scope s.heap.objs.size f cd) e) (λ_ s''=>CX outer H s E e s'') (λe' s''=>CX outer H s E e' s'') s'
theorem uK{a:d4}{n:Nat}{x:Str}(h:a.names.lookup x=Z .cell):∃c,(Nz n a.names []).lookup x=Z c:=by
 have q:=NA a.names n [] (.inl h);exact aS.mp q
theorem yt{CX:yS}{P:dQ}{w:dS}{K:Fg1}{mg:Str->Option dM}{base:dZ}{N ps:List Str}{g:Str}{scope:d4}{f:dP}{cd:dM}{A:dR}{d:List Env}{s s1:dN}{H:Hp}{E:XK}{B:List dM}{vs:List V}(S:gR N ps scope)(hd:A.handled=none)(j:Em P w K mg base A d s H)(L:vs.length=ps.length)(r:eH vs B)(x:InCallC s s.heap.objs.size (bindL (Ny g scope s.heap.objs.size f cd).kindOf (ps.zip B) fun _=>none) (Nz (s.heap.objs.size+1) scope.names []) (bindC (Ny g scope s.heap.objs.size f cd).kindOf (ps.zip B) fun _=>none) s1):
  Inv (nC CX P w K mg base N g scope f cd A d s H E) [] (jy N vs) H s1:=by
 have G:ps.length<=N.length:=by have:=congrArg List.length S.pre;rw[aT]at this;lia
 obtain⟨h1,tk,rfl,C⟩:=x.done;have l:∀b:dP,b∉(nC CX P w K mg base N g scope f cd A d s H E).ex:=λb z=>absurd (show b∈([]:List dP)from z) (by simp);refine⟨⟨j.mod,S.kind,O,O,nR1 _,λy z c h1 h2=>?_,λy m=>?_,λy c _ h=>?_,λ_=>hd,Around.frames_deeper j.frames,.inr ⟨O,O⟩,λb z=>absurd z (l b),j.bs,j.bsz,λb _ _=>l b,λb z=>absurd z (l b),j.funs,j.frf⟩,
  rfl,j.bare,Un.kept C,⟨_,x.toInCall.ns,λi y v h1 h2 am=>?_⟩,λy c h=>⟨_,x.cell y c h⟩,j.hok.fresh (nR1 _),λy c h=>?_,λp o=>absurd (show p∈([]:List (dP×Obj))from o) (by simp),j.hok.kept C,?_⟩
 ·exact name_of_addr x.apart (NB h1) (NB h2)
 ·have m:scope.names.lookup y=Z .cell\/scope.names.lookup y=Z .free:=m;rcases m with m|m
  ·exact uK m
  ·exact absurd O (S.nofree _ (NB m))
 ·exact aD (x.above y c (NB h))
 ·have hi:i<vs.length:=by
   unfold jy at h2;by_cases hi:i<vs.length
   ·exact hi
   ·rw[gR1 (by simpa using hi)]at h2;rw[aU]at h2;split at h2<;>cases h2
  have F:vs[i]?=Z v:=by
   unfold jy at h2;rw[gL1 (by simpa using hi),gP1]at h2;cases e:vs[i]? with
   |none=>rw[e]at h2;cases h2
   |some a=>rw[e]at h2;cases h2;rfl
  obtain⟨u,D,I⟩:=r.get F;have o:ps[i]?=Z y:=by
   rw[<- S.pre,aV (by lia)];exact h1
  have t:ps.Nodup:=by rw[<- S.pre];exact S.nd.sublist (aW _ _)
  refine⟨u,I,?_⟩;rcases S.par y (gM1 o)with k|k
  ·exact .inl ⟨k,qx t o D k⟩
  ·obtain⟨c,e⟩:=uK (n:=s.heap.objs.size+1) k;refine .inr ⟨.inl k,c,e,?_⟩;have q:=x.cell y c e;rw[qz t o D (by show scope.names.lookup y≠_;rw[k];decide)]at q;exact q
 ·exact j.hok.fresh (aD (x.above y c (NB h)))
 ·unfold jy;show _=N.length;rw[lA1,lM1,lR1];lia
theorem Jo{CX:yS}{P:dQ}{w:dS}{K:Fg1}{mg:Str->Option dM}{base:dZ}{k:Nat}{f:dP}{name c:Str}{params:Arguments}{g:List d3}{scope:d4}{L kV z R d ct W:dM}{T od:Option dP}{F:Array (Option dM)}{N ps:List Str}{sp:Sp}(lk:K.lookup f=some ⟨W,od,.func (wF1 name c params g scope L kV z R T d ct),F⟩)(hcd:wC1 K d c=true)(S:gR N ps scope)(len:∀vs H Q E,sp vs H Q E->vs.length=ps.length)(i:∀(A:dR) (a:List Env) (s:dN) (H:Hp) (vs:List V) (Q:VK) (E:XK),gl k (A.deeper (Ny c scope s.heap.objs.size f d))->sp vs H Q E ->
   ∃t,u6 (nC CX P w K mg base N c scope f d A a s H E) g t/\t {nx:=λ_ H'=>Q .non H',rt:=Q} (jy N vs) H):
  mY P w K mg base CX (k+1) f (wF1 name c params g scope L kV z R T d ct) ps sp:=by
 refine⟨len,λA a s H ao wq vs Q E D p X r m=>?_⟩;have hl:=len _ _ _ _ m;have au:K.In s.heap:=p.mod.kin.keeps λb o e=>(p.bs b o e).1;have C:s.heap.NoLimit:=p.mod.nolimit.keeps λb o e=>(p.bs b o e).1;have j:∀y∈ps.zip wq,scope.names.lookup y.1=Z .local\/(scope.names.lookup y.1=Z .cell/\((Nz (s.heap.objs.size+1) scope.names []).lookup y.1).isSome=M):=λ⟨n,v⟩ hy=>by
  rcases S.par n (List.of_mem_zip hy).1 with q|q
  ·exact .inl q
  ·exact .inr ⟨q,NA _ _ _ (.inl q)⟩
 refine codeAny_call_function D.depth (au _ _ lk) O S.co S.gen O (PySem.W.codeRec_of au hcd) (X _ _ _ _ ?_);refine wpAny_newFunctionEnv_cells S.kind j λenv aq s1 x=>?_;subst aq;refine⟨C.keeps x.toInCall.keep,codeAny_func ?_⟩;obtain⟨t,U,hq⟩:=i A a s H vs Q E (D.deeper _) m;have I:Inv (nC CX P w K mg base N c scope f d A a s H E) [] (jy N vs) H s1:=yt S D.hd p hl r x;refine MQ (U [] s1 (jy N vs) H _ I hq) (λfl s' l=>?_) λe s' l=>l;have B:∀{h:St} {H':Hp} {v:V} {u:dM},Inv (nC CX P w K mg base N c scope f d A a s H E) [] h H' s'->ew v u->Q v H'->CE a P w H s Q u s':=
  λ{h H' v u} am G q=>⟨v,H',am.os,am.bare,am.base,am.hok,G,q⟩
 cases fl with
 |ret u=>
  obtain⟨v,h,H',am,G,q⟩:=l;exact B am G q
 |next=>
  obtain⟨h,H',am,q⟩:=l;exact B (v:=V.non) (u:=ab) am O q
 |brk=>
  obtain⟨_,_,_,q⟩:=l;exact MU q
 |cont=>
  obtain⟨_,_,_,q⟩:=l;exact MU q
section
variable{x:Str}{p pos:Pos}{e:Expr}{es:List Expr}{t:TA}{id T:String}{r:List V->Hp->VK->Prop}
def Lj(r:List V->Hp->VK->Prop)(t:TA):TE:=fun σ H Q=>t σ H λvs H1=>r vs H1 Q
theorem tL (hc:fi X (.builtin id) r)(hg:Gl X x)(hm:X.mg x=none)(hv:MH x=some (.builtin id))(ha:PA X (e::es) t)(hn:autoParam (x≠"__name__") bu0)(hdb:autoParam ((x == ("__debug__":Str))=false) bu0)
  (he:autoParam (dV (e::es) X.env=(J,eval e X.env)::dV es X.env) cu0) (hpl:autoParam ((MP pos (dV es X.env)).any (·.1)=J) cu0):PE X (.Call (.Name x p) (e::es) [] pos) (Lj r t):=by
 intro ag s σ H Q I h;refine wpAny_Call_Name_kw (jT I hg hm hv ?_ hn hdb);exact PyProof.Rows.callWith_builtin1 (ft (ha pos ag s σ H _ I h) λd f ⟨vs,H1,a,c,b⟩=>hc ag f σ H1 vs d Q a c b) he hpl
theorem mJ (hc:fi X (.type T) r)(hg:Gl X x)(hm:X.mg x=none)(hv:MH x=some (.type T))(ha:PA X (e::es) t)(hn:autoParam (x≠"__name__") bu0)(hdb:autoParam ((x == ("__debug__":Str))=false) bu0)
  (he:autoParam (dV (e::es) X.env=(J,eval e X.env)::dV es X.env) cu0) (hpl:autoParam ((MP pos (dV es X.env)).any (·.1)=J) cu0):PE X (.Call (.Name x p) (e::es) [] pos) (Lj r t):=by
 intro ag s σ H Q I h;refine wpAny_Call_Name_kw (jT I hg hm hv ?_ hn hdb);exact Ni (ft (ha pos ag s σ H _ I h) λd f ⟨vs,H1,a,c,b⟩=>hc ag f σ H1 vs d Q a c b) he hpl
end
end L2
namespace HT
open PySem PyProof.Rows
section
open PySem.SeqAt
open PySem.AutoSeq1 (wpAny_loadPart')
open PySem.MeetsSeq PySem.MeetsSeq2 PySem.MeetsSeq3
end
section
variable{prog:dQ}{w:dS}{A:dR}{E:dM->dN->Prop}{s:dN}
theorem Eb {t b:dP}{vs ws:List dM}{Q:dM->dN->Prop}(ht:MD s.heap t vs.toArray)(hb:MD s.heap b ws.toArray)(hv:vs≠[])
  (h1:ws=[]->Q (.ref t) s) (h2:ws≠[]->Q (.ref s.heap.objs.size) {s with heap:=s.heap.push {cls:=.type "tuple",data:=.seq (vs++ws).toArray}})
  (hsz:vs.length+ws.length<=dW):dX (MN prog w) A (Nk .Add (.ref t) (.ref b)) Q E s:=by
 obtain⟨⟨cls,m,data,l⟩,i,hc,n,p⟩:=id ht;obtain⟨⟨k,g,j,f⟩,a,c,o,d⟩:=id hb;simp only at hc p c d;subst hc p c d;have e:vs.toArray++ws.toArray=(vs++ws).toArray:=by simp
 by_cases h:ws=[]
 ·exact concat_meets ⟨_,i,rfl⟩ ⟨_,a,rfl⟩ noFill_tuple_add seq_tuple_add NC ND (NE _ _)
   (tuple_addW1 t b vs.toArray ws.toArray n o m g l f (by simpa using hv) (by simp[h])) ⟨i,a,h1 h⟩
 ·refine concat_meets ⟨_,i,rfl⟩ ⟨_,a,rfl⟩ noFill_tuple_add seq_tuple_add NC ND (NE _ _)
   (tuple_addW2 t b vs.toArray ws.toArray n o m g l f (by simpa using hv) (by simpa using h) (by rw[sT1,sT1];exact hsz)) ⟨i,a,?_⟩
  rw[e];exact h2 h
noncomputable def sIx(n d:Nat):Option Int->Nat
 |none=>d
 |some v=>if v<0 then(v+(n:Int)).toNat else min v.toNat n
theorem zM(n d:Nat):sIx n d Y=d:=rfl
theorem CA(n d k:Nat):sIx n d (Z (k:Int))=min k n:=by
 show(if(k:Int)<0 then((k:Int)+(n:Int)).toNat else min (k:Int).toNat n)=min k n;rw[aj (by lia),NF]
theorem Ft(n d:Nat)(hd:d<=n)(o:Option Int):sIx n d o<=n:=by
 cases o with
 |none=>exact hd
 |some v=>
  show(if v<0 then(v+(n:Int)).toNat else min v.toNat n)<=n;by_cases a:v<0
  ·rw[ak a];lia
  ·rw[aj a];exact Nat.min_le_right _ _
theorem xt(v:Int)(n d:Nat):(if v<0 then max (v+(n:Int)) 0 else min v (n:Int))=((sIx n d (Z v):Nat):Int):=by
 show(if v<0 then max (v+(n:Int)) 0 else min v (n:Int))=(((if v<0 then(v+(n:Int)).toNat else min v.toNat n):Nat):Int);by_cases a:v<0
 ·simp only[ak a];lia
 ·simp only[aj a];lia
theorem v3(lo hi:Option Int)(n:Nat):NG lo hi 1 (n:Int)=(((sIx n 0 lo:Nat):Int),((sIx n n hi:Nat):Int)):=by
 have h1:¬ ((1:Int)<0):=by lia
 unfold NG;simp only[h1,NH];refine Prod.ext ?_ ?_
 ·cases lo with
  |none=>rfl
  |some v=>exact xt v n 0
 ·cases hi with
  |none=>rfl
  |some v=>exact xt v n n
theorem vq(i j:Nat):NI (i:Int) (j:Int) 1=j-i:=by
 unfold NI;have h1:(1:Int)>0:=by lia
 simp only[h1,NJ,Int.ediv_one];split<;>lia
theorem n6{v:dM}{o:Option Int}{Q:Option Int->dN->Prop}(p:NK v o)(h:Q o s):dX (MN prog w) A (Builtin.Slice.slicePartIndex v) Q E s:=by
 cases p with
 |none=>exact slicePart_none h
 |int i t=>exact slicePart_int h
theorem iQ{e:dP}{d c:dM}{lo hi:Option Int}{n:Nat}{Q:Int×Int×Nat->dN->Prop}(hs:s.heap.IsSliceOf e d c .none)(pl:NK d lo)(f:NK c hi)(h:Q (((sIx n 0 lo:Nat):Int),1,sIx n n hi-sIx n 0 lo) s):dX (MN prog w) A (Builtin.Slice.sliceApplied (.ref e) (pure (n:Int))) Q E s:=by
 obtain⟨i,a,g,b⟩:=id hs;unfold Builtin.Slice.sliceApplied Builtin.Slice.sliceFields;refine wB1 (wB1 (NL a b (x:=d) O (wB1 (NL a b (x:=c) O (wB1 (NL a b (x:=.none) O (wP1 ?_)))))));refine wB1 (slicePart_none ?_);show dX _ _ (if((1:Int) == 0)=M then _ else _) _ _ s;rw[aj (by decide)];refine wB1 (n6 pl (wB1 (n6 f (wB1 (wP1 ?_)))));show dX _ _ (match NG lo hi 1 (n:Int)with|(lo,hi)=>pure (lo,(1:Int),NI lo hi 1)) _ _ s;rw[v3 lo hi n];show dX _ _ (pure (((sIx n 0 lo:Nat):Int),(1:Int),NI ((sIx n 0 lo:Nat):Int) ((sIx n n hi:Nat):Int) 1)) _ _ s;rw[vq];exact wP1 h
theorem Ac(xs:Array dM)(i k:Nat):((af k).filterMap λ(m:Nat)=>xs[((i:Int)+(m:Int)*1).toNat]?).toArray=((xs.toList.drop i).take k).toArray:=by
 have e:(λ(m:Nat)=>xs[((i:Int)+(m:Int)*1).toNat]?)=λm=>xs[i+m]?:=by
  funext m
  have:((i:Int)+(m:Int)*1).toNat=i+m:=by lia
  rw[this]
 rw[e];have:=pick_run xs i k;rw[List.filterMap_map]at this;have a:((λx=>xs[x]?)∘λx=>i+x)=λm=>xs[i+m]?:=rfl;rw[a]at this;rw[this]
theorem l8 {t e:dP}{items:Array dM}{i g:dM}{lo hi:Option Int}{Q:dM->dN->Prop}(ht:MD s.heap t items)(hs:s.heap.IsSliceOf e i g .none)(pl:NK i lo)(j:NK g hi)
  (hw:¬ (sIx items.size 0 lo=0/\sIx items.size items.size hi=items.size))
  (h:Q (.ref s.heap.objs.size) {s with heap:=s.heap.push {cls:=.type "tuple",data:=.seq ((items.toList.drop (sIx items.size 0 lo)).take (sIx items.size items.size hi-sIx items.size 0 lo)).toArray}})
  (hsz:items.size<=dW):dX (MN prog w) A (getItem (.ref t) (.ref e)) Q E s:=by
 have a:sizeOk (.seq ((items.toList.drop (sIx items.size 0 lo)).take (sIx items.size items.size hi-sIx items.size 0 lo)).toArray):=by
  show((items.toList.drop (sIx items.size 0 lo)).take (sIx items.size items.size hi-sIx items.size 0 lo)).toArray.size<=dW;rw[sT1,aT,aX,aK];omega
 have n:sIx items.size items.size hi<=items.size:=Ft _ _ (nR1 _) hi;obtain⟨k,b,c,l⟩:=id hs;have f:s.TypeIs (.ref e) "slice":=⟨k,b,c⟩;unfold getItem
 try with_reducible refine M5 ?_
 first|refine wB1 (wP1 ?_)|skip
 refine wB1 (wpAny_sequenceKey ht.typeIs (by decide) ?_);refine wB1 (NM (name:=NN "__getitem__") ht.typeIs NO
  (wE1 NO ht.typeIs entry_tuple_getitem ?_ (args_tuple_getitem _ _)))
 show dX _ _ (NP (.ref t) >>= _) _ _ s;refine wB1 (tupleItemsOf_ ht ?_);refine wB1 (NQ f ?_);rw[ak (by decide)];refine wB1 (iQ hs pl j ?_);have d:¬ ((((sIx items.size 0 lo:Nat):Int) == 0&&(1:Int) == 1&&(sIx items.size items.size hi-sIx items.size 0 lo) == items.size)=M):=by
  intro q;rw[bA1,bA1]at q;have o:((sIx items.size 0 lo:Nat):Int)=0:=eq_of_beq q.1.1;have p:sIx items.size items.size hi-sIx items.size 0 lo=items.size:=eq_of_beq q.2;exact hw ⟨by omega,by omega⟩
 show dX _ _ (if(((sIx items.size 0 lo:Nat):Int) == 0&&(1:Int) == 1&&(sIx items.size items.size hi-sIx items.size 0 lo) == items.size)=M then _ else _) _ _ s;rw[aj d,Ac]
 first
  |exact wB1 (m:=NR _) (wO1 (wP1 ⟨_,rfl,wP1 h⟩) a)
  |exact wB1 (m:=NR _) (wO1 (wB1 (wP1 (wP1 ⟨_,rfl,wP1 h⟩))) a)
  |exact wB1 (wB1 (m:=NR _) (wO1 (wP1 (wP1 ⟨_,rfl,wP1 h⟩)) a))
  |exact wB1 (wB1 (m:=NR _) (wO1 (wP1 ⟨_,rfl,wP1 h⟩) a))
end
end HT
namespace L2
open PySem PySem.Spec PyProof.Rows
abbrev TO:=St->Hp->(Option Int->Hp->Prop)->Prop
def PO(X:Cx)(e:Option Expr)(t:TO):Prop:=
 ∀(ag:List (dP×Obj)) (s:dN) (σ:St) (H:Hp) (Q:Option Int->Hp->Prop),Inv X ag σ H s->t σ H Q ->
  dX (MN X.prog X.w) X.A (evalPart e X.env) (λu s'=>∃o H',Inv X ag σ H' s'/\NK u o/\Q o H') X.xe s
def Cn:TO:=λ_ H Q=>Q Y H
noncomputable def HY(t:TE):TO:=fun σ H Q=>t σ H λx H1=>∃i,x = .int i/\Q (Z i) H1
variable{X:Cx}
section
variable{e:Expr}{te:TE}{lo hi:Option Expr}{tl th:TO}{pos p2:Pos}
theorem CS:PO X Y Cn:=by
 intro ag s σ H Q I h;rw[evalPart_none];exact wP1 ⟨Y,H,I,.none,h⟩
theorem CQ(h:PE X e te):PO X (Z e) (HY te):=by
 intro ag s σ H Q I c;rw[evalPart_some];refine ft (h ag s σ H _ I c) λu f ⟨x,H1,a,d,b⟩=>?_;obtain⟨i,rfl,q⟩:=b;obtain⟨t,rfl⟩:=d;exact⟨Z i,H1,a,.int i t,q⟩
def B5(X:Cx)(r:V->Option Int->Option Int->Hp->VK->Prop):Prop:=
 ∀(ag:List (dP×Obj)) (s:dN) (σ:St) (H:Hp) (x:V) (v vl vu:dM) (lo hi:Option Int) (sl:dP) (Q:VK),Inv X ag σ H s->ew x v->s.heap.IsSliceOf sl vl vu .none->NK vl lo->NK vu hi->r x lo hi H Q ->
  ∃T id,typeLookup (.type T) "__getitem__"=pure (Z (.builtin id))/\s.TypeIs v T/\dX (MN X.prog X.w) X.A (getItem v (.ref sl)) (EP X ag σ Q) X.xe s
theorem B5.or{r e:V->Option Int->Option Int->Hp->VK->Prop}(h:B5 X r)(h':B5 X e):B5 X (λx lo hi H Q=>r x lo hi H Q\/e x lo hi H Q):=by
 intro ag s σ H x v c a lo hi d Q I g f pl b q;rcases q with q|q
 ·exact h ag s σ H x v c a lo hi d Q I g f pl b q
 ·exact h' ag s σ H x v c a lo hi d Q I g f pl b q
def LH(r:V->Option Int->Option Int->Hp->VK->Prop)(te:TE)(tl th:TO):TE:=fun σ H Q=>te σ H λx H1=>tl σ H1 λl H2=>th σ H2 λu H3=>r x l u H3 Q
theorem Af{r:V->Option Int->Option Int->Hp->VK->Prop}(hr:B5 X r)(he:PE X e te)(B:PO X lo tl)(p:PO X hi th):PE X (.Subscript e (.Slice lo hi Y p2) pos) (LH r te tl th):=by
 intro ag s σ H Q I h;refine Subscript_ (ft (he ag s σ H _ I h) λv D ⟨x,H1,k,o,z⟩=>?_);refine wpAny_Slice (ft (B ag D σ H1 _ k z) λc m ⟨l,H2,A,pl,C⟩=>ft (p ag m σ H2 _ A C) λd a ⟨u,f,g,n,w⟩=>?_);rw[evalPart_none];refine wP1 ?_;have t:Inv X ag σ f {a with heap:=a.heap.push {cls:=.type "slice",data:=.fields #[c,d,.none]}}:=g.kept (t':=a.toks) λb E q=>hP1 _ q;obtain⟨T,id,j,i,y⟩:=hr ag {a with heap:=a.heap.push {cls:=.type "slice",data:=.fields #[c,d,.none]}} σ f x v c d l u a.heap.objs.size Q t o (Heap.IsSliceOf.new ..) pl n w;show dX (MN X.prog X.w) X.A (NS e (.Slice lo hi Y p2) v (.ref a.heap.objs.size)) (EP X ag σ Q) X.xe {a with heap:=a.heap.push {cls:=.type "slice",data:=.fields #[c,d,.none]}};exact tail_any (ops:=[.ref a.heap.objs.size,v]) i j y (by with_unfolding_all rfl)
def uG(xs:List V)(lo hi:Option Int):List V:=(xs.drop (HT.sIx xs.length 0 lo)).take (HT.sIx xs.length xs.length hi-HT.sIx xs.length 0 lo)
theorem nl(xs:List V)(lo hi:Option Int):(uG xs lo hi).length<=xs.length:=by
 unfold uG;rw[aT,aX];lia
def KD(K:Fg1):V->Option Int->Option Int->Hp->VK->Prop:=λx lo hi H Q=>∃a xs,x = .ref a/\kC K H a xs /\
 ¬ (HT.sIx xs.length 0 lo=0/\HT.sIx xs.length xs.length hi=xs.length) /\ ∀p,H p=Y->Q (.ref p) (upd H p (.tup (uG xs lo hi)))
theorem Fj:B5 X (KD X.K):=by
 intro ag s σ H x v n m lo hi p Q I l j pl g h;obtain⟨a,xs,rfl,k,i,q⟩:=h;cases l;obtain⟨d,r,e,f⟩:=I.tuple k;have c:d.toArray.size=xs.length:=by rw[sT1];exact r.length.symm
 refine⟨"tuple",_,PyProof.Rows.slot_tuple_getitem.lookup,e.typeIs,?_⟩;refine HT.l8 e j pl g (by rw[c];exact i) ?_ (by rw[c];exact f);rw[c];refine⟨.ref s.heap.objs.size,_,I.laid (t':=s.toks) (o:=.tup (uG xs lo hi)) (λb t q=>hP1 _ q) (nR1 _) ?_,O,q _ (I.hok.fresh (nR1 _))⟩;exact⟨aC (nl xs lo hi) f,_,(r.drop (HT.sIx xs.length 0 lo)).take (HT.sIx xs.length xs.length hi-HT.sIx xs.length 0 lo),IsTup.new _ _⟩
def Io(K:Fg1):R2:=λx y H Q=>∃a b xs ys,x = .ref a/\y = .ref b/\kC K H a xs/\kC K H b ys/\xs≠[]/\xs.length+ys.length<=dW /\
 (ys=[]->Q (.ref a) H)/\(ys≠[] -> ∀p,H p=Y->Q (.ref p) (upd H p (.tup (xs++ys))))
theorem eH.nil_iff{xs:List V}{a:List dM}(r:eH xs a):a=[]↔xs=[]:=by
 cases r with
 |nil=>simp
 |cons _ _=>simp
theorem C5:gI X (Nk .Add) (Io X.K):=by
 intro ag s σ H x y v u Q I m g h;obtain⟨a,b,xs,ys,rfl,rfl,l,p,j,e,f,k⟩:=h;cases m;cases g;obtain⟨n,c,i,_⟩:=I.tuple l;obtain⟨d,r2,p2,_⟩:=I.tuple p;refine HT.Eb i p2 (λz=>j (c.nil_iff.mp z)) (λz=>⟨.ref a,H,I,O,f (r2.nil_iff.mp z)⟩) (λz=>?_) (by rw[<- c.length,<- r2.length];exact e);refine⟨.ref s.heap.objs.size,_,I.laid (t':=s.toks) (o:=.tup (xs++ys)) (λb r q=>hP1 _ q) (nR1 _) ?_,O,k (λw=>z (r2.nil_iff.mpr w)) _ (I.hok.fresh (nR1 _))⟩;exact⟨by rw[lA1];exact e,_,c.append r2,IsTup.new _ _⟩
end
noncomputable def vK(n:Nat)(i:Int):Option Nat:=if 0<=i then(if i<n then Z i.toNat else Y)else if-(n:Int)<=i then Z (i+n).toNat else Y
def uP{α:Type}(xs:List α)(i:Int):Option α:=(vK xs.length i).bind λj=>xs[j]?
theorem r9{n:Nat}{i:Int}{j:Nat}(h:vK n i=Z j):seqIndex? i n=Z j/\j<n /\ -(n:Int)<=i/\i<n:=by
 unfold vK at h;by_cases a:0<=i
 ·rw[ak a]at h;by_cases h1:i<n
  ·rw[ak h1]at h;have e:i.toNat=j:=Option.some.inj h;exact⟨by rw[seqIndex_of a h1,e],by lia,by lia,h1⟩
  ·rw[aj h1]at h;cases h
 ·rw[aj a]at h;by_cases h1: -(n:Int)<=i
  ·rw[ak h1]at h;have e:(i+n).toNat=j:=Option.some.inj h;exact⟨by rw[seqIndex_neg (by lia) h1,e],by lia,h1,by lia⟩
  ·rw[aj h1]at h;cases h
theorem xC{α:Type}{xs:List α}{i:Int}{v:α}(h:uP xs i=Z v):∃j,seqIndex? i xs.length=Z j/\xs[j]?=Z v/\j<xs.length /\ -(xs.length:Int)<=i/\i<xs.length:=by
 unfold uP at h;cases e:vK xs.length i with
 |none=>rw[e]at h;cases h
 |some j=>
  rw[e]at h;obtain⟨h1,h2,a,b⟩:=r9 e;exact⟨j,h1,h,h2,a,b⟩
theorem uO{α:Type}(xs:List α)(v:α):uP (xs++[v]) (-1)=Z v:=by
 have a:(xs++[v]).length=xs.length+1:=by simp
 have e:vK (xs++[v]).length (-1)=Z xs.length:=by
  unfold vK;rw[a,aj (by decide),ak (by lia)]
  congr 1
  lia
 unfold uP;rw[e];show(xs++[v])[xs.length]?=Z v;simp
def nU(b:Expr):Prop:=∀o i,subscripted b J o i=operate [o,i] (getItem o i)
def EQ(X:Cx)(r:R2):Prop:=
 ∀(value slice:Expr) (ag:List (dP×Obj)) (s:dN) (σ:St) (H:Hp) (x y:V) (v u:dM) (Q:VK),Inv X ag σ H s->ew x v->ew y u->r x y H Q ->
  subscripted slice J v u=operate [v,u] (getItem v u)->dX (MN X.prog X.w) X.A (NS value slice v u) (EP X ag σ Q) X.xe s
def HI(X:Cx)(id:String)(r:V->List V->Hp->VK->Prop):Prop:=
 ∀(ag:List (dP×Obj)) (s:dN) (σ:St) (H:Hp) (x:V) (xs:List V) (v:dM) (us:List dM) (Q:VK),Inv X ag σ H s->ew x v->eH xs us->r x xs H Q ->
  dX (MN X.prog X.w) X.A (call (.builtin id) (v::us)) (EP X ag σ Q) X.xe s
section
variable{a b:Expr}{ta tb:TE}{pos:Pos}
theorem Iy{r:R2}(hr:EQ X r)(ha:PE X a ta)(hb:PE X b tb)(hs:nU b):PE X (.Subscript a b pos) (HZ r ta tb):=by
 intro ag s σ H Q I h;exact Subscript_ (Hw ha hb I h λv u d x y H2 f e c q=>hr a b ag d σ H2 x y v u Q f e c q (hs _ _))
def KG(K:Fg1):R2:=λx y H Q=>∃p xs i v,x = .ref p/\y = .int i/\nE K H p xs/\uP xs i=Z v/\Q v H
def KF(K:Fg1):R2:=λx y H Q=>∃p xs i v,x = .ref p/\y = .int i/\kC K H p xs/\uP xs i=Z v/\Q v H
theorem DR:EQ X (KG X.K):=by
 intro value c ag s σ H x y v u Q I A n h g;obtain⟨p,xs,i,z,rfl,rfl,B,l,q⟩:=h;cases A;obtain⟨t,rfl⟩:=n;obtain⟨d,r,pl,F⟩:=I.list B;obtain⟨j,h1,h2,D,o,m⟩:=xC l;obtain⟨w,f,e⟩:=r.get h2;have C:=r.length;have E:=mP;have a:EP X ag σ Q w s:=⟨z,H,I,e,q⟩;by_cases k:0<=i
 ·have b:i.toNat=j:=by
   rw[seqIndex_of k m]at h1;exact Option.some.inj h1
  exact item_listR pl.isList k (by lia) (by rw[b];simpa using f) a g
 ·have b:(i+(d.toArray.size:Int)).toNat=j:=by
   rw[seqIndex_neg (by lia) o]at h1;rw[sT1,<- C];exact Option.some.inj h1
  exact subscriptTail_builtinR (x:=w) pl.isList.typeIs slot_list_getitem.lookup
   (wpAny_getItem_list_neg (Q:=λr s'=>r=w/\EP X ag σ Q r s') pl.isList (by lia) (by rw[sT1]<;>lia) (by lia) (by rw[b];simpa using f) ⟨O,a⟩) g
theorem G9:EQ X (KF X.K):=by
 intro value a ag s σ H x y v u Q I k g h f;obtain⟨p,xs,i,z,rfl,rfl,m,e,q⟩:=h;cases k;obtain⟨t,rfl⟩:=g;obtain⟨l,r,pl,D⟩:=I.tuple m;obtain⟨j,h1,h2,A,C,o⟩:=xC e;obtain⟨w,d,c⟩:=r.get h2;have n:=r.length;have B:=mP;have b:EP X ag σ Q w s:=⟨z,H,I,c,q⟩;exact subscriptTail_builtinR (x:=w) pl.typeIs slot_tuple_getitem.lookup
  (getItem_tuple (j:=j) (Q:=λr s'=>r=w/\EP X ag σ Q r s') pl (by lia) (by lia) (by rw[sT1,<- n];exact h1) (by simpa using d) ⟨O,b⟩) f
theorem vG(its:List dM)(n j:Nat)(u:dM):NT (·.setIfInBounds j u) {cls:=.type "list",data:=.seq its.toArray n}={cls:=.type "list",data:=.seq (its.set j u).toArray n}:=by
 simp[NT]
theorem Inv.lst{ag:List (dP×Obj)}{σ:St}{H:Hp}{s:dN}{p:dP}{xs:List V}(I:Inv X ag σ H s)(h:H p=some (.lst xs)):
  ∃(its:List dM) (n:Nat),eH xs its/\s.heap.get? p=Z {cls:=.type "list",data:=.seq its.toArray n}/\xs.length<=dW:=by
 obtain⟨z,its,n,r,e⟩:=I.hok p _ h;exact⟨its,n,r,e,z⟩
theorem Inv.lstUpd {ag:List (dP×Obj)}{σ:St}{H:Hp}{s:dN}{p:dP}{xs ys:List V}{its its':List dM}{n a:Nat}{f:Obj->Obj}(I:Inv X ag σ H s)(h:H p=some (.lst xs))
  (ho:s.heap.get? p=Z {cls:=.type "list",data:=.seq its.toArray n}) (hf:f {cls:=.type "list",data:=.seq its.toArray n}={cls:=.type "list",data:=.seq its'.toArray a}) (r:eH ys its') (hz:ys.length<=dW) (t:Nat):
  Inv X ag σ (upd H p (.lst ys)) {s with heap:=s.heap.update p f,toks:=t}:=by
 have e:(s.heap.update p f).get? p=Z {cls:=.type "list",data:=.seq its'.toArray a}:=by
  rw[hW1 f ho (by rw[hf]<;>rfl),hf]
 refine I.write (x:=p) (e:=p) (by rw[h];trivial) (.inl O) (λb u c q=>(Heap.get?_update_other _ _ (ML c)).trans q) ⟨_,e⟩ ?_;exact⟨hz,its',a,r,e⟩
def Im:V->V->V->Hp->(Hp->Prop)->Prop:=λo i v H Q=>∃p xs k j,o = .ref p/\i = .int k/\H p=Z (.lst xs)/\vK xs.length k=Z j/\Q (upd H p (.lst (xs.set j v)))
theorem zG:wd X Im:=by
 intro ag s σ H o i v B C u Q I z y x h;obtain⟨p,xs,k,j,rfl,rfl,e,w,q⟩:=h;cases z;obtain⟨t,rfl⟩:=y;obtain⟨a,n,r,d,A⟩:=I.lst e;obtain⟨h1,h2,f,l⟩:=r9 w;have c:=r.length;have D:=mP;have g:Inv X ag σ (upd H p (.lst (xs.set j v))) {s with heap:=s.heap.update p (NT (·.setIfInBounds j u))}:=
  I.lstUpd e d (vG a n j u) (r.set x j) (by rw[aY];exact A) s.toks
 by_cases m:0<=k
 ·have b:k.toNat=j:=by
   rw[seqIndex_of m l]at h1;exact Option.some.inj h1
  exact PySem.W.ki_setAt d m (by lia) (by rw[sT1,<- c];exact l) (by rw[b];exact⟨_,g,q⟩)
 ·have b:(k+(a.toArray.size:Int)).toNat=j:=by
   rw[seqIndex_neg (by lia) f]at h1;rw[sT1,<- c];exact Option.some.inj h1
  exact PySem.W.ki_setBack d (by lia) (by rw[sT1,<- c];exact f) (by lia) (by rw[b];exact⟨_,g,q⟩)
theorem ri(lo hi:Option Int)(n:Nat):(NU lo hi Y n).1=((HT.sIx n 0 lo:Nat):Int)/\(NU lo hi Y n).2.1=((HT.sIx n n hi:Nat):Int)/\(NU lo hi Y n).2.2=1:=by
 refine⟨?_,?_,O⟩
 ·cases lo with
  |none=>simp[NU,HT.sIx]
  |some i=>
   simp only[NU,HT.sIx,Option.getD_none,show(1:Int)>0 by decide,NJ];by_cases h:i<0
   ·simp only[h,NJ]<;>lia
   ·simp only[h,NH]<;>lia
 ·cases hi with
  |none=>simp[NU,HT.sIx]
  |some i=>
   simp only[NU,HT.sIx,Option.getD_none,show(1:Int)>0 by decide,NJ];by_cases h:i<0
   ·simp only[h,NJ]<;>lia
   ·simp only[h,NH]<;>lia
theorem pB(its:List dM)(lo hi:Option Int):slicePick its.toArray lo hi Y=((its.drop (HT.sIx its.length 0 lo)).take (HT.sIx its.length its.length hi-HT.sIx its.length 0 lo)).toArray:=by
 obtain⟨h1,h2,a⟩:=ri lo hi its.toArray.size;unfold slicePick;rw[h1,h2,a];simp only[sliceRange_one,pick_run,sT1]<;>rfl
def KE(K:Fg1):V->Option Int->Option Int->Hp->VK->Prop:=λx lo hi H Q=>∃a xs,x = .ref a/\nE K H a xs /\ ∀p,H p=Y->Q (.ref p) (upd H p (.lst (uG xs lo hi)))
theorem Cw:B5 X (KE X.K):=by
 intro ag s σ H x v m l lo hi n Q I i f pl e h;obtain⟨a,xs,rfl,g,q⟩:=h;cases i;obtain⟨j,r,d,k⟩:=I.list g;have c:=r.length;refine⟨"list",_,slot_list_getitem.lookup,d.isList.typeIs,?_⟩;refine wpAny_getItem_list_slice d.isList f pl e .none (by simp) ?_ (by rw[sT1]<;>lia);rw[pB,<- c];refine⟨.ref s.heap.objs.size,_,I.laid (t':=s.toks) (o:=.lst (uG xs lo hi)) (λb p q=>hP1 _ q) (nR1 _) ?_,O,q _ (I.hok.fresh (nR1 _))⟩;exact⟨aC (nl xs lo hi) k,_,0,(r.drop (HT.sIx xs.length 0 lo)).take (HT.sIx xs.length xs.length hi-HT.sIx xs.length 0 lo),hS1 _ O⟩
noncomputable def kP:V->Bool
 | .non=>M
 | .bl _=>M
 | .int _=>M
 | .str _=>M
 |_=>J
noncomputable def uZ:V->V->Bool
 | .non,.non=>M
 | .bl a,.bl b=>a == b
 | .bl a,.int b=>(if a then 1 else 0) == b
 | .int a,.bl b=>a == (if b then 1 else 0)
 | .int a,.int b=>a == b
 | .str a,.str b=>a == b
 |_,_=>J
theorem k8{A:dR}{s:dN}{y x:V}{u v:dM}(e:ew y u)(c:ew x v)(g:kP y=M)(f:kP x=M):NV A s u v (uZ y x):=by
 cases y with
 |non=>
  cases e;cases x with
  |non=>cases c;exact SeqAt.EqAt.same _
  |bl b=>cases c;exact SeqAt.EqAt.none_bool b
  |int b=>obtain⟨t,rfl⟩:=c;exact SeqAt.EqAt.none_int b t
  |str b=>obtain⟨t,rfl⟩:=c;exact SeqAt.EqAt.none_str b t
  |_=>exact absurd (show J=M from f) aL
 |bl a=>
  cases e;cases x with
  |non=>cases c;exact SeqAt.EqAt.bool_none a
  |bl b=>cases c;exact SeqAt.EqAt.bool_bool a b
  |int b=>obtain⟨t,rfl⟩:=c;exact SeqAt.EqAt.bool_int a b t
  |str b=>obtain⟨t,rfl⟩:=c;exact SeqAt.EqAt.bool_str a b t
  |_=>exact absurd (show J=M from f) aL
 |int a=>
  obtain⟨d,rfl⟩:=e;cases x with
  |non=>cases c;exact SeqAt.EqAt.int_none a d
  |bl b=>cases c;exact SeqAt.EqAt.int_bool a d b
  |int b=>obtain⟨t,rfl⟩:=c;exact SeqAt.EqAt.int_int a d b t
  |str b=>obtain⟨t,rfl⟩:=c;exact SeqAt.EqAt.int_str a d b t
  |_=>exact absurd (show J=M from f) aL
 |str a=>
  obtain⟨d,rfl⟩:=e;cases x with
  |non=>cases c;exact SeqAt.EqAt.str_none a d
  |bl b=>cases c;exact SeqAt.EqAt.str_bool a d b
  |int b=>obtain⟨t,rfl⟩:=c;exact SeqAt.EqAt.str_int a d b t
  |str b=>obtain⟨t,rfl⟩:=c;exact SeqAt.EqAt.str_str a d b t
  |_=>exact absurd (show J=M from f) aL
 |_=>exact absurd (show J=M from g) aL
theorem sB:fi X (.builtin "len") (λxs H Q=>∃p ys,xs=[.ref p]/\(nE X.K H p ys\/kC X.K H p ys)/\Q (.int ys.length) H):=by
 intro ag s σ H xs g Q I r h;obtain⟨p,ys,rfl,b,q⟩:=h;obtain⟨u,rfl,e⟩:=iN r;cases e;have i:=mP;rcases b with b|b
 ·obtain⟨d,c,pl,f⟩:=I.list b;have a:=c.length;exact Calls.call_len_list pl.isList (by simp only[sT1]<;>lia) ⟨.int ys.length,H,I.tok _,⟨s.toks+1,by rw[sT1,a]⟩,q⟩
 ·obtain⟨d,c,pl,f⟩:=I.tuple b;have a:=c.length;exact len_tuple pl (by simp only[sT1]<;>lia) ⟨.int ys.length,H,I.tok _,⟨s.toks+1,by rw[sT1,a]⟩,q⟩
theorem sA:fi X (.builtin "len") (λxs H Q=>∃z,xs=[.str z]/\z.length<=dW/\Q (.int z.length) H):=by
 intro ag s σ H xs b Q I r h;obtain⟨z,rfl,c,q⟩:=h;obtain⟨u,rfl,t,rfl⟩:=iN r;have a:=mP;exact len_str (by lia) ⟨.int z.length,H,I.tok _,⟨_,O⟩,q⟩
theorem sy:fi X (.type "list") (λxs H Q=>∃p ys,xs=[.ref p]/\(nE X.K H p ys\/kC X.K H p ys) /\ ∀l,H l=Y->Q (.ref l) (upd H l (.lst ys))):=by
 intro ag s σ H xs w Q I r h;obtain ⟨p,ys,rfl,j,q⟩:=h;obtain ⟨u,rfl,v⟩:=iN r;cases v;have f:∀ (a:List dM),eH ys a->ys.length<=dW -> ∀ (h':dZ) (c:Nat),(∀ b o',s.heap.get? b=some o'->h'.get? b=some o') ->
   h'.get? s.heap.objs.size=Z {cls:=.type "list",dict:=Y,data:=.seq a.toArray c,slots:= #[]}->EP X ag σ Q (.ref s.heap.objs.size) {s with heap:=h'}:=λa d k h' c g e=>
  ⟨.ref s.heap.objs.size,_,I.laid (t':=s.toks) g (nR1 _) (show fb X.prog X.w _ h' _ (.lst ys)from⟨k,a,c,d,e⟩),O,q _ (I.hok.fresh (nR1 _))⟩
 rcases j with j|j
 ·obtain⟨a,d,pl,k⟩:=I.list j;have i:=d.length;obtain⟨o,t,hc,n,m⟩:=pl.isList;exact call_list_seq p (.inl O) t hc m (λh' c g e=>f a d k h' c g e) (by simp only[sT1]<;>lia)
 ·obtain⟨a,d,pl,k⟩:=I.tuple j;have i:=d.length;obtain⟨o,t,hc,n,m⟩:=pl;exact call_list_seq p (.inr O) t hc m (λh' c g e=>f a d k h' c g e) (by simp only[sT1]<;>lia)
theorem pO:fi X (.type "tuple") (λxs H Q=>∃p ys,xs=[.ref p]/\((nE X.K H p ys /\ ∀l,H l=Y->Q (.ref l) (upd H l (.tup ys)))\/(kC X.K H p ys/\Q (.ref p) H))):=by
 intro ag s σ H xs n Q I r h;obtain⟨p,ys,rfl,h⟩:=h;obtain⟨u,rfl,m⟩:=iN r;cases m;rcases h with⟨d,q⟩|⟨d,q⟩
 ·obtain ⟨a,c,pl,i⟩:=I.list d;have g:=c.length;refine call_tuple_list pl.isList (fun h' j=>?_) (by simp only [sT1]<;>lia);have f:Inv X ag σ H {s with heap:=h'}:=I.kept (t':=s.toks) j;have k:Inv X ag σ (upd H h'.objs.size (.tup ys)) {s with heap:=h'.push {cls:=.type "tuple",data:=.seq a.toArray}}:=
   f.laid (t':=s.toks) (λb o e=>hP1 _ e) (nR1 _) (show fb X.prog X.w _ _ _ (.tup ys)from⟨i,a,c,IsTup.new _ _⟩)
  exact⟨.ref h'.objs.size,_,k,O,q _ (f.hok.fresh (nR1 _))⟩
 ·obtain⟨a,c,pl,i⟩:=I.tuple d;exact call_tuple_same pl ⟨.ref p,H,I,O,q⟩
def Lg(K:Fg1)(T:String)(x:V)(H:Hp):Prop:=match x with
 | .str _=>T="str"
 | .int _=>T="int"
 | .ref p=>(T="list" /\ ∃ xs,nE K H p xs)\/(T="tuple" /\ ∃ o,K.lookup p=some o/\o.cls = .type "tuple"/\o.dict=none) \/
   (T="dict"/\((∃kvs,H p=Z (.dK kvs)) \/ ∃kvs,H p=Z (.dT kvs)))\/(T="set" /\ ∃S n,H p=Z (.set S n))
 |_=>False
theorem EW{ag:List (dP×Obj)}{σ:St}{H:Hp}{s:dN}{T:String}{x:V}{v:dM}(I:Inv X ag σ H s)(r:ew x v)(ty:Lg X.K T x H):
  s.TypeIs v T /\ ∀a,v = .ref a -> ∃g,s.heap.get? a=Z g/\g.dict=Y:=by
 cases x with
 |str z=>
  obtain⟨t,rfl⟩:=r;cases(show T="str" from ty);exact⟨typeIs_str s z t,λ_ e=>nomatch e⟩
 |int i=>
  obtain⟨t,rfl⟩:=r;cases(show T="int" from ty);exact⟨typeIs_int s i t,λ_ e=>nomatch e⟩
 |ref p=>
  cases r;rcases ty with⟨rfl,xs,j⟩|⟨rfl,o,b,hc,d⟩|⟨rfl,b⟩|⟨rfl,S,n,b⟩
  ·obtain⟨h,_,pl,_⟩:=I.list j;refine⟨pl.isList.typeIs,λa e=>?_⟩;cases e;obtain⟨o,n,e,c,d,_⟩:=pl;exact⟨o,e,d⟩
  ·refine⟨⟨o,I.kIn p o b,hc⟩,λa e=>?_⟩;cases e;exact⟨o,I.kIn _ o b,d⟩
  ·have z:∃ o,s.heap.get? p=some o/\o.ExactDict:=by
    rcases b with⟨kvs,b⟩|⟨kvs,b⟩
    ·obtain⟨_,_,_,_,o,_,_,e,ex,_⟩:=I.hok p _ b;exact⟨o,e,ex⟩
    ·obtain⟨_,_,_,_,o,_,_,e,ex,_⟩:=I.hok p _ b;exact⟨o,e,ex⟩
   obtain⟨o,e,ex⟩:=z;refine⟨⟨o,e,ex.1⟩,λa f=>?_⟩;cases f;exact⟨o,e,ex.2.1⟩
  ·obtain⟨o,_,_,_,e,ex,_⟩:=I.hok p _ b;refine⟨⟨o,e,ex.1⟩,λa f=>?_⟩;cases f;exact⟨o,e,ex.2.1⟩
 |_=>exact MU ty
def LL(K:Fg1)(T:String)(r:V->List V->Hp->VK->Prop)(to:TE)(t:TA):TE:=fun σ H Q=>to σ H λx H1=>Lg K T x H1/\t σ H1 λxs H2=>r x xs H2 Q
variable{o e:Expr}{es:List Expr}{to:TE}{t:TA}{name:Str}{apos cpos:Pos}{T id:String}{r:V->List V->Hp->VK->Prop}
theorem Iz (g:PlainAttrs T)(slot:Slot T name id)(hty:typeOf (.builtin id)=pure (.type "method_descriptor"))(hm:HI X id r)(ho:PE X o to)(ha:PA X (e::es) t)
  (hbase:autoParam (NW o name X.env (eval o X.env)=eval o X.env) cu0)
  (hfew:autoParam (((MP cpos (dV (e::es) X.env)).all (λx=> !x.1)&&(backToKw cpos (NX [] X.env)).all (λx=>x.1.isSome)
   && decide ((e::es).length+([]:List Nw).length+(if([]:List Nw).isEmpty then 0 else 1)<30))=M) cu0)
  (hline:autoParam ((apos.endLine == cpos.line)=M) cu0) (hs:autoParam (dV (e::es) X.env=(J,eval e X.env)::dV es X.env) cu0) (hplain:autoParam ((MP cpos (dV es X.env)).any (·.1)=J) cu0):
  PE X (.Call (.Attribute o name apos) (e::es) [] cpos) (LL X.K T r to t):=by
 intro ag s σ H Q I h;refine wpAny_Call_method_late hbase hfew hline O (ft (ho ag s σ H _ I h) λv k ⟨x,H1,a,c,ty,f⟩=>?_);obtain⟨h1,h2⟩:=EW a c ty;refine⟨T,id,g,slot,hty,h1,h2,?_⟩;have b:=ha cpos ag k σ H1 _ a f;rw[hs]at b ⊢;refine NY (by show(J||(MP cpos (dV es X.env)).any (·.1))=J;rw[hplain]<;>rfl) (NZ ?_);exact ft b λi d ⟨vs,H2,l,r2,j⟩=>hm ag d σ H2 x vs v i Q l c r2 j
end
def Ly(X:Cx)(id:String)(r:V->List V->Hp->VK->Prop):Prop:=
 ∀(ag:List (dP×Obj)) (s:dN) (σ:St) (H:Hp) (x:V) (xs:List V) (v:dM) (us:List dM) (Q:VK),Inv X ag σ H s->ew x v->eH xs us->r x xs H Q ->
  dX (MN X.prog X.w) X.A (call (.builtin id) (v::us)) (EP X ag σ Q) X.xe s
theorem eH.one:∀{x:V} {a:List dM},eH [x] a -> ∃u,a=[u]/\ew x u:=by
 intro x a h;cases h with
 |cons r t=>cases t;exact⟨_,O,r⟩
theorem eH.eraseIdx:∀{xs:List V} {a:List dM} (i:Nat),eH xs a->eH (xs.eraseIdx i) (a.eraseIdx i)
 |_,_,_,.nil=>.nil
 |_,_,0,.cons _ t=>t
 |_,_,i+1,.cons r t=>.cons r (eH.eraseIdx i t)
theorem qc{α:Type}:∀(l:List α) (i:Nat),(l.eraseIdx i).length<=l.length
 |[],_=>nR1 _
 |_::_,0=>aZ _
 |_::r,i+1=>Nat.succ_le_succ (qc r i)
section
variable{ag:List (dP×Obj)}{σ:St}{H:Hp}{s:dN}{l b:dP}{xs ys zs:List V}
theorem Inv.lset {its its':List dM}{n:Nat}{f:Array dM->Array dM}{t':Nat}(I:Inv X ag σ H s)(b:H l=some (.lst xs))
  (e:s.heap.get? l=Z {cls:=.type "list",data:=.seq its.toArray n}) (hf:f its.toArray=its'.toArray) (hv:eH ys its') (hz:ys.length<=dW):
  Inv X ag σ (upd H l (.lst ys)) {s with heap:=s.heap.update l (NT f),toks:=t'}:=by
 have q:=PySem.IsL.update e f;rw[hf]at q;refine I.write (x:=l) (e:=l) (by rw[b];exact trivial) (.inl O) (λd u c a=>(Heap.get?_update_other s.heap (NT f) (ML c)).trans a) ⟨_,q⟩ ?_;exact⟨hz,its',_,hv,q⟩
theorem Inv.lnew{its:List dM}{t':Nat}(I:Inv X ag σ H s)(hv:eH ys its)(hz:ys.length<=dW):
  Inv X ag σ (upd H s.heap.objs.size (.lst ys)) {s with heap:=s.heap.push {cls:=.type "list",data:=.seq its.toArray},toks:=t'}:=
 I.laid (λ_ _ q=>hP1 _ q) (nR1 _) ⟨hz,its,0,hv,hS1 _ O⟩
theorem Inv.fresh(I:Inv X ag σ H s):H s.heap.objs.size=Y:=I.hok.fresh (nR1 _)
theorem Inv.lstM(I:Inv X ag σ H s)(a:H l=Z (.lst xs)):xs.length<=dW /\ ∃(its:List dM) (n:Nat),eH xs its/\xs.length=its.length/\s.heap.get? l=Z {cls:=.type "list",data:=.seq its.toArray n}:=by
 obtain⟨z,its,n,r,e⟩:=I.hok l _ a;exact⟨z,its,n,r,r.length,e⟩
end
def CD:V->List V->Hp->VK->Prop:=λx vs H Q=>∃l xs y,x = .ref l/\vs=[y]/\H l=Z (.lst xs)/\xs.length<dW/\Q .non (upd H l (.lst (xs++[y])))
theorem p7:Ly X "list.append" CD:=by
 intro ag s σ H x vs v g Q I f d h;obtain⟨l,xs,y,rfl,rfl,b,j,q⟩:=h;cases f;obtain⟨u,rfl,c⟩:=d.one;obtain⟨z,a,n,r,i,e⟩:=I.lstM b;refine call_meets F.slot_list_append ⟨_,e,O⟩ F.entry_list_append (F.args_list_append_2 _ _) (PySem.list_append l a.toArray n u (by rw[sT1];lia)) ⟨e,?_⟩;refine⟨.non,_,I.lset (its':=a++[u]) b e (by simp) (r.append (.cons c .nil)) ?_,O,q⟩;rw[lA1,a0];lia
def FB:V->List V->Hp->VK->Prop:=λx vs H Q=>∃l xs i k y,x = .ref l/\vs=[.int i]/\H l=Z (.lst xs) /\ -(2^63)<=i/\i<2^63/\seqIndex? i xs.length=Z k/\xs[k]?=Z y/\Q y (upd H l (.lst (xs.eraseIdx k)))
theorem Ay:Ly X "list.pop" FB:=by
 intro ag s σ H x vs v A Q I m p h;obtain⟨l,xs,i,k,y,rfl,rfl,c,h1,h2,f,j,q⟩:=h;cases m;obtain⟨u,rfl,d⟩:=p.one;obtain⟨t,rfl⟩:=d;obtain⟨z,a,n,r,o,e⟩:=I.lstM c;obtain⟨w,g,b⟩:=r.get j;refine call_meets F.slot_list_pop ⟨_,e,O⟩ F.entry_list_pop (F.args_list_pop_2 _ _)
  (MeetsSeq.list_pop_at l a.toArray n i t k w (fitsIndex_both h1 h2) (by rw[sT1,<- o];exact f) (by rw[<- aT1];exact g) (by rw[sT1];lia)) ⟨e,?_⟩
 refine⟨y,_,I.lset (its':=a.eraseIdx k) c e ?_ (r.eraseIdx k) ?_,b,q⟩
 ·show a.toArray.eraseIdxIfInBounds k=(a.eraseIdx k).toArray;rw[List.eraseIdxIfInBounds_toArray]
 ·have:=qc xs k;lia
def KH:R2:=λx y H Q=>∃l b xs zs,x = .ref l/\y = .ref b/\H l=Z (.lst xs)/\H b=Z (.lst zs)/\xs.length+zs.length<=dW /\ ∀p,H p=Y->Q (.ref p) (upd H p (.lst (xs++zs)))
theorem Gg:gI X (Nk .Add) KH:=by
 intro ag s σ H x y v u Q I g f h;obtain⟨l,b,xs,zs,rfl,rfl,m,k,w,q⟩:=h;cases g;cases f;obtain⟨z,c,n,r,t,e⟩:=I.lstM m;obtain⟨o,a,p,r2,i,j⟩:=I.lstM k;refine PySem.P.add_list e j ?_ (by rw[sT1,sT1];lia);have d:c.toArray++a.toArray=(c++a).toArray:=by simp
 rw[d];exact⟨.ref _,_,I.lnew (t':=s.toks) (r.append r2) (by rw[lA1];lia),O,q _ I.fresh⟩
section
variable{prog:dQ}{w:dS}{A:dR}{E:dM->dN->Prop}{s:dN}
end
end L2
namespace Att
open PySem PySem.W PySem.Calls PyProof.Rows
theorem nB{P:Params}{h:dZ}:∀(ns:List Int) (vs:List dM),WellAll P h vs (ns.map WData.int)->N0 vs ns:=by
 intro ns
 induction ns with
 |nil=>
  intro vs w;rw[bc]at w;cases w;exact .nil
 |cons n ns ih=>
  intro vs w;rw[mP1]at w;cases w with
  |cons a b=>
   cases a;exact .cons _ _ (ih _ b)
theorem xW{l:OpenLaw}{n:Nat}(hn:l.most=some n){P:Params}{h:dZ}{args:List WData}{b:List dM}(c:l.row.toRowW.claim.pre args=true)(k:WellAll P h b args):
  ∃a vs ns,b=[Mz a]/\args=[WData.list (ns.map WData.int)]/\h.get? a=Z {cls:=.type "list",data:=.seq vs.toArray}/\N0 vs ns/\ns.length<=n:=by
 have j:WShape.hasAll [] args [.list .int]=M:=(pre_splitW c).1;have hc:l.pre.holds [] {args:=args}=M:=(pre_splitW c).2;obtain⟨d,r,rfl,h1,h2⟩:=hasAllW_cons j;obtain rfl:=hasAllW_nil h2;obtain⟨xs,rfl,m⟩:=hasW_list h1;obtain⟨ns,rfl⟩:=items_int m;have f:ns.length<=n:=by
  unfold OpenLaw.pre at hc;have i:(WTm.not (.lt (.lit (.int (n:Int))) (.len (.arg 0)))).holds [] {args:=[.list (ns.map .int)]}=M:=by
   have i:=(holds_andW hc).1;rw[hn]at i;exact i
  have g:=condW_of i (w_not (w_lt w_lit (w_len_list (w_arg O))));rw[lM1]at g;refine Nat.le_of_not_lt λq=>?_;have o:(n:Int)<((ns.length:Nat):Int):=by omega
  first
   |(rw[ah o]at g;exact absurd g (by decide))
   |(simp at g;omega)
 cases k with
 |cons p s=>
  cases s;cases p with
  |list t e=>exact⟨_,_,ns,O,O,t,nB ns _ e,f⟩
theorem x0(l:OpenLaw)(args:List WData):l.row.toRowW.claim.post args (.bool M) args=M:=
 postW_of (r:=l.row.toRowW) (X:=(M == M))
  (show WShape.has [] (.bool M) .bool=M by first|rfl|decide|simp[WShape.has,WShape.arms,WShape.armsAll])
  (show(WTm.eq .res (.lit (.bool M))).value [] {args:=args,res:=Z (.bool M),after:=args}=Z (.bool (M == M))from w_eq_bool (w_res O) w_lit) O
theorem attach_call {l:OpenLaw}{n:Nat}{q:dQ}{c:List Str}{XP:(Str->Option dM)->dZ->Prop}{y:dS->dZ->Prop}{d:DefRec}
  (hn:l.most=Z n) (t:d.params.defaults=[])
  (call:∀(w:dS) (e b:dN) (mg x:Str->Option dM) (m:dP) (o:Obj) (s cd h:dM) (a:dP) (vs:List dM) (ns:List Int),
   Ground q c [] XP w e mg x b.heap->y w b.heap ->
   b.heap.get? m=Z o->o.data = .func (docDef d.name d.params d.body d.scope s cd h)->b.heap.CodeRec cd d.name->mg d.name=Z (.ref m) ->
   b.heap.get? a=Z {cls:=.type "list",data:=.seq vs.toArray}->N0 vs ns->ns.length<=n->b.gens = #[] ->
   dY (MN l.prog w) callerA (.call (.ref m) ⟨[.ref a],[]⟩) (λr s'=>r = .ok (.ret (.bool M))/\OldK b.heap s'.heap/\s'.os=b.os/\MJ s'.gens) b):
  WalkO q c XP y l.row.toRowW d [] (λf vs=>PySem.call f vs):=by
 intro w e b mg x G aq m o s cd h D kV am H p z v I A C as j B K u F;obtain rfl:D = .none:=Dflts.none z t;obtain rfl:kV = .none:=Dflts.noKw z;obtain⟨a,vs,ns,rfl,rfl,i,g,k⟩:=xW hn j u;refine enter_call (Nv (call w e b mg x m o s cd h a vs ns G aq am (fd_plain H) p v i g k I) λr s' ao=>?_);obtain⟨rfl,h2,L,E⟩:=ao;exact⟨.inl ⟨.bool M,.bool M,[],O,λ_=>rfl,.bool M,x0 l _,λ_=>⟨List.Pairwise.nil,λ_ N=>(nomatch N)⟩⟩,h2,L,E⟩
section
variable{prog:dQ}{w:dS}{A:dR}{E:dM->dN->Prop}{s:dN}{K:Frag}
end
end Att
namespace L2
open PySem PySem.Spec PyProof.Rows
theorem xQ:∀{vs:List dM} {ns:List Int},N0 vs ns->eH (ns.map V.int) vs:=by
 intro vs ns h
 induction h with
 |nil=>exact .nil
 |cons n t h ih=>exact .cons ⟨t,O⟩ ih
def Ek(H:Hp):Prop:=∀b,H b=Y \/ ∃o xs,H b=Z (.frz o (.lst xs))
theorem A2 {P:dQ}{w:dS}{K:Fg1}{mg L:Str->Option dM}{CX:yS}{k:Nat}{I a:dP}{fd:d2}{x:Str}{sp:Sp}{s₁:dN}{vs:List dM}{ns:List Int}
  (N:K.In s₁.heap) (y:s₁.heap.Ns dU mg) (hb:s₁.heap.Ns builtinsNs L) (E:∀x:Str,x≠"__name__"->L x=MH x) (l:s₁.heap.NoLimit) (hg:s₁.gens = #[])
  (ha:s₁.heap.get? a=Z {cls:=.type "list",data:=.seq vs.toArray}) (hi:N0 vs ns) (R:ns.length<=dW) (hr:gl k callerA)
  (F:∀base:dZ,K.In base->base.Ns dU mg->mY P w K mg base CX k I fd [x] sp) (g:∀(s:dN) (u:dM),BindsTo s fd ⟨[u],[]⟩ [(x,u)])
  (D:∀H:Hp,Ek H->nE K H a (ns.map V.int)->sp [.ref a] H (λv _=>v = .bl M) λ_ _ _=>False)
  (am:∀H e s',CX [] H s₁ (λ_ _ _=>False) e s'->False):
  dY (MN P w) callerA (.call (.ref I) ⟨[.ref a],[]⟩) (λr s'=>r = .ok (.ret (.bool M))/\OldK s₁.heap s'.heap/\s'.os=s₁.os/\MJ s'.gens) s₁:=by
 have S:=xQ hi;have A:=hi.length
 -- from an abstract heap in which nothing but the script may be tracked
 have f:∀ H:Hp,Ek H->nE K H a (ns.map V.int)->lg P w H s₁.heap->(∀ b,H b≠none->b=a)->(H a≠none->K.lookup a=none) ->
   dY (MN P w) callerA (.call (.ref I) ⟨[.ref a],[]⟩) (λr s'=>r = .ok (.ret (.bool M))/\OldK s₁.heap s'.heap/\s'.os=s₁.os/\MJ s'.gens) s₁:=by
  intro H au aq j Q wq;have base_of:∀{b:dP} {o:Obj},s₁.heap.get? b=Z o->H b=Y->(sg s₁.heap H).get? b=Z o:=λe n=>Bk e n;have C:∀{b:dP} {o:Obj} {es:Array N1} {ep:Nat},s₁.heap.get? b=Z o->o.data = .dict es ep->H b=Y:=λ{b o es ep} e d=>by
   cases q:H b with
   |none=>rfl
   |some u=>
    have G:b=a:=Q b (by rw[q];simp);subst G;rw[ha]at e;cases e;have T:Data.seq vs.toArray _=Data.dict es ep:=d;cases T
  have c:∀{b:dP} {m:Str->Option dM},s₁.heap.Ns b m->(sg s₁.heap H).Ns b m:=λ{b m} ⟨o,es,ep,e,d,r⟩=>⟨o,es,ep,base_of e (C e d),d,r⟩;have t:K.In (sg s₁.heap H):=λb o e=>base_of (N b o e) (by
   cases q:H b with
   |none=>rfl
   |some u=>
    have G:b=a:=Q b (by rw[q];simp);subst G;rw[wq (by rw[q];simp)]at e;cases e)
  have W:Mod K mg (sg s₁.heap H):=⟨t,c y,⟨L,c hb,E⟩,let ⟨mc,h1,h2⟩:=l;⟨mc,c h1,h2⟩⟩;have e0:Em P w K mg (sg s₁.heap H) callerA [] s₁ H:=⟨O,W,λb o e=>C7 e,Nat.le_of_eq (yx _ _),trivial,λb hb=>absurd (show b∈([]:List dP)from hb) (by simp),j,.of_eq hg⟩;refine Nv ((F _ t (c y)).run callerA [] s₁ H ⟨[.ref a],[]⟩ [.ref a] [.ref a] _ _ hr e0 (g s₁ (.ref a)) (.cons O .nil) (D H au aq)) λr s' h=>?_;cases r with
  |error e=>exact(am H e s' h).elim
  |ok fl=>
   cases fl with
   |next=>exact MU h
   |brk=>exact MU h
   |cont=>exact MU h
   |ret u=>
    obtain⟨v,H',X,i,un,p,r',q⟩:=h;have q':v = .bl M:=q;subst q';obtain rfl:u=ae true:=r';refine⟨O,OldK.of_keep λb o e=>?_,X,i⟩;cases q:H b with
    |none=>exact un.keep b o e q (by intro z;exact absurd (show b∈([]:List dP)from z) (by simp)) (by simp)
    |some u=>
     rcases au b with z|⟨ob,xs,z⟩
     ·rw[q]at z;cases z
     ·have z2:=un.frzs b ob _ z;obtain⟨ao,_⟩:=j b _ z;obtain⟨U,_⟩:=p b _ z2;rw[e]at ao;cases ao;exact U
 cases hk:K.lookup a with
 |some o=>
  -- the script is one of the module's own objects
  have e:=N a o hk;rw[ha]at e;cases e;refine f (λ_=>Y) (λ_=>.inl O) (.inr ⟨_,vs.toArray,_,hk,O,O,O,by rw[sT1,A];exact R,by simpa using S⟩) (λb u z=>by have B:(Y:Option HO)=Z u:=z;cases B) (λb z=>absurd O z) λz=>absurd O z
 |none=>
  refine f (λb=>if b=a then Z (.frz {cls:=.type "list",data:=.seq vs.toArray} (.lst (ns.map V.int)))else Y) (λb=>?_) (.inl (.inr ⟨{cls:=.type "list",data:=.seq vs.toArray},ak O⟩)) (λb u z=>?_) (λb z=>?_) λ_=>hk
  ·by_cases hb:b=a
   ·exact .inr ⟨_,_,ak hb⟩
   ·exact .inl (aj hb)
  ·by_cases hb:b=a
   ·have B:=(ak hb).symm.trans z;cases B;subst hb;exact⟨ha,by rw[lM1];exact R,vs,_,S,ha⟩
   ·have B:=(aj hb).symm.trans z;cases B
  ·by_cases hb:b=a
   ·exact hb
   ·exact absurd (aj hb) z
theorem Ch{l:PySem.W.OpenLaw}{n k:Nat}{q:dQ}{g:List Str}{XP:(Str->Option dM)->dZ->Prop}{A:dS->dZ->Prop}{d:DefRec}{K:Params->Fg1}{CX:dS->yS}{sp:dS->Sp}{x:Str}(hn:l.most=some n)(t:n<=dW)(r:d.params.defaults=[])(hr:gl k callerA)(E:∀(w:dS) (h:dZ),A w h->(K w.params).In h)(F:∀(w:dS) (mg:Str->Option dM) (m:dP) (h:dZ),(K w.params).In h->h.Ns dU mg->mg d.name=some (.ref m) ->
   ∃fd:d2,(∀(s:dN) (u:dM),BindsTo s fd ⟨[u],[]⟩ [(x,u)]) /\
    ∀base:dZ,(K w.params).In base->base.Ns dU mg->mY l.prog w (K w.params) mg base (CX w) k m fd [x] (sp w))(p:∀(w:dS) (H:Hp) (a:dP) (ns:List Int),ns.length<=n->Ek H->nE (K w.params) H a (ns.map V.int)->sp w [.ref a] H (λv _=>v = .bl M) λ_ _ _=>False)(z:∀(w:dS) (H:Hp) (s:dN) (e:dM) (s':dN),CX w [] H s (λ_ _ _=>False) e s'->False):
  PySem.W.WalkO q g XP A l.row.toRowW d [] (λf vs=>PySem.call f vs):=by
 refine Att.attach_call hn r λw C j mg S m o P cd au a vs ns G aq R Q D y i c b L=>?_;have B:=E w _ aq;obtain⟨fd,am,N⟩:=F w mg m _ B G.T.g y;exact A2 B G.T.g G.T.b G.T.builtins G.T.nolimit L i c (aC b t) hr N am (λH I ao=>p w H a ns b I ao) λH e s'=>z w H j e s'
noncomputable def iJ(s:d3):Arguments:=match s with
 | .FunctionDef _ a _ _ _ _ _ _ _ _=>a
 |_=>{posonlyargs:=[],args:=[],vararg:=Y,kwonlyargs:=[],kw_defaults:=[],kwarg:=Y,defaults:=[]}
noncomputable def fK(s:d3):List d3:=match s with
 | .FunctionDef _ _ b _ _ _ _ _ _ _=>b
 |_=>[]
noncomputable def eD(s:d3):d4:=match s with
 | .FunctionDef _ _ _ _ _ _ sc _ _ _=>sc
 |_=>{kind:=.function,names:=[],isGenerator:=J,isCoroutine:=J}
abbrev uW:yS:=λ_ _ _ _ _ _=>False
abbrev E0:XK:=λ_ _ _=>False
theorem IB{X:Cx}:wc uW X E0:=λ_ _ _ _ _ _ _ h=>h.elim
structure xI (K:Fg1)(x qual:Str)(st:d3)(f:dP)(fd:d2):Prop where
 ex:∃(oc:dM) (od:Option dP) (kV doc pm:dM) (an:Option dP) (cdv ct:dM) (osl:Array (Option dM)),
  fd=wF1 x qual (iJ st) (fK st) (eD st) .none kV doc pm an cdv ct/\K.lookup f=some ⟨oc,od,.func fd,osl⟩/\wC1 K cdv qual=true
 kp:wK1 K (.ref f)=true
section
variable{P:dQ}{w:dS}{K:Fg1}{mg:Str->Option dM}{base:dZ}
theorem xI.ok{x b:Str}{st:d3}{f:dP}{fd:d2}{N ps:List Str}{k:Nat}{sp:Sp}(F:xI K x b st f fd)(S:gR N ps (eD st))(len:∀ vs H Q E,sp vs H Q E->vs.length=ps.length)(d:∀(c:dM) (A:dR) (a:List Env) (s:dN) (H:Hp) (vs:List V) (Q:VK) (E:XK),gl k (A.deeper (Ny b (eD st) s.heap.objs.size f c))->sp vs H Q E ->
   ∃t,u6 (nC uW P w K mg base N b (eD st) f c A a s H E).nox (fK st) t/\t {nx:=λ_ H'=>Q .non H',rt:=Q} (jy N vs) H):mY P w K mg base uW (k+1) f fd ps sp:=by
 obtain⟨n,p,kV,i,o,r,c,ct,m,rfl,j,e⟩:=F.ex;refine Jo j e S len λA a s H vs Q E l g=>?_;obtain⟨t,h,q⟩:=d c A a s H vs Q E l g;exact⟨t,h.nox,q⟩
theorem xI.binds{x a:Str}{st:d3}{f:dP}{fd:d2}{ps:List Str}(F:xI K x a st f fd)(h:∀(kV c d:dM) (g:Option dP) (b ct:dM) (e:List dM),e.length=ps.length->bindArgs (wF1 x a (iJ st) (fK st) (eD st) .none kV c d g b ct) ⟨e,[]⟩=pure (ps.zip e)):j9 K fd ps []:=by
 obtain⟨k,l,kV,c,d,g,b,ct,j,rfl,m,i⟩:=F.ex;exact .all (h kV c d g b ct)
theorem Bs{x a:Str}{st:d3}{f:dP}{i:dM}{j h:Option dP}{e:Array (Option dM)}{kV d g b ct:dM}(l:K.lookup f=Z ⟨i,j,.func (wF1 x a (iJ st) (fK st) (eD st) .none kV d g h b ct),e⟩)(c:wC1 K b a=M)(k:wK1 K (.ref f)=M):xI K x a st f (wF1 x a (iJ st) (fK st) (eD st) .none kV d g h b ct):=⟨⟨i,j,kV,d,g,h,b,ct,e,O,l,c⟩,k⟩
end
variable{X:Cx}
theorem pv (i:Nat){x:Str}{pos:Pos}(hN:autoParam (X.N[i]? = some x) cu0)(hv:autoParam (Vis X.env.scope x) au0)(hd:autoParam ((x == ("__debug__":Str))=false) bu0)
  (hcd:autoParam ((x == ("__classdict__":Str))=J) bu0):PE X (.Name x pos) (HW i):=Ae hN hv hd hcd
section
variable{κ:Type} [DecidableEq κ]
noncomputable def hA(kvs:List (κ×V))(k:κ):Option V:=(kvs.find? λkv=>decide (kv.1=k)).map (·.2)
noncomputable def hL(kvs:List (κ×V))(k:κ)(v:V):List (κ×V):=
 if(kvs.any λkv=>decide (kv.1=k))=M then kvs.map (λkv=>if kv.1=k then(kv.1,v)else kv)else kvs++[(k,v)]
theorem nW{p:κ×V}{r:List (κ×V)}{k:κ}(e:p.1=k):hA (p::r) k=Z p.2:=by simp[hA,bd,e]
theorem nX{p:κ×V}{r:List (κ×V)}{k:κ}(e:¬ p.1=k):hA (p::r) k=hA r k:=by simp[hA,bd,e]
theorem sV(k:κ):∀kvs:List (κ×V),(kvs.any λa=>decide (a.1=k))=(hA kvs k).isSome
 |[]=>rfl
 |p::r=>by
  rw[bf];by_cases e:p.1=k
  ·simp only[nW e,ah e,Bool.true_or,Option.isSome_some]
  ·rw[nX e,ai e,Bool.false_or];exact sV k r
theorem iH(kvs:List (κ×V))(k:κ)(v:V):(hL kvs k v).length<=kvs.length+1:=by
 unfold hL;split
 ·rw[lM1];lia
 ·rw[lA1,lC1,bg];lia
theorem lc.isSome_eq{o:Option V}{u:Option dM}(r:lc o u):o.isSome=u.isSome:=by
 cases o with
 |none=>cases u with
  |none=>rfl
  |some _=>exact(show False from r).elim
 |some _=>cases u with
  |none=>exact(show False from r).elim
  |some _=>rfl
theorem lc.getD{o:Option V}{u:Option dM}{d:V}{d':dM}(r:lc o u)(a:ew d d'):ew (o.getD d) (u.getD d'):=by
 cases o with
 |none=>cases u with
  |none=>exact a
  |some _=>exact(show False from r).elim
 |some _=>cases u with
  |none=>exact(show False from r).elim
  |some _=>exact r
theorem KV.val{kvs:List (κ×V)}{vs:List (κ×dM)}(r:KV kvs vs)(k:κ):lc (hA kvs k) (N2 vs k):=by
 unfold KV at r
 induction r with
 |nil=>exact Nr
 | @cons p q ps c h t ih=>
  obtain⟨h1,h2⟩:=h;by_cases e:p.1=k
  ·have a:q.1=k:=h1.symm.trans e;have b:N2 (q::c) k=Z q.2:=by simp[N2,bd,a]
   rw[nW e,b];exact h2
  ·have a:¬ q.1=k:=λz=>e (h1.trans z);have b:N2 (q::c) k=N2 c k:=by simp[N2,bd,a]
   rw[nX e,b];exact ih
theorem KV.any{kvs:List (κ×V)}{vs:List (κ×dM)}(r:KV kvs vs)(k:κ):(kvs.any λa=>decide (a.1=k))=vs.any λa=>decide (a.1=k):=by
 unfold KV at r
 induction r with
 |nil=>rfl
 |cons h t ih=>rw[bf,bf,ih,h.1]
theorem KV.repl{kvs:List (κ×V)}{vs:List (κ×dM)}(r:KV kvs vs)(k:κ){y:V}{u:dM}(b:ew y u):
  KV (kvs.map λa=>if a.1=k then(a.1,y)else a) (vs.map λa=>if a.1=k then(a.1,u)else a):=by
 unfold KV at r ⊢
 induction r with
 |nil=>exact .nil
 | @cons p q ps c h t ih=>
  rw[mP1,mP1];refine .cons ?_ ih;obtain⟨h1,h2⟩:=h;by_cases e:p.1=k
  ·rw[ak e,ak (h1.symm.trans e)];exact⟨h1,b⟩
  ·rw[aj e,aj (λz=>e (h1.trans z))];exact⟨h1,h2⟩
theorem KV.put{kvs:List (κ×V)}{vs:List (κ×dM)}(r:KV kvs vs)(k:κ){y:V}{u:dM}(a:ew y u):KV (hL kvs k y) (stored vs k u):=by
 unfold hL stored;rw[r.any k];by_cases e:(vs.any λb=>decide (b.1=k))=M
 ·rw[ak e,ak e];exact r.repl k a
 ·rw[aj e,aj e];exact Paired.snoc r ⟨O,a⟩
theorem KV.length{kvs:List (κ×V)}{vs:List (κ×dM)}(r:KV kvs vs):kvs.length=vs.length:=Paired.length r
end
theorem oJ{P:dQ}{w:dS}{k:Key}{u:dM}(r:ew (kV k) u):(fe P w).is k u=M:=by
 cases k with
 |inl i=>obtain⟨t,e⟩:=(show∃t,u=aa i t from r);subst e;exact t5 P w i t
 |inr x=>obtain⟨t,e⟩:=(show∃t,u=Value.str x t from r);subst e;exact t4 P w x t
theorem qg{P:dQ}{w:dS}:∀{ks:List Key} {a:List dM},eH (ks.map kV) a->ItemsAre (fe P w) ks a
 |[],_,r=>by rw[bc]at r;cases r;exact .nil
 |k::ks,_,r=>by
  rw[mP1]at r;cases r with
  |cons h t=>exact .cons (oJ h) (qg t)
abbrev KT(H:Hp):List (List Key×V)->List (List Key×dP×dM)->Prop:=Paired λp q=>p.1=q.1/\H q.2.1=Z (.tup (p.1.map kV))/\ew p.2 q.2.2
theorem KT.val{H:Hp}{kvs:List (List Key×V)}{xs:List (List Key×dP×dM)}(r:KT H kvs xs)(k:List Key):lc (hA kvs k) ((N3 xs k).map (·.2)):=by
 induction r with
 |nil=>exact Nr
 | @cons p q ps c h t ih=>
  obtain⟨h1,_,h2⟩:=h;by_cases e:p.1=k
  ·have a:q.1=k:=h1.symm.trans e;have b:N3 (q::c) k=Z q.2:=by simp[N3,bd,a]
   rw[nW e,b];exact h2
  ·have a:¬ q.1=k:=λz=>e (h1.trans z);have b:N3 (q::c) k=N3 c k:=by simp[N3,bd,a]
   rw[nX e,b];exact ih
theorem KT.repl{H:Hp}{kvs:List (List Key×V)}{xs:List (List Key×dP×dM)}(r:KT H kvs xs)(k:List Key){y:V}{u:dM}(b:ew y u):
  KT H (kvs.map λa=>if a.1=k then(a.1,y)else a) (xs.map (putAt k u)):=by
 induction r with
 |nil=>exact .nil
 | @cons p q ps d h t ih=>
  rw[mP1,mP1];refine .cons ?_ ih;obtain⟨h1,h2,c⟩:=h;unfold putAt;by_cases e:p.1=k
  ·rw[ak e,ak (h1.symm.trans e)];exact⟨h1,h2,b⟩
  ·rw[aj e,aj (λz=>e (h1.trans z))];exact⟨h1,h2,c⟩
theorem KT.put{H:Hp}{kvs:List (List Key×V)}{xs:List (List Key×dP×dM)}(r:KT H kvs xs)(k:List Key){b:dP}{y:V}{u:dM}(hb:H b=some (.tup (k.map kV)))(a:ew y u):
  KT H (hL kvs k y) (storedH xs k b u):=by
 have e:(kvs.any λc=>decide (c.1=k))=(N3 xs k).isSome:=by
  rw[sV,(r.val k).isSome_eq,bh]
 unfold hL storedH;rw[e];by_cases q:(N3 xs k).isSome=M
 ·rw[ak q,ak q];exact r.repl k a
 ·rw[aj q,aj q];exact Paired.snoc r ⟨O,hb,a⟩
theorem KT.keeps{H H':Hp}{kvs:List (List Key×V)}{xs:List (List Key×dP×dM)}(r:KT H kvs xs)(ht:∀b ys,H b=Z (.tup ys)->H' b=Z (.tup ys)):KT H' kvs xs:=
 Paired.mapP r λ_ _ z=>⟨z.1,ht _ _ z.2.1,z.2.2⟩
section
variable{P:dQ}{w:dS}{H:Hp}{h:dZ}{a:dP}
theorem Ey{u:HO}(ok:lg P w H h)(e:Rd H a u):fb P w H h a u:=e.ok ok
theorem oY{kvs:List (Key×V)}(ok:lg P w H h)(e:Rd H a (.dK kvs)):kvs.length<=dW/\(a == MF)=J /\ ∃vs,KV kvs vs/\h.DictOf (fe P w) a vs:=
 show fb P w H h a (.dK kvs)from Ey ok e
theorem xp{kvs:List (Key×V)}(ok:lg P w H h)(e:H a=Z (.dK kvs)):kvs.length<=dW/\(a == MF)=J /\ ∃vs,KV kvs vs/\h.DictOf (fe P w) a vs:=oY ok (.inl e)
theorem oI{ks:List Key}(ok:lg P w H h)(e:H a=Z (.tup (ks.map kV))):(tupleKind (fe P w)).is h ks a:=by
 obtain⟨_,b,r,o,h1,h2,n,c⟩:=(show fb P w H h a (.tup (ks.map kV))from ok a _ e);exact⟨o,b.toArray,n,h1,h2,c,by simpa using qg r⟩
theorem qq{kvs:List (List Key×V)}(ok:lg P w H h)(e:Rd H a (.dT kvs)):kvs.length<=dW/\(a == MF)=false /\
  ∃xs,KT H kvs xs/\h.DictOfH (tupleKind (fe P w)) a xs:=by
 obtain⟨z,y,xs,r,o,es,ep,h1,h2,d,f,g⟩:=(show fb P w H h a (.dT kvs)from Ey ok e);refine⟨z,y,xs,r,o,es,ep,h1,h2,d,f,λx b=>?_,g⟩;have all:∀{l:List (List Key×V)} {m:List (List Key×dP×dM)},KT H l m -> ∀x∈m,(tupleKind (fe P w)).is h x.1 x.2.1:=by
  intro l m q
  induction q with
  |nil=>intro x b;exact nomatch b
  | @cons p q ps i c t ih=>
   intro x b;rcases aF.mp b with e|b
   ·subst e;exact oI ok (by rw[<- c.1];exact c.2.1)
   ·exact ih x b
 exact all r x b
theorem Jt{kvs:List (List Key×V)}(ok:lg P w H h)(e:H a=some (.dT kvs)):kvs.length<=dW/\(a == MF)=false /\
  ∃xs,KT H kvs xs/\h.DictOfH (tupleKind (fe P w)) a xs:=qq ok (.inl e)
end
def pz(H:Hp)(a:dP)(y:V)(r:Option V):Prop:=
 (∃kvs k,Rd H a (.dK kvs)/\y=kV k/\r=hA kvs k) \/ ∃kvs k b,Rd H a (.dT kvs)/\y = .ref b/\H b=Z (.tup (k.map kV))/\r=hA kvs k
def yP(H:Hp)(a:dP)(y v:V)(H':Hp):Prop:=
 (∃kvs k,H a=Z (.dK kvs)/\y=kV k/\kvs.length<dW/\H'=upd H a (.dK (hL kvs k v))) \/
 ∃kvs k b,H a=Z (.dT kvs)/\y = .ref b/\H b=Z (.tup (k.map kV))/\kvs.length<dW/\H'=upd H a (.dT (hL kvs k v))
theorem pz.k{H:Hp}{a:dP}{kvs:List (Key×V)}{k:Key}(e:H a=Z (.dK kvs)):pz H a (kV k) (hA kvs k):=.inl ⟨kvs,k,.inl e,O,O⟩
theorem pz.t{H:Hp}{a b:dP}{kvs:List (List Key×V)}{k:List Key}(e:H a=Z (.dT kvs))(c:H b=Z (.tup (k.map kV))):pz H a (.ref b) (hA kvs k):=.inr ⟨kvs,k,b,.inl e,O,c,O⟩
theorem yP.k{H:Hp}{a:dP}{kvs:List (Key×V)}{k:Key}{v:V}(e:H a=Z (.dK kvs))(b:kvs.length<dW):yP H a (kV k) v (upd H a (.dK (hL kvs k v))):=.inl ⟨kvs,k,e,O,b,O⟩
theorem yP.t{H:Hp}{a b:dP}{kvs:List (List Key×V)}{k:List Key}{v:V}(e:H a=some (.dT kvs))(c:H b=some (.tup (k.map kV)))(d:kvs.length<dW):
  yP H a (.ref b) v (upd H a (.dT (hL kvs k v))):=.inr ⟨kvs,k,b,e,O,c,d,O⟩
section
variable{ag:List (dP×Obj)}{σ:St}{H:Hp}{s:dN}{a:dP}{y v:V}{u r:dM}{o:Option V}{A:dR}{E:dM->dN->Prop}
theorem Inv.big(I:Inv X ag σ H s):MF<s.heap.objs.size:=by
 have h:dU<s.heap.objs.size:=(I.mod.glob.keeps I.bk).lt;exact bi (by decide) h
theorem yE{Q:dM->dN->Prop}(w:A.units+1<Nt)(I:Inv X ag σ H s)(g:pz H a y (some v))(q:ew y u)(h:∀ f s',Inv X ag σ H s'->ew v f->Q f s'):
  dX (MN X.prog X.w) A (getItem (.ref a) u) Q E s:=by
 rcases g with⟨kvs,k,e,j,l⟩|⟨kvs,k,b,e,j,t,l⟩
 ·subst j;obtain⟨z,x,vs,c,m⟩:=oY I.hok e;obtain⟨f,i,d⟩:=lc.some_of (v:=v) (o:=N2 vs k) (by rw[l];exact c.val k);exact wpAny_getItem_of (oJ q) m.mapOf i (h f _ (I.tok _) d)
 ·subst j;cases(show u=Mz b from q);obtain⟨z,x,xs,c,m⟩:=qq I.hok e;obtain⟨f,i,d⟩:=lc.some_of (v:=v) (o:=(N3 xs k).map (·.2)) (by rw[l];exact c.val k);obtain⟨p,r,n⟩:=Pz i;refine wpAny_getItem_heap (N4 w) (oI I.hok t) m r ?_;rw[n];exact h f _ (I.tok _) d
theorem D8{Q:dM->dN->Prop}(n:A.units+1<Nt)(I:Inv X ag σ H s)(g:pz H a y o)(j:ew y u)(h:∀ s',Inv X ag σ H s'->Q (.bool (!o.isSome)) s'):
  dX (MN X.prog X.w) A (Nl .NotIn u (.ref a)) Q E s:=by
 rcases g with⟨kvs,k,e,d,l⟩|⟨kvs,k,b,e,d,m,l⟩
 ·subst d;obtain⟨z,i,vs,c,f⟩:=oY I.hok e;refine wpAny_notIn_of (oJ j) i f.mapOf ?_;rw[<- (c.val k).isSome_eq,<- l];exact h _ (I.tok _)
 ·subst d;cases(show u=Mz b from j);obtain⟨z,i,xs,c,f⟩:=qq I.hok e;refine wpAny_notIn_heap (N4 n) (oI I.hok m) i f ?_;have q:=(c.val k).isSome_eq;rw[bh]at q;rw[<- q,<- l];exact h _ (I.tok _)
theorem kq{h':dZ}{t':Nat}{c:HO}(I:Inv X ag σ H s)(mu:HH (H a))(hs:MM a s.heap h')(he:∃ q,h'.get? a=some q)(new:fb X.prog X.w (upd H a c) h' a c):
  Inv X ag σ (upd H a c) {s with heap:=h',toks:=t'}:=
 I.write (x:=a) (e:=a) mu (.inl O) (λb q d z=>(hs.2 b d).trans z) he new
theorem vS{P:dQ}{w:dS}{H':Hp}{h':dZ}{kvs:List (Key×V)}{vs:List (Key×dM)}(z:kvs.length<=dW)(hd:(a == MF)=false)(b:KV kvs vs)(c:h'.DictOf (fe P w) a vs):
  fb P w H' h' a (.dK kvs):=⟨z,hd,vs,b,c⟩
theorem yD{H':Hp}{Q:Unit->dN->Prop}(G:A.units+1<Nt)(I:Inv X ag σ H s)(g:yP H a y v H')(C:ew y u)(D:ew v r)(h:∀ s',Inv X ag σ H' s'->Q () s'):
  dX (MN X.prog X.w) A (setItem (.ref a) u r) Q E s:=by
 rcases g with⟨kvs,k,e,n,l,m⟩|⟨kvs,k,b,e,n,x,l,m⟩
 ·subst n m;obtain⟨z,p,vs,d,o⟩:=xp I.hok e;have j:vs.length<=dW:=by rw[<- d.length];exact z
  have t:(hL kvs k v).length<=dW:=by have:=iH kvs k v;lia
  refine wpAny_setItem_pairs (hsz:=j) (oJ C) o λh' f w=>h _ ?_;have am:∃q,h'.get? a=Z q:=let ⟨q,_,_,i,_⟩:=f;⟨q,i⟩
  exact kq I (by rw[e];exact Nr) w am (vS t p (d.put k D) f)
 ·subst n m;cases(show u=Mz b from C);obtain⟨z,p,xs,d,o⟩:=Jt I.hok e;have j:xs.length<=dW:=by rw[<- Paired.length d];exact z
  have t:(hL kvs k v).length<=dW:=by have:=iH kvs k v;lia
  refine wpAny_setItem_heap (hsz:=j) (N4 G) (oI I.hok x) o λh' f w=>h _ ?_;obtain⟨q,es,ep,i,h2,K,F,_,L⟩:=f;refine kq I (by rw[e];exact Nr) w ⟨q,i⟩ ⟨t,p,_,(d.put k x D).keeps λc ys B=>?_,q,es,ep,i,h2,K,F,L⟩;rw[eE (IL B e (λz=>nomatch z))];exact B
end
section
variable{ag:List (dP×Obj)}{σ:St}{H:Hp}{s:dN}{a:dP}{kvs:List (Key×V)}{k:Key}{u:dM}{A:dR}{E:dM->dN->Prop}
theorem Ju{Q:dM->dN->Prop}(I:Inv X ag σ H s)(e:Rd H a (.dK kvs))(h:∀t s',Inv X ag σ H s'->Q (.int kvs.length t) s'):dX (MN X.prog X.w) A (call (.builtin "len") [.ref a]) Q E s:=by
 obtain⟨z,d,vs,b,c⟩:=oY I.hok e;refine call_len_dict d c (by rw[<- b.length];rw[No]at z;lia) ?_;rw[<- b.length];exact h _ _ (I.tok _)
end
theorem uE{X:Cx}{ag:List (dP×Obj)}{σ:St}{H:Hp}{s:dN}{a:dP}{y:V}{o:Option V}(I:Inv X ag σ H s)(g:pz H a y o):s.TypeIs (.ref a) "dict":=by
 rcases g with⟨kvs,k,e,_,_⟩|⟨kvs,k,b,e,_,_,_⟩
 ·obtain⟨_,_,vs,_,c⟩:=oY I.hok e;exact c.typeIs
 ·obtain⟨_,_,xs,_,c⟩:=qq I.hok e;exact c.typeIs
section
variable{o i e value:Expr}{pos pos' tpos:Pos}{td ty tv:TE}
end
theorem uD{P:dQ}{w:dS}{H:Hp}(h:dZ)(hb:MF<h.objs.size):fb P w H (h.push {cls:=.type "dict",data:=.dict #[]}) h.objs.size (.dK []):=
 ⟨bj _,beq_eq_false_iff_ne.mpr (ML (nN1 hb)),[],.nil,Heap.DictOf.new h⟩
def Fa:TE:=λ_ H Q=>∀p,H p=Y->Q (.ref p) (upd H p (.dK []))
section
variable{pos:Pos}
theorem Ah:PE X (.Dict [] [] pos) Fa:=λag s σ H Q I h=>
 wpAny_Dict_empty ⟨.ref s.heap.objs.size,_,I.laid (a:=s.heap.objs.size) (o:=.dK []) (t':=s.toks) (λ_ _ q=>hP1 _ q) (nR1 _) (uD s.heap I.big),O,h _ (I.hok.fresh (nR1 _))⟩
end
def re:List (TE×TE)->St->Hp->(List (V×V)->Hp->Prop)->Prop
 |[],_,H,Q=>Q [] H
 |(tk,tv)::r,σ,H,Q=>tk σ H λx H1=>tv σ H1 λy H2=>re r σ H2 λps H3=>Q ((x,y)::ps) H3
abbrev VV:List (V×V)->List (dM×dM)->Prop:=Paired λp q=>ew p.1 q.1/\ew p.2 q.2
def JL(X:Cx)(pos:Pos)(keys:List (Option Expr))(values:List Expr)(trs:List (TE×TE)):Prop:=
 ∀(ag:List (dP×Obj)) (s:dN) (σ:St) (H:Hp) (Q:List (V×V)->Hp->Prop),Inv X ag σ H s->re trs σ H Q ->
  dX (MN X.prog X.w) X.A (evalPairs (pairTrees keys values X.env pos)) (λvs s'=>∃ps H',Inv X ag σ H' s'/\VV ps vs/\Q ps H') X.xe s
theorem CO{X:Cx}{pos:Pos}:JL X pos [] [] []:=λag s σ H Q I h=>pairTrees_nil_walk ⟨[],H,I,.nil,h⟩
theorem zW{X:Cx}{pos:Pos}{k v:Expr}{ks:List (Option Expr)}{vs:List Expr}{tk tv:TE}{trs:List (TE×TE)}(hk:PE X k tk)(hv:PE X v tv)(hr:JL X pos ks vs trs):
  JL X pos (Z k::ks) (v::vs) ((tk,tv)::trs):=λag s σ H Q I h=>
 pairTrees_cons_walk (ft (hk ag s σ H _ I h) λu j ⟨x,H1,b,n,d⟩=>ft (hv ag j σ H1 _ b d) λp c ⟨y,H2,m,g,i⟩=>
  ft (hr ag c σ H2 _ m i) λws o ⟨ps,e,f,a,l⟩=>⟨(x,y)::ps,e,f,.cons ⟨n,g⟩ a,l⟩)
def jc(kvs more:List (Key×V)):List (Key×V):=more.foldl (λacc kv=>hL acc kv.1 kv.2) kvs
theorem KV.merge:∀{more:List (Key×V)} {rs:List (Key×dM)} {kvs:List (Key×V)} {vs:List (Key×dM)},KV more rs->KV kvs vs->KV (jc kvs more) (merged vs rs):=by
 intro more rs kvs vs r;unfold KV at r
 induction r generalizing kvs vs with
 |nil=>intro q;exact q
 | @cons p q ps b h t ih=>
  intro a;have e:KV (hL kvs p.1 p.2) (stored vs q.1 q.2):=by
   have:=a.put p.1 h.2;rw[<- h.1];exact this
  exact ih e
theorem kN:∀(more kvs:List (Key×V)),(jc kvs more).length<=kvs.length+more.length
 |[],kvs=>by show kvs.length<=kvs.length+0;lia
 |p::r,kvs=>by
  have h1:=kN r (hL kvs p.1 p.2);have h2:=iH kvs p.1 p.2;show(jc (hL kvs p.1 p.2) r).length<=_;rw[lC1];lia
theorem pd{P:dQ}{w:dS}:∀{kvs:List (Key×V)} {ws:List (dM×dM)},VV (kvs.map λd=>(kV d.1,d.2)) ws -> ∃rs,Carries (fe P w) ws rs/\KV kvs rs
 |[],_,r=>by rw[bc]at r;cases r;exact⟨[],Nr,.nil⟩
 |p::kvs,_,r=>by
  rw[mP1]at r;cases r with
  | @cons a b as bs h t=>
   obtain⟨rs,c,q⟩:=pd (P:=P) (w:=w) t;obtain⟨b1,b2⟩:=b;exact⟨(p.1,b2)::rs,⟨oJ h.1,O,c⟩,.cons ⟨O,h.2⟩ q⟩
def Ic(trs:List (TE×TE)):TE:=fun σ H Q=>∀p,H p=Y->re trs σ (upd H p (.dK [])) λps H2=>H2 p=Z (.dK []) /\ ∃kvs:List (Key×V),ps=kvs.map (λkv=>(kV kv.1,kv.2))/\kvs.length<=15/\Q (.ref p) (upd H2 p (.dK (jc [] kvs)))
theorem CZ{X:Cx}{pos:Pos}{keys:List (Option Expr)}{values:List Expr}{trs:List (TE×TE)}(h:JL X pos keys values trs)(b:keys.all (·.isSome)=M)(u:keys.length=values.length)(t:keys≠[])(f:keys.length<=15):PE X (.Dict keys values pos) (Ic trs):=by
 intro ag s σ H Q I q;have p:=I.hok.fresh (nR1 s.heap.objs.size);have j:=I.laid (a:=s.heap.objs.size) (o:=.dK []) (h':=s.heap.push {cls:=.type "dict",data:=.dict #[]}) (t':=s.toks) (λ_ _ q=>hP1 _ q) (nR1 _) (uD s.heap I.big);refine wpAny_Dict_walk (knd:=fe X.prog X.w) b u t f (ft (h ag _ σ _ _ j (q _ p)) λws A ⟨ps,H2,i,g,e,kvs,ep,B,x⟩=>?_);subst ep;obtain⟨rs,c,rk⟩:=pd (P:=X.prog) (w:=X.w) g;obtain⟨z,l,r,n,k⟩:=xp i.hok e;cases n;refine⟨rs,c,k,λh' d v=>⟨.ref s.heap.objs.size,_,?_,O,x⟩⟩;have y:(jc [] kvs).length<=dW:=by
  have h1:=kN kvs [];rw[bg]at h1;rw[No];lia
 have m:∃q,h'.get? s.heap.objs.size=Z q:=let ⟨q,_,_,hq,_⟩:=d;⟨q,hq⟩
 exact kq i (by rw[e];exact Nr) v m (vS y l (rk.merge .nil) d)
structure M1 (X:Cx)(o:Expr)(m:Str)(apos:Pos)(e:Expr)(cpos:Pos):Prop where
 base:NW o m X.env (eval o X.env)=eval o X.env
 few:((MP cpos (dV [e] X.env)).all (λx=> !x.1)&&(backToKw cpos (NX [] X.env)).all (λx=>x.1.isSome)
  && decide (([e]:List Expr).length+([]:List Nw).length+(if([]:List Nw).isEmpty then 0 else 1)<30))=true
 line:(apos.endLine == cpos.line)=true
 trees:MP cpos (dV [e] X.env)=[(false,eval e X.env)]
structure M2 (X:Cx)(o:Expr)(m:Str)(apos:Pos)(e f:Expr)(cpos:Pos):Prop where
 base:NW o m X.env (eval o X.env)=eval o X.env
 few:((MP cpos (dV [e,f] X.env)).all (λx=> !x.1)&&(backToKw cpos (NX [] X.env)).all (λx=>x.1.isSome)
  && decide (([e,f]:List Expr).length+([]:List Nw).length+(if([]:List Nw).isEmpty then 0 else 1)<30))=true
 line:(apos.endLine == cpos.line)=true
 trees:MP cpos (dV [e,f] X.env)=[(false,eval e X.env),(false,eval f X.env)]
def Kg(H:Hp)(a:dP):Prop:=(∃kvs,Rd H a (.dK kvs)) \/ ∃kvs,Rd H a (.dT kvs)
theorem Bd{X:Cx}{ag:List (dP×Obj)}{σ:St}{H:Hp}{s:dN}{a:dP}(I:Inv X ag σ H s)(d:Kg H a):
  s.TypeIs (.ref a) "dict"/\(∀b,Mz a = .ref b -> ∃c,s.heap.get? b=Z c/\c.dict=Y)/\(a == MF)=J:=by
 rcases d with⟨kvs,e⟩|⟨kvs,e⟩
 ·obtain⟨_,g,vs,_,f⟩:=oY I.hok e;refine⟨f.typeIs,λb q=>?_,g⟩;cases q;obtain⟨c,_,_,h1,h2,_⟩:=f;exact⟨c,h1,h2.2.1⟩
 ·obtain⟨_,g,xs,_,f⟩:=qq I.hok e;refine⟨f.typeIs,λb q=>?_,g⟩;cases q;obtain⟨c,_,_,h1,h2,_⟩:=f;exact⟨c,h1,h2.2.1⟩
section
variable{ag:List (dP×Obj)}{σ:St}{H:Hp}{s:dN}{a:dP}{y d:V}{u r:dM}{o:Option V}{A:dR}{E:dM->dN->Prop}
theorem Ho{Q:dM->dN->Prop}(p:A.units+1<Nt)(I:Inv X ag σ H s)(g:pz H a y o)(j:ew y u)(h:∀ m s',Inv X ag σ H s'->ew (o.getD .non) m->Q m s'):
  dX (MN X.prog X.w) A (call (.builtin "dict.get") [.ref a,u]) Q E s:=by
 rcases g with⟨kvs,k,e,f,l⟩|⟨kvs,k,b,e,f,n,l⟩
 ·subst f;obtain⟨z,i,vs,c,d⟩:=oY I.hok e;refine call_meetsIn N5 d.typeIs PySem.F.entry_dict_get (PySem.F.args_dict_get_2 _ _) (meets_dict_get (fe X.prog X.w) a (oJ j) i) ⟨_,d.mapOf,h _ _ (I.tok _) ?_⟩;rw[l];exact(c.val k).getD O
 ·subst f;cases(show u=Mz b from j);obtain⟨z,i,xs,c,d⟩:=qq I.hok e;refine call_meetsIn N5 d.typeIs PySem.F.entry_dict_get (PySem.F.args_dict_get_2 _ _) (meetsH_dict_get (tupleKind (fe X.prog X.w)) a b i) ⟨N4 p,k,xs,oI I.hok n,d,h _ _ (I.tok _) ?_⟩;rw[l];exact(c.val k).getD O
end
noncomputable def Fb(td ty:TE):TE:=fun σ H Q=>td σ H λx H1=>∃a,x = .ref a/\Kg H1 a/\ty σ H1 λy H2=>∃o,pz H2 a y o/\Q (o.getD .non) H2
section
variable{o e f:Expr}{apos cpos:Pos}{td ty tx:TE}
theorem Ai (l:X.A.units+1<Nt)(ho:PE X o td)(he:PE X e ty)(m:M1 X o "get" apos e cpos):PE X (.Call (.Attribute o "get" apos) [e] [] cpos) (Fb td ty):=by
 intro ag s σ H Q I h;refine wpAny_Call_method m.base m.few m.line PySem.F.plainAttrs_dict N5 PySem.F.type_dict_get (ft (ho ag s σ H _ I h) λu q ⟨x,H1,c,r,a,ex,d,f⟩=>?_);subst ex;obtain rfl:u=Mz a:=r;obtain⟨k,i,_⟩:=Bd c d;refine⟨k,i,?_⟩;rw[m.trees];refine NY O (NZ (Nu (ft (he ag q σ H1 _ c f) λw v ⟨y,H2,t,n,B,g,p⟩=>Calls.spliced_nil ?_)));exact Ho l t g n λA z j b=>⟨_,H2,j,b,p⟩
end
section
variable{ag:List (dP×Obj)}{σ:St}{H:Hp}{s:dN}{a:dP}{kvs:List (Key×V)}{A:dR}{E:dM->dN->Prop}
end
section
variable{ag:List (dP×Obj)}{σ:St}{H:Hp}{s:dN}{a:dP}{y:V}{u:dM}{A:dR}{E:dM->dN->Prop}
end
end L2
namespace Mi
open PySem PySem.Spec PyProof.Rows L2
inductive TK where
 |non|int (i:Int)|tup (xs:List TK)
instance:DecidableEq TK:=λ_ _=>Classical.propDecidable _
mutual
noncomputable def TK.hash:TK->Int
 | .non=>0xFCA86420
 | .int i=>hashInt i
 | .tup xs=>reduceHash (N6 (TK.hashes xs))
noncomputable def TK.hashes:List TK->List Int
 |[]=>[]
 |x::xs=>TK.hash x::TK.hashes xs
end
mutual
noncomputable def TK.draws:TK->Nat
 | .non=>1
 | .int _=>1
 | .tup xs=>TK.drawsAll xs+1
noncomputable def TK.drawsAll:List TK->Nat
 |[]=>0
 |x::xs=>TK.draws x+TK.drawsAll xs
end
mutual
noncomputable def TK.dep:TK->Nat
 | .non=>0
 | .int _=>0
 | .tup xs=>TK.depAll xs+1
noncomputable def TK.depAll:List TK->Nat
 |[]=>0
 |x::xs=>max (TK.dep x) (TK.depAll xs)
end
theorem TK.dep_mem:∀{xs:List TK} {x:TK},x∈xs->x.dep<=TK.depAll xs
 |y::ys,x,h=>by
  rw[TK.depAll];rcases aF.mp h with e|e
  ·rw[e];exact Nat.le_max_left _ _
  ·exact aC (TK.dep_mem e) (Nat.le_max_right _ _)
theorem TK.hashes_app:∀a b:List TK,TK.hashes (a++b)=TK.hashes a++TK.hashes b
 |[],_=>rfl
 |x::xs,b=>by rw[bm,TK.hashes,TK.hashes,TK.hashes_app xs b];rfl
theorem TK.draws_app:∀a b:List TK,TK.drawsAll (a++b)=TK.drawsAll a+TK.drawsAll b
 |[],_=>by simp[TK.drawsAll]
 |x::xs,b=>by rw[bm,TK.drawsAll,TK.drawsAll,TK.draws_app xs b,bn]
def Ris(xs:Array Nat):Prop:=xs.toList.Pairwise (· < ·)
noncomputable def Ew(m:Nat):Nat->Nat->Nat->List Nat
 |0,_,_=>[]
 |n+1,i,b=>List.range' i (SetTable.runEnd m i-i+1)++Ew m n (SetTable.leap m i b).1 (SetTable.leap m i b).2
def LN(m:Nat):Prop:=m=7\/m=31\/m=127
def Ky(m:Nat)(h:Int):List Nat:=Ew m (SetTable.turns m) (SetTable.bits h%(m+1)) (SetTable.bits h)
def KA(m:Nat)(occ:List Nat)(h:Int)(j:Nat):Prop:=∃pre post,Ky m h=pre++j::post /\ ∀y∈pre,y∈occ
structure Kz (es:Array (Int×dM))(t:SetTable):Prop where
 mks:LN t.mask
 up:Ris t.place
 du:t.dummies = #[]
 sz:t.place.size=es.size
 le:∀j∈t.place.toList,j<=t.mask
 fl:es.size<=t.mask
 rc:∀z∈t.place.toList.zip es.toList,KA t.mask t.place.toList z.2.1 z.1
noncomputable def stO(es:Array (Int×dM))(ep:Nat)(t:SetTable):Obj:={cls:=.type "set",dict:=Y,data:=.set es ep t,slots:= #[]}
def JK(a:dP)(xs:List (TK×dP×dM))(h:dZ):Prop:=(xs.map (·.1)).Nodup /\ ∃es ep t,h.get? a=Z (stO es ep t)/\Kz es t/\t.tooFull=J/\(∀e∈es.toList,∃z∈xs,e=(z.1.hash,.ref z.2.1))/\(∀z∈xs,(z.1.hash,Mz z.2.1)∈es.toList)/\es.size=xs.length
inductive D where
 |non|bl (b:Bool)|int (i:Int)|str (x:Str)|tup (xs:List D)|rol (xs:List D)|ref (n:Nat)|fn (x:Str)
inductive Ob where
 |lst (xs:List D)|dct (kvs:List (Key×D))|dcT (kvs:List (TK×D))|iset (xs:List Int)|dcF (kvs:List (TK×D))|tst (ks:List TK)
abbrev d7:=List Ob
abbrev Ev:=List (Option D)
abbrev FE:=Ev->d7->Option (D×d7)
abbrev FT:=Ev->d7->Option (Bool×d7)
abbrev FA:=Ev->d7->Option (List D×d7)
abbrev FN:=List D->d7->Option (D×d7)
inductive Fl where
 |nx|rt (d:D)|bk|ct
abbrev FS:=Ev->d7->Option (Fl×Ev×d7)
def RoL(K:Fg1)(H:Hp)(a:dP)(xs:List V):Prop:=(∃o,H a=Z (.frz o (.lst xs))) \/
 ∃(o:Obj) (its:Array dM) (n:Nat),K.lookup a=Z o/\o.cls = .type "list"/\o.dict=Y/\o.data = .seq its n/\its.size<=dW/\eH xs its.toList
theorem RoL.sq{K:Fg1}{H:Hp}{a:dP}{xs:List V}(h:RoL K H a xs):nE K H a xs:=h.elim (λ⟨o,q⟩=>.inl (.inr ⟨o,q⟩)) .inr
mutual
inductive fc (K:Fg1)(H:Hp)(mu:List dP):D->V->Prop
 |non:fc K H mu .non .non
 |bl (b:Bool):fc K H mu (.bl b) (.bl b)
 |int (i:Int):fc K H mu (.int i) (.int i)
 |str (x:Str):fc K H mu (.str x) (.str x)
 |tup {ds:List D} {vs:List V} {a:dP} (h:kC K H a vs) (r:ej K H mu ds vs):fc K H mu (.tup ds) (.ref a)
 |rol {ds:List D} {vs:List V} {a:dP} (h:RoL K H a vs) (r:ej K H mu ds vs):fc K H mu (.rol ds) (.ref a)
 |ref {n:Nat} {a:dP} (h:mu[n]?=some a):fc K H mu (.ref n) (.ref a)
 |fn {x:Str} {a:dP} (h:wN1 K dU x=some (some (.ref a))):fc K H mu (.fn x) (.ref a)
inductive ej (K:Fg1)(H:Hp)(mu:List dP):List D->List V->Prop
 |nil:ej K H mu [] []
 |cons {d:D} {v:V} {ds:List D} {vs:List V} (r:fc K H mu d v) (t:ej K H mu ds vs):ej K H mu (d::ds) (v::vs)
end
structure Ext (mu mu':List dP)(H H':Hp):Prop where
 pre:mu <+: mu'
 old:∀a o,H a=some o->a∉mu->H' a=some o
 tup:∀a xs,Rd H a (.tup xs)->Rd H' a (.tup xs)
 frz:∀a o u,H a=some (.frz o u)->H' a=some (.frz o u)
 new:∀a∈mu',a∈mu\/H a=none
theorem Ext.refl(mu:List dP)(H:Hp):Ext mu mu H H:=⟨bo,λ_ _ h _=>h,λ_ _ h=>h,λ_ _ _ h=>h,λ_ h=>.inl h⟩
theorem Ext.trans{mu m1 m2:List dP}{H H1 H2:Hp}(a:Ext mu m1 H H1)(b:Ext m1 m2 H1 H2):Ext mu m2 H H2 where
 pre:=a.pre.trans b.pre
 old:=λc o h n=>b.old c o (a.old c o h n) λz=>by
  rcases a.new c z with q|q
  ·exact n q
  ·rw[h]at q;cases q
 tup:=λc xs h=>b.tup c xs (a.tup c xs h)
 frz:=λc o u h=>b.frz c o u (a.frz c o u h)
 new:=λc h=>by
  rcases b.new c h with q|q
  ·exact a.new c q
  ·by_cases z:c∈mu
   ·exact .inl z
   ·right;cases e:H c with
    |none=>rfl
    |some o=>rw[a.old c o e z]at q;cases q
theorem Ext.at{mu mu':List dP}{H H':Hp}(e:Ext mu mu' H H'){n:Nat}{a:dP}(h:mu[n]?=Z a):mu'[n]?=Z a:=by
 obtain⟨t,rfl⟩:=e.pre;have b:n<mu.length:=(Px h).1;rw[gL1 b];exact h
theorem Ext.back{mu mu':List dP}{H H':Hp}(e:Ext mu mu' H H'):Ext mu mu H H':=⟨bo,e.old,e.tup,e.frz,λ_ h=>.inl h⟩
structure sN (mu mu':List dP)(H H':Hp):Prop where
 pre:mu <+: mu'
 tup:∀a xs,Rd H a (.tup xs)->Rd H' a (.tup xs)
 frz:∀a o u,H a=some (.frz o u)->H' a=some (.frz o u)
theorem Ext.w{mu mu':List dP}{H H':Hp}(e:Ext mu mu' H H'):sN mu mu' H H':=⟨e.pre,e.tup,e.frz⟩
theorem sN.trans{mu m1 m2:List dP}{H H1 H2:Hp}(a:sN mu m1 H H1)(b:sN m1 m2 H1 H2):sN mu m2 H H2:=⟨a.pre.trans b.pre,λc xs h=>b.tup c xs (a.tup c xs h),λc o u h=>b.frz c o u (a.frz c o u h)⟩
theorem sN.at{mu mu':List dP}{H H':Hp}(e:sN mu mu' H H'){n:Nat}{a:dP}(h:mu[n]?=Z a):mu'[n]?=Z a:=by
 obtain⟨t,rfl⟩:=e.pre;have b:n<mu.length:=(Px h).1;rw[gL1 b];exact h
structure B7 (mu mu':List dP)(H H':Hp):Prop where
 pre:mu <+: mu'
 tup:∀a xs,Rd H a (.tup xs)->Rd H' a (.tup xs)
 frl:∀a o xs,H a=some (.frz o (.lst xs))->H' a=some (.frz o (.lst xs))
theorem sN.v{mu mu':List dP}{H H':Hp}(e:sN mu mu' H H'):B7 mu mu' H H':=⟨e.pre,e.tup,λa o xs h=>e.frz a o _ h⟩
theorem Ext.v{mu mu':List dP}{H H':Hp}(e:Ext mu mu' H H'):B7 mu mu' H H':=e.w.v
theorem B7.at{mu mu':List dP}{H H':Hp}(e:B7 mu mu' H H'){n:Nat}{a:dP}(h:mu[n]?=Z a):mu'[n]?=Z a:=by
 obtain⟨t,rfl⟩:=e.pre;have b:n<mu.length:=(Px h).1;rw[gL1 b];exact h
theorem kC.exv{K:Fg1}{mu mu':List dP}{H H':Hp}{a:dP}{vs:List V}(e:B7 mu mu' H H')(h:kC K H a vs):kC K H' a vs:=by
 rcases h with h|h
 ·exact .inl (e.tup a vs h)
 ·exact .inr h
theorem RoL.exv{K:Fg1}{mu mu':List dP}{H H':Hp}{a:dP}{vs:List V}(e:B7 mu mu' H H')(h:RoL K H a vs):RoL K H' a vs:=by
 rcases h with⟨o,h⟩|h
 ·exact .inl ⟨o,e.frl a o _ h⟩
 ·exact .inr h
theorem fc.exv{K:Fg1}{mu mu':List dP}{H H':Hp}(e:B7 mu mu' H H'):∀ {d:D} {v:V},fc K H mu d v->fc K H' mu' d v:=fun h=>h.rec (motive_1:=fun d v _=>fc K H' mu' d v) (motive_2:=fun ds vs _=>ej K H' mu' ds vs)
  .non .bl .int .str (λh _ ih=>.tup (kC.exv e h) ih) (λh _ ih=>.rol (RoL.exv e h) ih) (λh=>.ref (e.at h)) (λh=>.fn h) .nil (λ_ _ a b=>.cons a b)
theorem ej.ind{K:Fg1}{mu:List dP}{H:Hp}{P:(ds:List D)->(vs:List V)->ej K H mu ds vs->Prop}(hn:P [] [] .nil)(hc:∀{d v ds vs} (r:fc K H mu d v) (t:ej K H mu ds vs),P ds vs t->P (d::ds) (v::vs) (.cons r t)){ds:List D}{vs:List V}(h:ej K H mu ds vs):P ds vs h:=
 h.rec (motive_1:=λ_ _ _=>True) (motive_2:=P) trivial (λ_=>trivial) (λ_=>trivial) (λ_=>trivial) (λ_ _ _=>trivial) (λ_ _ _=>trivial) (λ_=>trivial) (λ_=>trivial) hn (λr t _ ih=>hc r t ih)
theorem ej.exv{K:Fg1}{mu mu':List dP}{H H':Hp}(e:B7 mu mu' H H'):∀{ds:List D} {vs:List V},ej K H mu ds vs->ej K H' mu' ds vs:=λh=>h.ind (P:=λds vs _=>ej K H' mu' ds vs) .nil λr _ ih=>.cons (fc.exv e r) ih
section
variable{K:Fg1}{mu mu':List dP}{H H':Hp}{a:dP}{vs:List V}
theorem fc.exw(e:sN mu mu' H H'){d:D}{v:V}(h:fc K H mu d v):fc K H' mu' d v:=h.exv e.v
theorem ej.exw(e:sN mu mu' H H'){ds:List D}(h:ej K H mu ds vs):ej K H' mu' ds vs:=h.exv e.v
theorem fc.ext(e:Ext mu mu' H H'){d:D}{v:V}(h:fc K H mu d v):fc K H' mu' d v:=h.exv e.v
theorem ej.ext(e:Ext mu mu' H H'){ds:List D}(h:ej K H mu ds vs):ej K H' mu' ds vs:=h.exv e.v
end
section
variable{K:Fg1}{H:Hp}{mu:List dP}
theorem ej.length:∀{ds:List D} {vs:List V},ej K H mu ds vs->ds.length=vs.length:=λh=>h.ind (P:=λds vs _=>ds.length=vs.length) O λ_ _ ih=>congrArg (· + 1) ih
theorem ej.get:∀{ds:List D} {vs:List V} {i:Nat} {d:D},ej K H mu ds vs->ds[i]?=Z d -> ∃v,vs[i]?=Z v/\fc K H mu d v:=by
 intro ds vs i d h e
 induction h using ej.ind generalizing i with
 |hn=>cases e
 |hc r t ih=>cases i with
  |zero=>cases e;exact⟨_,O,r⟩
  |succ i=>exact ih (i:=i) e
theorem ej.getV:∀{ds:List D} {vs:List V} {i:Nat} {v:V},ej K H mu ds vs->vs[i]?=Z v -> ∃d,ds[i]?=Z d/\fc K H mu d v:=by
 intro ds vs i d h e
 induction h using ej.ind generalizing i with
 |hn=>cases e
 |hc r t ih=>cases i with
  |zero=>cases e;exact⟨_,O,r⟩
  |succ i=>exact ih (i:=i) e
theorem ej.append:∀{ds es:List D} {vs ws:List V},ej K H mu ds vs->ej K H mu es ws->ej K H mu (ds++es) (vs++ws):=λh s=>h.ind (P:=λds vs _=>ej K H mu (ds++_) (vs++_)) s λr _ ih=>.cons r ih
theorem ej.take:∀{ds:List D} {vs:List V} (n:Nat),ej K H mu ds vs->ej K H mu (ds.take n) (vs.take n):=by
 intro ds vs n h
 induction h using ej.ind generalizing n with
 |hn=>rw[av,av];exact .nil
 |hc r t ih=>cases n with
  |zero=>exact .nil
  |succ n=>exact .cons r (ih n)
theorem ej.drop:∀{ds:List D} {vs:List V} (n:Nat),ej K H mu ds vs->ej K H mu (ds.drop n) (vs.drop n):=by
 intro ds vs n h
 induction h using ej.ind generalizing n with
 |hn=>rw[aw,aw];exact .nil
 |hc r t ih=>cases n with
  |zero=>exact .cons r t
  |succ n=>exact ih n
theorem ej.set{d:D}{v:V}(r:fc K H mu d v):∀{ds:List D} {vs:List V} (i:Nat),ej K H mu ds vs->ej K H mu (ds.set i d) (vs.set i v):=by
 intro ds vs i h
 induction h using ej.ind generalizing i with
 |hn=>exact .nil
 |hc q t ih=>cases i with
  |zero=>exact .cons r t
  |succ i=>exact .cons q (ih i)
theorem ej.eraseIdx:∀{ds:List D} {vs:List V} (i:Nat),ej K H mu ds vs->ej K H mu (ds.eraseIdx i) (vs.eraseIdx i):=by
 intro ds vs i h
 induction h using ej.ind generalizing i with
 |hn=>exact .nil
 |hc q t ih=>cases i with
  |zero=>exact t
  |succ i=>exact .cons q (ih i)
end
def KR{κ:Type}(K:Fg1)(H:Hp)(mu:List dP):List (κ×D)->List (κ×V)->Prop:=Paired λp q=>p.1=q.1/\fc K H mu p.2 q.2
mutual
noncomputable def lz:TK->D
 | .non=>.non
 | .int i=>.int i
 | .tup xs=>.tup (lw xs)
noncomputable def lw:List TK->List D
 |[]=>[]
 |x::xs=>lz x::lw xs
end
def iM(a:dP)(xs:List (TK×dP×dM))(h:dZ):Prop:=(a == MF)=J/\(xs.map (·.1)).Nodup /\ ∃o es ep,h.get? a=Z o/\o.ExactDict/\o.data = .dict es ep/\es.toList=xs.map λx=>(⟨x.1.hash,.ref x.2.1,x.2.2⟩:N1)
def B2(a:dP)(xs:List (TK×dP×dM))(o:Obj):Prop:=(a == MF)=J/\(xs.map (·.1)).Nodup/\o.ExactDict /\ ∃es ep,o.data = .dict es ep/\es.toList=xs.map λx=>(⟨x.1.hash,.ref x.2.1,x.2.2⟩:N1)
def KT(K:Fg1)(H:Hp)(mu:List dP):List (TK×D)->List (TK×dP×dM)->Prop:=Paired λp q=>p.1=q.1/\p.1.dep<=8/\fc K H mu (lz p.1) (.ref q.2.1) /\ ∃v,ew v q.2.2/\fc K H mu p.2 v
def nv(K:Fg1)(H:Hp)(mu:List dP)(a:dP):Ob->Prop
 | .lst ds=>∃vs,H a=Z (.lst vs)/\ej K H mu ds vs
 | .dct kvs=>∃ws,H a=Z (.dK ws)/\KR K H mu kvs ws
 | .dcT kvs=>∃xs,H a=Z (.ext (iM a xs))/\KT K H mu kvs xs/\xs.length<=dW
 | .iset xs=>H a=Z (.set (λk=>xs.contains k) xs.length)/\xs.Nodup
 | .dcF kvs=>∃xs,(∃o u,H a=Z (.frz o u)/\B2 a xs o)/\KT K H mu kvs xs/\xs.length<=dW
 | .tst ks=>∃xs,H a=Z (.ext (JK a xs))/\KT K H mu (ks.map λk=>(k,D.non)) xs
structure Sim (K:Fg1)(H:Hp)(mu:List dP)(S:d7):Prop where
 len:mu.length=S.length
 nd:mu.Nodup
 ob:∀(n:Nat) (o:Ob) (a:dP),S[n]?=some o->mu[n]?=some a->nv K H mu a o
structure fN (K:Fg1)(H:Hp)(mu:List dP)(r:Ev)(σ:L2.St):Prop where
 len:r.length=σ.length
 val:∀(i:Nat) (d:D),r[i]?=some (some d) -> ∃v,σ[i]?=some (some v)/\fc K H mu d v
theorem fN.ext{K:Fg1}{mu mu':List dP}{H H':Hp}{r:Ev}{σ:L2.St}(e:Ext mu mu' H H')(h:fN K H mu r σ):fN K H' mu' r σ:=⟨h.len,λi d q=>by
 obtain⟨v,b,a⟩:=h.val i d q;exact⟨v,b,a.ext e⟩⟩
theorem KR.ext{κ:Type}{K:Fg1}{mu mu':List dP}{H H':Hp}{ks:List (κ×D)}{ws:List (κ×V)}(e:Ext mu mu' H H')(h:KR K H mu ks ws):KR K H' mu' ks ws:=
 Paired.mapP h λ_ _ z=>⟨z.1,z.2.ext e⟩
theorem KT.ext{K:Fg1}{mu mu':List dP}{H H':Hp}{ks:List (TK×D)}{ws:List (TK×dP×dM)}(e:Ext mu mu' H H')(h:KT K H mu ks ws):KT K H' mu' ks ws:=
 Paired.mapP h λ_ _ ⟨z,d,k,v,a,r⟩=>⟨z,d,k.ext e,v,a,r.ext e⟩
theorem Sim.nil{K:Fg1}{H:Hp}:Sim K H [] []:=⟨O,bp,λn o a h=>by simp at h⟩
theorem Sim.here{K:Fg1}{H:Hp}{mu:List dP}{S:d7}(s:Sim K H mu S){a:dP}(h:a∈mu):∃o,H a=Z o:=by
 obtain⟨n,b⟩:=bq h;have c:n<S.length:=by rw[<- s.len];exact(Px b).1
 have q:=s.ob n _ a (gG1 c) b;cases e:S[n]with
 |lst ds=>rw[e]at q;obtain⟨vs,z,_⟩:=q;exact⟨_,z⟩
 |dct ks=>rw[e]at q;obtain⟨vs,z,_⟩:=q;exact⟨_,z⟩
 |dcT ks=>rw[e]at q;obtain⟨vs,z,_⟩:=q;exact⟨_,z⟩
 |iset xs=>rw[e]at q;exact⟨_,q.1⟩
 |dcF ks=>rw[e]at q;obtain⟨vs,⟨_,_,z,_⟩,_⟩:=q;exact⟨_,z⟩
 |tst ks=>rw[e]at q;obtain⟨vs,z,_⟩:=q;exact⟨_,z⟩
def sL(K:Fg1)(mu:List dP)(H:Hp)(d:D)(S':d7)(Q:VK):Prop:=∀v H' mu',Ext mu mu' H H'->fc K H' mu' d v->Sim K H' mu' S'->Q v H'
inductive tM (K:Fg1)(m:FE)(σ:L2.St)(H:Hp)(Q:VK):Prop
 |mk (r:Ev) (mu:List dP) (S:d7) (d:D) (S':d7) (he:fN K H mu r σ) (hs:Sim K H mu S) (hm:m r S=some (d,S')) (hc:sL K mu H d S' Q)
inductive zu (K:Fg1)(m:FT)(σ:L2.St)(H:Hp)(Q:Bool->Hp->Prop):Prop
 |mk (r:Ev) (mu:List dP) (S:d7) (b:Bool) (S':d7) (he:fN K H mu r σ) (hs:Sim K H mu S) (hm:m r S=some (b,S')) (hc:∀H' mu',Ext mu mu' H H'->Sim K H' mu' S'->Q b H')
inductive Li (K:Fg1)(m:FA)(σ:L2.St)(H:Hp)(Q:List V->Hp->Prop):Prop
 |mk (r:Ev) (mu:List dP) (S:d7) (ds:List D) (S':d7) (he:fN K H mu r σ) (hs:Sim K H mu S) (hm:m r S=some (ds,S')) (hc:∀vs H' mu',Ext mu mu' H H'->ej K H' mu' ds vs->Sim K H' mu' S'->Q vs H')
def Kq(K:Fg1)(mu:List dP)(H:Hp)(r':Ev)(S':d7)(E:jr)(f:Fl):Prop:=match f with
 | .nx=>∀ σ' H' mu',Ext mu mu' H H'->fN K H' mu' r' σ'->Sim K H' mu' S'->E.nx σ' H'
 | .bk=>∀ σ' H' mu',Ext mu mu' H H'->fN K H' mu' r' σ'->Sim K H' mu' S'->E.bk σ' H'
 | .ct=>∀ σ' H' mu',Ext mu mu' H H'->fN K H' mu' r' σ'->Sim K H' mu' S'->E.ct σ' H'
 | .rt d=>sL K mu H d S' E.rt
inductive wv (K:Fg1)(m:FS)(E:jr)(σ:L2.St)(H:Hp):Prop
 |mk (r:Ev) (mu:List dP) (S:d7) (f:Fl) (r':Ev) (S':d7) (he:fN K H mu r σ) (hs:Sim K H mu S) (hm:m r S=some (f,r',S')) (hc:Kq K mu H r' S' E f)
inductive rN (K:Fg1)(f:FN)(vs:List V)(H:Hp)(Q:VK):Prop
 |mk (mu:List dP) (S:d7) (ds:List D) (d:D) (S':d7) (hr:ej K H mu ds vs) (hs:Sim K H mu S) (hm:f ds S=some (d,S')) (hc:sL K mu H d S' Q)
abbrev ME(X:Cx)(e:Expr)(m:FE):Prop:=PE X e (tM X.K m)
abbrev MT(X:Cx)(e:Expr)(m:FT):Prop:=PT X e (zu X.K m)
abbrev MW(X:Cx)(e:Expr)(m:FT):Prop:=PW X e (zu X.K m)
abbrev MA(X:Cx)(es:List Expr)(m:FA):Prop:=PA X es (Li X.K m)
abbrev MS(X:Cx)(st:d3)(m:FS):Prop:=PS X st (wv X.K m)
abbrev yN(X:Cx)(st:List d3)(m:FS):Prop:=u6 X st (wv X.K m)
variable{X:Cx}
section
variable{e:Expr}{es:List Expr}{st:d3}{sts:List d3}
theorem ff{t t':TE}(h:PE X e t)(i:∀ σ H Q,t' σ H Q->t σ H Q):PE X e t':=λag s σ H Q I q=>h ag s σ H Q I (i σ H Q q)
theorem rz{t t':TT}(h:PT X e t)(i:∀ σ H Q,t' σ H Q->t σ H Q):PT X e t':=λag s σ H Q I q=>h ag s σ H Q I (i σ H Q q)
theorem zQ{t t':TT}(h:PW X e t)(i:∀ σ H Q,t' σ H Q->t σ H Q):PW X e t':=λa ag s σ H Q I q=>h a ag s σ H Q I (i σ H Q q)
theorem Ak{t t':TA}(h:PA X es t)(i:∀ σ H Q,t' σ H Q->t σ H Q):PA X es t':=λpos ag s σ H Q I q=>h pos ag s σ H Q I (i σ H Q q)
theorem ij{t t':TS}(h:PS X st t)(i:∀E σ H,t' E σ H->t E σ H):PS X st t':=λag s σ H E I q=>h ag s σ H E I (i E σ H q)
theorem rA{t t':TS}(h:u6 X sts t)(i:∀E σ H,t' E σ H->t E σ H):u6 X sts t':=λag s σ H E I q=>h ag s σ H E I (i E σ H q)
end
noncomputable def mV (i:Nat):FE:=λr S=>match r[i]? with
 |some (some d)=>some (d,S)
 |_=>none
noncomputable def mC (d:D):FE:=λ_ S=>some (d,S)
section
variable{pos:Pos}
theorem GE (i:Nat){x:Str}(hN:X.N[i]?=Z x)(hv:Vis X.env.scope x)(hd:autoParam ((x == ("__debug__":Str))=J) bu0)(hcd:autoParam ((x == ("__classdict__":Str))=J) bu0):ME X (.Name x pos) (mV i):=
 ff (Ae hN hv hd hcd) <| by
  rintro σ H Q ⟨r,mu,S,d,j,c,f,a,hc⟩;unfold mV at a;split at a
  ·rename_i h e;cases a;obtain⟨v,b,g⟩:=c.val i _ e;exact⟨v,b,hc v H mu (.refl _ _) g f⟩
  ·cases a
theorem GN{e:Expr}{v:V}(d:D)(h:PE X e (tC v))(hr:∀H mu,fc X.K H mu d v):ME X e (mC d):=
 ff h <| by
  rintro σ H Q ⟨r,mu,S,c,g,f,a,b,hc⟩;cases b;exact hc v H mu (.refl _ _) (hr H mu) a
theorem GL{i:Int}{j}:ME X (.Constant (.int i) j pos) (mC (.int i)):=GN _ F7 λ_ _=>.int i
theorem IU{b:Bool}{j}:ME X (.Constant (.bool b) j pos) (mC (.bl b)):=GN _ IA λ_ _=>.bl b
theorem GJ{j}:ME X (.Constant .none j pos) (mC .non):=GN _ F5 λ_ _=>.non
end
def d6:FA:=λ_ S=>Z ([],S)
noncomputable def d5 (m:FE)(n:FA):FA:=λr S=>(m r S).bind λp=>(n r p.2).bind λq=>some (p.1::q.1,q.2)
section
variable{pos:Pos}{e:Expr}{es:List Expr}{m:FE}{n:FA}
theorem GQ:MA X [] d6:=Ak rE <| by
 rintro σ H Q ⟨r,mu,S,ds,d,c,a,b,hc⟩;cases b;exact hc [] H mu (.refl _ _) .nil a
theorem Dr(h:ME X e m)(ht:MA X es n)(hs:autoParam (dV (e::es) X.env=(J,eval e X.env)::dV es X.env) cu0):MA X (e::es) (d5 m n):=
 Ak (lU h ht hs) <| by
  rintro σ H Q ⟨r,mu,S,ds,t,g,hs,a,hc⟩;unfold d5 at a;obtain⟨⟨d,j⟩,k,a⟩:=Py a;obtain⟨⟨b,s⟩,q,a⟩:=Py a;cases a;refine⟨r,mu,S,d,j,g,hs,k,λv H1 mu1 i o p=>?_⟩;refine⟨r,mu1,j,b,_,g.ext i,p,q,λvs H2 c f r2 l=>?_⟩;exact hc _ H2 c (i.trans f) (.cons (o.ext f) r2) l
end
noncomputable def m2 (f:FN)(a b:FE):FE:=λr S=>(a r S).bind λp=>(b r p.2).bind λq=>f [p.1,q.1] q.2
noncomputable def m1 (f:FN)(a:FE):FE:=λr S=>(a r S).bind λp=>f [p.1] p.2
noncomputable def mN (f:FN)(a:FA):FE:=λr S=>(a r S).bind λp=>f p.1 p.2
abbrev r2(K:Fg1)(f:FN):R2:=λx y H Q=>rN K f [x,y] H Q
section
variable{K:Fg1}{f:FN}{a b:FE}{σ:L2.St}{H:Hp}{Q:VK}
theorem wQ(h:tM K (m2 f a b) σ H Q):HZ (r2 K f) (tM K a) (tM K b) σ H Q:=by
 obtain⟨r,mu,S,d,s,n,A,c,hc⟩:=h;obtain⟨⟨j,m⟩,p,c⟩:=Py c;obtain⟨⟨l,k⟩,t,c⟩:=Py c;refine⟨r,mu,S,j,m,n,A,p,λv H1 mu1 o x C=>?_⟩;refine⟨r,mu1,m,l,k,n.ext o,C,t,λu H2 g i r2 w=>?_⟩;exact⟨g,k,[j,l],d,s,.cons (x.ext i) (.cons r2 .nil),w,c,λv y e B z q=>hc v y e ((o.trans i).trans B) z q⟩
theorem IY(h:tM K (m1 f a) σ H Q):Lh (λx H Q=>rN K f [x] H Q) (tM K a) σ H Q:=by
 obtain⟨r,mu,S,d,s,j,n,c,hc⟩:=h;obtain⟨⟨e,g⟩,i,c⟩:=Py c;refine⟨r,mu,S,e,g,j,n,i,λv H1 mu1 k p t=>?_⟩;exact⟨mu1,g,[e],d,s,.cons p .nil,t,c,λv m b q l o=>hc v m b (k.trans q) l o⟩
theorem AM{a:FA}(h:tM K (mN f a) σ H Q):Li K a σ H λvs H1=>rN K f vs H1 Q:=by
 obtain⟨r,mu,S,d,s,j,n,c,hc⟩:=h;obtain⟨⟨e,g⟩,i,c⟩:=Py c;refine⟨r,mu,S,e,g,j,n,i,λv H1 mu1 k p t=>?_⟩;exact⟨mu1,g,e,d,s,p,t,c,λv m b q l o=>hc v m b (k.trans q) l o⟩
theorem IR{op:M0}{x y:Expr}{pos:Pos}(ho:gI X (Nk op) (r2 X.K f))(hx:ME X x a)(hy:ME X y b):ME X (.BinOp x op y pos) (m2 f a b):=ff (Ix ho hx hy) λ_ _ _=>wQ
theorem IQ{op:UnaryOp}{x:Expr}{pos:Pos}(ho:HM X (unaryOp op) (λx H Q=>rN X.K f [x] H Q))(hx:ME X x a):ME X (.UnaryOp op x pos) (m1 f a):=ff (Iw ho hx) λ_ _ _=>IY
theorem GM{op:Nm}{x y:Expr}{pos:Pos}(ho:gI X (Nl op) (r2 X.K f))(hx:ME X x a)(hy:ME X y b)(hm:Nn op y=J):ME X (.Compare x [op] [y] pos) (m2 f a b):=ff (C1 ho hx hy hm) λ_ _ _=>wQ
theorem IS{x y:Expr}{pos:Pos}(ho:EQ X (r2 X.K f))(hx:ME X x a)(hy:ME X y b)(hs:nU y):ME X (.Subscript x y pos) (m2 f a b):=ff (Iy ho hx hy hs) λ_ _ _=>wQ
theorem AK {x:Str}{p pos:Pos}{e:Expr}{es:List Expr}{id:String}{a:FA}(hc:fi X (.builtin id) (rN X.K f))(hg:Gl X x)(hm:X.mg x=none)(hv:MH x=some (.builtin id))(ha:MA X (e::es) a)(hn:autoParam (x≠"__name__") bu0)(hdb:autoParam ((x == ("__debug__":Str))=false) bu0)
  (he:autoParam (dV (e::es) X.env=(J,eval e X.env)::dV es X.env) cu0) (hpl:autoParam ((MP pos (dV es X.env)).any (·.1)=J) cu0):ME X (.Call (.Name x p) (e::es) [] pos) (mN f a):=
 ff (tL hc hg hm hv ha hn hdb he hpl) λ_ _ _=>AM
theorem yn {x:Str}{p pos:Pos}{e:Expr}{es:List Expr}{T:String}{a:FA}(hc:fi X (.type T) (rN X.K f))(hg:Gl X x)(hm:X.mg x=none)(hv:MH x=some (.type T))(ha:MA X (e::es) a)(hn:autoParam (x≠"__name__") bu0)(hdb:autoParam ((x == ("__debug__":Str))=false) bu0)
  (he:autoParam (dV (e::es) X.env=(J,eval e X.env)::dV es X.env) cu0) (hpl:autoParam ((MP pos (dV es X.env)).any (·.1)=J) cu0):ME X (.Call (.Name x p) (e::es) [] pos) (mN f a):=
 ff (mJ hc hg hm hv ha hn hdb he hpl) λ_ _ _=>AM
end
noncomputable def mB (m:FE):FT:=λr S=>(m r S).bind λp=>match p.1 with
 | .bl b=>some (b,p.2)
 |_=>none
theorem EE{K:Fg1}{m:FE}{σ:L2.St}{H:Hp}{Q:Bool->Hp->Prop}(h:zu K (mB m) σ H Q):tB (tM K m) σ H Q:=by
 obtain⟨r,mu,S,b,l,d,f,a,hc⟩:=h;obtain⟨⟨j,n⟩,c,a⟩:=Py a;cases j with
 |bl k=>
  cases a;refine⟨r,mu,S,_,_,d,f,c,λv H1 mu1 e g i=>?_⟩;cases g;exact⟨_,O,hc H1 mu1 e i⟩
 |_=>cases a
noncomputable def rW(a b:FT):FT:=λr S=>(a r S).bind λp=>if p.1=M then b r p.2 else Z (J,p.2)
noncomputable def mOr(a b:FT):FT:=λr S=>(a r S).bind λp=>if p.1=M then Z (M,p.2)else b r p.2
def rT(a:FT):FT:=λr S=>(a r S).bind λp=>Z (!p.1,p.2)
noncomputable def kM(a b:FE):FE:=λr S=>(a r S).bind λp=>match p.1 with
 | .bl c=>if c=M then b r p.2 else Z (.bl J,p.2)
 |_=>Y
noncomputable def L7(a b:FE):FE:=λr S=>(a r S).bind λp=>match p.1 with
 | .bl c=>if c=M then Z (.bl M,p.2)else b r p.2
 |_=>Y
noncomputable def t8(a:FE):FE:=λr S=>(a r S).bind λp=>match p.1 with
 | .bl c=>Z (.bl (!c),p.2)
 |_=>Y
noncomputable def IW(c:FT)(a b:FE):FE:=λr S=>(c r S).bind λp=>if p.1=M then a r p.2 else b r p.2
section
variable{x y c:Expr}{rest:List Expr}{pos:Pos}{a b:FT}{f g:FE}
theorem Gq{op:Nm}{f:FN}{a b:FE}(ho:gI X (Nl op) (r2 X.K f))(hx:ME X x a)(hy:ME X y b)(hm:Nn op y=J):MT X (.Compare x [op] [y] pos) (mB (m2 f a b)):=
 rz (CK ho hx hy hm) fun σ H Q h=>by
  obtain⟨r,mu,S,d,j,c,g,hm,hc⟩:=EE h;exact wQ ⟨r,mu,S,d,j,c,g,hm,λv H' mu' e i k=>hc v H' mu' e i k⟩
theorem Dd(ha:MT X x a):MW X (.BoolOp .And [x] pos) a:=CF ha
theorem Gn(ha:MT X x a):MW X (.BoolOp .Or [x] pos) a:=FC ha
theorem Go(ha:MT X x a)(hb:MW X (.BoolOp .And (y::rest) pos) b):MW X (.BoolOp .And (x::y::rest) pos) (rW a b):=
 zQ (FD ha hb) <| by
  rintro σ H Q ⟨r,mu,S,k,n,f,m,c,hc⟩;obtain⟨⟨b1,h⟩,j,c⟩:=Py c;refine⟨r,mu,S,b1,h,f,m,j,λH1 mu1 d g=>?_⟩;cases b1 with
  |true=>exact⟨r,mu1,h,k,n,f.ext d,g,c,λH2 e i l=>hc H2 e (d.trans i) l⟩
  |false=>cases c;exact hc H1 mu1 d g
theorem IM(ha:MT X x a)(hb:MW X (.BoolOp .Or (y::rest) pos) b):MW X (.BoolOp .Or (x::y::rest) pos) (mOr a b):=
 zQ (Ip ha hb) <| by
  rintro σ H Q ⟨r,mu,S,k,n,f,m,c,hc⟩;obtain⟨⟨b1,h⟩,j,c⟩:=Py c;refine⟨r,mu,S,b1,h,f,m,j,λH1 mu1 d g=>?_⟩;cases b1 with
  |false=>exact⟨r,mu1,h,k,n,f.ext d,g,c,λH2 e i l=>hc H2 e (d.trans i) l⟩
  |true=>cases c;exact hc H1 mu1 d g
theorem KL(h:MW X x a):MT X x a:=PW.pt h
theorem Gp(ha:MT X x a):MT X (.UnaryOp .Not x pos) (rT a):=
 rz (FH ha) <| by
  rintro σ H Q ⟨r,mu,S,k,i,d,f,b,hc⟩;obtain⟨⟨b1,h⟩,c,b⟩:=Py b;cases b;exact⟨r,mu,S,b1,h,d,f,c,λH1 mu1 e g=>hc H1 mu1 e g⟩
theorem GH{op}(h:ME X x f):ME X (.BoolOp op [x] pos) f:=F3 h
theorem GO(ha:ME X x f)(hb:ME X (.BoolOp .And (y::rest) pos) g):ME X (.BoolOp .And (x::y::rest) pos) (kM f g):=
 ff (F9 ha hb) <| by
  rintro σ H Q ⟨r,mu,S,k,q,d,o,a,hc⟩;obtain⟨⟨h,i⟩,l,a⟩:=Py a;refine⟨r,mu,S,h,i,d,o,l,λv H1 mu1 b p e=>?_⟩;cases h with
  |bl b1=>
   cases p;refine⟨b1,O,?_⟩;cases b1 with
   |true=>exact⟨r,mu1,i,k,q,d.ext b,e,a,λn H2 c j r2 m=>hc n H2 c (b.trans j) r2 m⟩
   |false=>cases a;exact hc _ H1 mu1 b (.bl J) e
  |_=>cases a
theorem GI(ha:ME X x f):ME X (.UnaryOp .Not x pos) (t8 f):=
 ff (F4 ha) <| by
  rintro σ H Q ⟨r,mu,S,k,l,d,g,a,hc⟩;obtain⟨⟨b,j⟩,c,a⟩:=Py a;refine⟨r,mu,S,b,j,d,g,c,λv H1 mu1 e h i=>?_⟩;cases b with
  |bl b1=>
   cases h;cases a;exact⟨b1,O,hc _ H1 mu1 e (.bl _) i⟩
  |_=>cases a
theorem IT(hc:MT X c a)(hx:ME X x f)(hy:ME X y g):ME X (.IfExp c x y pos) (IW a f g):=
 ff (Ag hc hx hy) <| by
  rintro σ H Q ⟨r,mu,S,k,n,j,q,e,hc⟩;obtain⟨⟨b1,m⟩,p,e⟩:=Py e;refine⟨r,mu,S,b1,m,j,q,p,λH1 mu1 d o=>?_⟩;cases b1 with
  |true=>exact⟨r,mu1,m,k,n,j.ext d,o,e,λl H2 b h r2 i=>hc l H2 b (d.trans h) r2 i⟩
  |false=>exact⟨r,mu1,m,k,n,j.ext d,o,e,λl H2 b h r2 i=>hc l H2 b (d.trans h) r2 i⟩
end
noncomputable def mCh(f g:FN)(a b c:FE):FE:=λr S=>(a r S).bind λp=>(b r p.2).bind λq=>(f [p.1,q.1] q.2).bind λt=>match t.1 with
 | .bl k=>if k=M then(c r t.2).bind λz=>g [q.1,z.1] z.2 else Z (.bl J,t.2)
 |_=>Y
section
variable{x y z:Expr}{pos:Pos}{f g:FN}{a b c:FE}{op op':Nm}
theorem AQ{K:Fg1}{σ:L2.St}{H:Hp}{Q:VK}(h:tM K (mCh f g a b c) σ H Q):vh (r2 K f) (r2 K g) (tM K a) (tM K b) (tM K c) σ H Q:=by
 obtain⟨r,mu,S,d,D,p,R,e,hc⟩:=h;obtain⟨⟨w,z⟩,C,e⟩:=Py e;obtain⟨⟨o,x⟩,E,e⟩:=Py e;obtain⟨⟨v,A⟩,I,e⟩:=Py e;refine⟨r,mu,S,w,z,p,R,C,λwq H1 mu1 l am U=>?_⟩;refine⟨r,mu1,z,o,x,p.ext l,U,E,λv2 H2 q j r2 G=>?_⟩;refine⟨q,x,[w,o],v,A,.cons (am.ext j) (.cons r2 .nil),G,I,λaq ao i m P u=>?_⟩;cases v with
 |bl k=>
  cases P;refine⟨k,O,?_⟩;cases k with
  |false=>cases e;exact hc _ ao i ((l.trans j).trans m) (.bl J) u
  |true=>
   obtain⟨⟨B,y⟩,N,e⟩:=Py e;refine⟨r,i,A,B,y,p.ext ((l.trans j).trans m),u,N,λv4 H4 s t V F=>?_⟩;exact⟨s,y,[o,B],d,D,.cons ((r2.ext m).ext t) (.cons V .nil),F,e,λX au n T L W=>hc X au n ((((l.trans j).trans m).trans t).trans T) L W⟩
 |_=>cases e
theorem AH(ho:gI X (Nl op) (r2 X.K f))(ho':gI X (Nl op') (r2 X.K g))(hx:ME X x a)(hy:ME X y b)(hz:ME X z c)(hm:autoParam (lastMarks [op,op'] [y,z]=false) Aj._auto_1):
  ME X (.Compare x [op,op'] [y,z] pos) (mCh f g a b c):=ff (Aj ho ho' hx hy hz hm) λ_ _ _=>AQ
theorem Az(ho:gI X (Nl op) (r2 X.K f))(ho':gI X (Nl op') (r2 X.K g))(hx:ME X x a)(hy:ME X y b)(hz:ME X z c)(hm:autoParam (lastMarks [op,op'] [y,z]=false) Aj._auto_1):
  MT X (.Compare x [op,op'] [y,z] pos) (mB (mCh f g a b c)):=
 rz (zS ho ho' hx hy hz hm) fun σ H Q h=>by
  obtain⟨r,mu,S,d,l,e,j,hm,hc⟩:=EE h;exact AQ ⟨r,mu,S,d,l,e,j,hm,λv H' mu' i k m=>hc v H' mu' i k m⟩
end
mutual
noncomputable def D.und(n:Nat):D->Bool
 | .tup xs=>D.unds n xs
 | .rol xs=>D.unds n xs
 | .ref k=>decide (k<n)
 | .non=>M
 | .bl _=>M
 | .int _=>M
 | .str _=>M
 | .fn _=>M
noncomputable def D.unds(n:Nat):List D->Bool
 |[]=>M
 |d::ds=>D.und n d&&D.unds n ds
end
noncomputable def D.sames(a b:List D):Bool:=@decide (a=b) (Classical.propDecidable _)
theorem D.sames_eq{a b:List D}(h:D.sames a b=M):a=b:=@N7 _ (Classical.propDecidable _) h
theorem D.sames_refl(a:List D):D.sames a a=M:=@decide_eq_true _ (Classical.propDecidable _) O
section
variable{K:Fg1}{H:Hp}{mu mu':List dP}
theorem fc.cut{n:Nat}(h:∀ k,k<n->mu[k]? = mu'[k]?):∀ {d:D} {v:V},fc K H mu d v->d.und n=true->fc K H mu' d v:=fun c=>c.rec (motive_1:=fun d v _=>d.und n=true->fc K H mu' d v) (motive_2:=fun ds vs _=>D.unds n ds=true->ej K H mu' ds vs)
  (λ_=>.non) (λb _=>.bl b) (λi _=>.int i) (λx _=>.str x) (λq _ ih e=>.tup q (ih (by rw[D.und]at e;exact e))) (λq _ ih e=>.rol q (ih (by rw[D.und]at e;exact e)))
  (λq e=>.ref (by rw[D.und]at e;rw[<- h _ (N7 e)];exact q)) (λq _=>.fn q) (λ_=>.nil) (λ_ _ a b e=>by rw[D.unds,bA1]at e;exact .cons (a e.1) (b e.2))
theorem ej.cut{n:Nat}(h:∀k,k<n->mu[k]?=mu'[k]?):∀{ds:List D} {vs:List V},ej K H mu ds vs->D.unds n ds=M->ej K H mu' ds vs:=λa=>a.ind (P:=λds vs _=>D.unds n ds=M->ej K H mu' ds vs) (λ_=>.nil) λr _ b e=>by rw[D.unds,bA1]at e;exact .cons (fc.cut h r e.1) (b e.2)
end
noncomputable def Ob.und(n:Nat):Ob->Bool
 | .lst xs=>D.unds n xs
 | .dct kvs=>D.unds n (kvs.map (·.2))
 | .dcT kvs=>D.unds n (kvs.map (·.2))
 | .iset _=>M
 | .dcF kvs=>D.unds n (kvs.map (·.2))
 | .tst _=>M
theorem KR.cut{κ:Type}{K:Fg1}{H:Hp}{mu mu':List dP}{n:Nat}(h:∀k,k<n->mu[k]?=mu'[k]?):∀{ks:List (κ×D)} {ws:List (κ×V)},KR K H mu ks ws->D.unds n (ks.map (·.2))=M->KR K H mu' ks ws:=by
 intro ks ws a e
 induction a with
 |nil=>exact .nil
 |cons r t ih=>
  rw[mP1,D.unds,bA1]at e;exact .cons ⟨r.1,r.2.cut h e.1⟩ (ih e.2)
mutual
theorem zo(n:Nat):∀k:TK,(lz k).und n=M
 | .non=>rfl
 | .int _=>rfl
 | .tup xs=>by rw[lz,D.und];exact wp n xs
theorem wp(n:Nat):∀ks:List TK,D.unds n (lw ks)=M
 |[]=>rfl
 |x::xs=>by rw[lw,D.unds,zo n x,wp n xs];rfl
end
theorem KT.cut{K:Fg1}{H:Hp}{mu mu':List dP}{n:Nat}(h:∀k,k<n->mu[k]?=mu'[k]?):∀{ks:List (TK×D)} {ws:List (TK×dP×dM)},KT K H mu ks ws->D.unds n (ks.map (·.2))=M->KT K H mu' ks ws:=by
 intro ks ws a e
 induction a with
 |nil=>exact .nil
 |cons r t ih=>
  rw[mP1,D.unds,bA1]at e;obtain⟨z,d,k,v,b,r⟩:=r;exact .cons ⟨z,d,k.cut h (zo n _),v,b,r.cut h e.1⟩ (ih e.2)
theorem wL(n:Nat):∀ks:List TK,D.unds n ((ks.map λk=>(k,D.non)).map (·.2))=M
 |[]=>rfl
 |_::ks=>by rw[mP1,mP1,D.unds,wL n ks];rfl
theorem nv.cut{K:Fg1}{H:Hp}{mu mu':List dP}{n:Nat}{a:dP}(h:∀k,k<n->mu[k]?=mu'[k]?):∀{o:Ob},nv K H mu a o->o.und n=M->nv K H mu' a o
 | .lst _,⟨vs,e,r⟩,b=>⟨vs,e,r.cut h b⟩
 | .dct _,⟨ws,e,r⟩,b=>⟨ws,e,KR.cut h r b⟩
 | .dcT _,⟨ws,e,r,l⟩,b=>⟨ws,e,KT.cut h r b,l⟩
 | .iset _,q,_=>q
 | .dcF _,⟨ws,e,r,l⟩,b=>⟨ws,e,KT.cut h r b,l⟩
 | .tst ks,⟨ws,e,r⟩,_=>⟨ws,e,KT.cut h r (wL n ks)⟩
def gc(n:Nat)(p:D×d7):D×d7:=if p.1.und n&&(p.2.take n).all (Ob.und n)then(p.1,p.2.take n)else p
mutual
noncomputable def D.sh(n:Nat):D->D
 | .tup xs=>.tup (D.shs n xs)
 | .rol xs=>.rol (D.shs n xs)
 | .ref k=>.ref (n+k)
 | .fn x=>.fn x
 | .non=>.non
 | .bl b=>.bl b
 | .int i=>.int i
 | .str x=>.str x
noncomputable def D.shs(n:Nat):List D->List D
 |[]=>[]
 |d::ds=>D.sh n d::D.shs n ds
end
def Ob.sh(n:Nat):Ob->Ob
 | .lst xs=>.lst (D.shs n xs)
 | .dct kvs=>.dct (kvs.map λp=>(p.1,p.2.sh n))
 | .dcT kvs=>.dcT (kvs.map λp=>(p.1,p.2.sh n))
 | .iset xs=>.iset xs
 | .dcF kvs=>.dcF (kvs.map λp=>(p.1,p.2.sh n))
 | .tst ks=>.tst ks
theorem fc.sh{K:Fg1}{H:Hp}{mu mu':List dP}:∀ {d:D} {v:V},fc K H mu' d v->fc K H (mu++mu') (d.sh mu.length) v:=fun c=>c.rec (motive_1:=fun d v _=>fc K H (mu++mu') (d.sh mu.length) v) (motive_2:=fun ds vs _=>ej K H (mu++mu') (D.shs mu.length ds) vs)
  .non .bl .int .str (λh _ ih=>.tup h ih) (λh _ ih=>.rol h ih) (λh=>.ref (by rw[gR1 (br _ _),bu];exact h)) (λh=>.fn h) .nil (λ_ _ a b=>.cons a b)
theorem ej.sh{K:Fg1}{H:Hp}{mu mu':List dP}:∀{ds:List D} {vs:List V},ej K H mu' ds vs->ej K H (mu++mu') (D.shs mu.length ds) vs:=λh=>h.ind (P:=λds vs _=>ej K H (mu++mu') (D.shs mu.length ds) vs) .nil λr _ ih=>.cons (fc.sh r) ih
theorem KR.sh{κ:Type}{K:Fg1}{H:Hp}{mu mu':List dP}:∀{ks:List (κ×D)} {ws:List (κ×V)},KR K H mu' ks ws->KR K H (mu++mu') (ks.map λp=>(p.1,p.2.sh mu.length)) ws:=by
 intro ks ws h
 induction h with
 |nil=>exact .nil
 |cons r t ih=>exact .cons ⟨r.1,r.2.sh⟩ ih
mutual
theorem Er(n:Nat):∀k:TK,(lz k).sh n=lz k
 | .non=>rfl
 | .int _=>rfl
 | .tup xs=>by rw[lz,D.sh,zm n xs]
theorem zm(n:Nat):∀ks:List TK,D.shs n (lw ks)=lw ks
 |[]=>rfl
 |x::xs=>by rw[lw,D.shs,Er n x,zm n xs]
end
theorem KT.sh{K:Fg1}{H:Hp}{mu mu':List dP}:∀{ks:List (TK×D)} {ws:List (TK×dP×dM)},KT K H mu' ks ws->KT K H (mu++mu') (ks.map λp=>(p.1,p.2.sh mu.length)) ws:=by
 intro ks ws h
 induction h with
 |nil=>exact .nil
 |cons r t ih=>
  obtain⟨z,d,k,v,a,r⟩:=r;exact .cons ⟨z,d,by have:=k.sh (mu:=mu);rw[Er]at this;exact this,v,a,r.sh⟩ ih
theorem nv.sh{K:Fg1}{H:Hp}{mu mu':List dP}{a:dP}:∀{o:Ob},nv K H mu' a o->nv K H (mu++mu') a (o.sh mu.length)
 | .lst _,⟨vs,e,r⟩=>⟨vs,e,r.sh⟩
 | .dct _,⟨ws,e,r⟩=>⟨ws,e,KR.sh r⟩
 | .dcT _,⟨ws,e,r,l⟩=>⟨ws,e,KT.sh r,l⟩
 | .iset _,q=>q
 | .dcF _,⟨ws,e,r,l⟩=>⟨ws,e,KT.sh r,l⟩
 | .tst ks,⟨ws,e,r⟩=>⟨ws,e,by have:=KT.sh (mu:=mu) r;rw[bv]at this;exact this⟩
theorem fc.mor{K:Fg1}{H:Hp}{mu:List dP}(mu':List dP):∀{d:D} {v:V},fc K H mu d v->fc K H (mu++mu') d v:=λh=>h.exv ⟨bw _ _,λ_ _ h=>h,λ_ _ _ h=>h⟩
theorem ej.mor{K:Fg1}{H:Hp}{mu:List dP}(mu':List dP):∀{ds:List D} {vs:List V},ej K H mu ds vs->ej K H (mu++mu') ds vs:=λh=>h.exv ⟨bw _ _,λ_ _ h=>h,λ_ _ _ h=>h⟩
theorem KR.mor{κ:Type}{K:Fg1}{H:Hp}{mu:List dP}(mu':List dP){ks:List (κ×D)}{ws:List (κ×V)}(h:KR K H mu ks ws):KR K H (mu++mu') ks ws:=Paired.mapP h λ_ _ z=>⟨z.1,z.2.mor mu'⟩
theorem nv.mor{K:Fg1}{H:Hp}{mu:List dP}{a:dP}(mu':List dP):∀{o:Ob},nv K H mu a o->nv K H (mu++mu') a o
 | .lst _,⟨vs,e,r⟩=>⟨vs,e,r.mor mu'⟩
 | .dct _,⟨ws,e,r⟩=>⟨ws,e,KR.mor mu' r⟩
 | .dcT _,⟨ws,e,r,l⟩=>⟨ws,e,Paired.mapP r λ_ _ ⟨z,d,k,v,b,r⟩=>⟨z,d,k.mor mu',v,b,r.mor mu'⟩,l⟩
 | .iset _,q=>q
 | .dcF _,⟨ws,e,r,l⟩=>⟨ws,e,Paired.mapP r λ_ _ ⟨z,d,k,v,b,r⟩=>⟨z,d,k.mor mu',v,b,r.mor mu'⟩,l⟩
 | .tst _,⟨ws,e,r⟩=>⟨ws,e,Paired.mapP r λ_ _ ⟨z,d,k,v,b,r⟩=>⟨z,d,k.mor mu',v,b,r.mor mu'⟩⟩
def qv(f:FN):FN:=λds S=>if D.unds 0 ds=M then(f ds []).map λp=>if p.1.und 0=M then(p.1,S)else(p.1.sh S.length,S++p.2.map (Ob.sh S.length))else(f ds S).map (gc S.length)
theorem nv.keep{K:Fg1}{H H':Hp}{mu:List dP}{a:dP}(e:Ext mu mu H H')(h:∀o,H a=Z o->H' a=Z o):∀{o:Ob},nv K H mu a o->nv K H' mu a o
 | .lst _,⟨vs,q,r⟩=>⟨vs,h _ q,r.ext e⟩
 | .dct _,⟨ws,q,r⟩=>⟨ws,h _ q,KR.ext e r⟩
 | .dcT _,⟨ws,q,r,l⟩=>⟨ws,h _ q,KT.ext e r,l⟩
 | .iset _,q=>⟨h _ q.1,q.2⟩
 | .dcF _,⟨ws,⟨o,u,c,b⟩,r,l⟩=>⟨ws,⟨o,u,h _ c,b⟩,KT.ext e r,l⟩
 | .tst _,⟨ws,q,r⟩=>⟨ws,h _ q,KT.ext e r⟩
theorem BE{K:Fg1}{f:FN}{vs:List V}{H:Hp}{Q:VK}(h:rN K (qv f) vs H Q):rN K f vs H Q:=by
 obtain⟨mu,S,ds,d,ao,D,c,g,hc⟩:=h;unfold qv at g;split at g
 ·rename_i j;obtain⟨⟨w,p⟩,u,g⟩:=Pz g;refine⟨[],[],ds,w,p,D.cut (n:=0) (λk i=>absurd i (bA _)) j,.nil,u,λv H' mu' x r s=>?_⟩;have A:Ext mu mu H H':=⟨bo,λa o e _=>x.old a o e (by simp),x.tup,x.frz,λ_ z=>.inl z⟩;dsimp only at g;split at g
  ·rename_i am;cases g;refine hc v H' mu A (r.cut (n:=0) (λk i=>absurd i (bA _)) am) ⟨c.len,c.nd,λn o a h1 h2=>?_⟩;exact(c.ob n o a h1 h2).keep A λo e=>x.old a o e (by simp)
  ·cases g;have C:∀ a∈mu',H a=none:=fun a y=>(x.new a y).resolve_left (by simp);have F:Ext mu (mu++mu') H H':=⟨bw _ _,fun a o e _=>x.old a o e (by simp),x.tup,x.frz,fun a z=>by
    rcases aG.mp z with z|z
    ·exact .inl z
    ·exact .inr (C a z)⟩
   refine hc v H' (mu++mu') F (by rw[<- c.len];exact r.sh) ⟨by rw[lA1,lA1,lM1,c.len,s.len],?_,λn o a h1 h2=>?_⟩
   ·refine bB.mpr ⟨c.nd,s.nd,λa y b j z=>?_⟩;subst z;obtain⟨o,e⟩:=c.here y;rw[C a j]at e;cases e
   ·by_cases l:n<S.length
    ·rw[gL1 l]at h1;rw[gL1 (by rw[c.len];exact l)]at h2;exact((c.ob n o a h1 h2).keep A λo e=>x.old a o e (by simp)).mor mu'
    ·have m:=Nat.le_of_not_lt l;rw[gR1 m]at h1;rw[gR1 (by rw[c.len];exact m)]at h2;rw[gP1]at h1;obtain⟨G,L,I⟩:=Pz h1;subst I;have q:=s.ob (n-S.length) G a L (by rw[c.len]at h2;exact h2);rw[<- c.len];exact q.sh
 ·obtain⟨⟨w,p⟩,u,g⟩:=Pz g;refine⟨mu,S,ds,w,p,D,c,u,λv H' mu' x r s=>?_⟩;unfold gc at g;split at g
  ·rename_i j;cases g;rw [bA1] at j;have i:∀ k,k<S.length->mu'[k]? = mu[k]?:=fun k i=>by
    obtain⟨t,rfl⟩:=x.pre;rw[gL1 (by rw[c.len];exact i)]
   refine hc v H' mu x.back (r.cut i j.1) ⟨?_,c.nd,λn o a h1 h2=>?_⟩
   ·have:=s.len;have E:=x.pre.length_le;rw[aT,<- s.len];rw[c.len]at E ⊢;exact(bC E).symm
   ·have l:n<S.length:=by rw[<- c.len];exact(Px h2).1
    have B:p[n]?=Z o:=by rw[aV l]at h1;exact h1
    refine(s.ob n o a B ((i n l).trans h2)).cut i ?_;exact bD.mp j.2 o (gM1 h1)
  ·cases g;exact hc v H' mu' x r s
noncomputable def spM(K:Fg1)(n:Nat)(f:FN):Sp:=λvs H Q _=>vs.length=n/\rN K f vs H Q
section
variable{k n:Nat}{f:dP}{fd:d2}{ps:List Str}{x:Str}{p pos:Pos}{e:Expr}{es:List Expr}{m:FN}{a:FA}
noncomputable def ea (n:Nat)(f:FN):FN:=λds S=>if ds.length=n then qv f ds S else none
theorem Dq (F:mY X.prog X.w X.K X.mg X.base uW k f fd ps (spM X.K n m))(hr:gl k X.A)(hg:Gl X x)(hm:X.mg x=some (.ref f))(hk:wK1 X.K (.ref f)=true)(hb:j9 X.K fd ps [])
  (ha:MA X (e::es) a) (hdb:autoParam ((x == ("__debug__":Str))=J) bu0) (he:autoParam (dV (e::es) X.env=(J,eval e X.env)::dV es X.env) cu0) (hpl:autoParam ((MP pos (dV es X.env)).any (·.1)=J) cu0):
  ME X (.Call (.Name x p) (e::es) [] pos) (mN (ea n m) a):=
 ff (C2 (E:=E0) F hr hg hm hk hb .nil IB ha hdb he hpl) fun σ H Q h=>by
  obtain⟨r,mu,S,ds,t,he,j,hm,hc⟩:=AM h;refine⟨r,mu,S,ds,t,he,j,hm,λvs H' mu' i l v=>?_⟩;have q:=hc vs H' mu' i l v;show spM X.K n m (vs++[]) H' Q E0;rw[aP];obtain⟨c,g,d,o,s,h1,h2,b,u⟩:=q;unfold ea at b;split at b
  ·rename_i w;exact⟨by rw[<- h1.length];exact w,BE ⟨c,g,d,o,s,h1,h2,b,u⟩⟩
  ·cases b
end
def ny:FS:=λr S=>Z (.nx,r,S)
noncomputable def eu (a b:FS):FS:=λr S=>(a r S).bind λp=>match p.1 with
 | .nx=>b p.2.1 p.2.2
 |f=>some (f,p.2.1,p.2.2)
noncomputable def eX (m:FE):FS:=λr S=>(m r S).bind λp=>some (.rt p.1,r,p.2)
def Ln:FS:=λr S=>Z (.rt .non,r,S)
noncomputable def fQ (m:FE):FS:=λr S=>(m r S).bind λp=>some (.nx,r,p.2)
noncomputable def fV (c:FT)(a b:FS):FS:=λr S=>(c r S).bind λp=>if p.1=true then a r p.2 else b r p.2
section
variable{pos:Pos}{e c:Expr}{st:d3}{rest as bs:List d3}{a b:FS}{m:FE}{t:FT}
theorem Df:yN X [] ny:=rA CM <| by
 rintro E σ H ⟨r,mu,S,f,d,e,a,b,c,hc⟩;cases c;exact hc σ H mu (.refl _ _) a b
theorem AB(h1:MS X st a)(h2:yN X rest b):yN X (st::rest) (eu a b):=rA (zT h1 h2) <| by
 rintro E σ H ⟨r,mu,S,f,s,u,p,q,h,hc⟩;obtain⟨⟨l,m,n⟩,o,h⟩:=Py h;refine⟨r,mu,S,l,m,n,p,q,o,?_⟩;cases l with
 |nx=>
  intro t H1 mu1 i j k;refine⟨m,mu1,n,f,s,u,j,k,h,?_⟩;cases f with
  |nx=>exact λe H2 c g=>hc e H2 c (i.trans g)
  |bk=>exact λe H2 c g=>hc e H2 c (i.trans g)
  |ct=>exact λe H2 c g=>hc e H2 c (i.trans g)
  |rt d=>exact λv H2 c g=>hc v H2 c (i.trans g)
 |bk=>cases h;exact hc
 |ct=>cases h;exact hc
 |rt d=>cases h;exact hc
theorem De(h1:MS X st a):yN X [st] a:=CL h1
theorem Dg(h:ME X e m)(hs:autoParam (MX e Y pos.line X.env=pure J) cu0):MS X (.Expr e pos) (fQ m):=ij (CN h hs) <| by
 rintro E σ H ⟨r,mu,S,f,j,k,b,hs,a,hc⟩;obtain⟨⟨d,l⟩,c,a⟩:=Py a;cases a;exact⟨r,mu,S,d,_,b,hs,c,λv H' mu' x i g=>hc σ H' mu' x (b.ext x) g⟩
theorem Gs(h:ME X e m):MS X (.Return (Z e) pos) (eX m):=ij (FK h) <| by
 rintro E σ H ⟨r,mu,S,f,i,j,c,g,a,hc⟩;obtain⟨⟨d,k⟩,b,a⟩:=Py a;cases a;exact⟨r,mu,S,d,_,c,g,b,hc⟩
theorem IN(hc:MT X c t)(ha:yN X as a)(hb:yN X bs b):MS X (.If c as bs pos) (fV t a b):=ij (Ir hc ha hb) <| by
 rintro E σ H ⟨r,mu,S,f,n,o,m,s,i,hc⟩;obtain⟨⟨k,l⟩,q,i⟩:=Py i;refine⟨r,mu,S,k,l,m,s,q,λH1 mu1 j u=>?_⟩;have p:∀c:FS,c r l=Z (f,n,o)->wv X.K c E σ H1:=λc i=>by
  refine⟨r,mu1,l,f,n,o,m.ext j,u,i,?_⟩;cases f with
  |nx=>exact λg H2 e h=>hc g H2 e (j.trans h)
  |bk=>exact λg H2 e h=>hc g H2 e (j.trans h)
  |ct=>exact λg H2 e h=>hc g H2 e (j.trans h)
  |rt d=>exact λv H2 e h=>hc v H2 e (j.trans h)
 cases k with
 |true=>exact p a i
 |false=>exact p b i
end
abbrev FG:=D->Ev->d7->Option (Ev×d7)
abbrev B0:=List D->Ev->d7->Option (Ev×d7)
inductive E9 (K:Fg1)(g:FG)(v:V)(σ:L2.St)(H:Hp)(Q:L2.St->Hp->Prop):Prop
 |mk (r:Ev) (mu:List dP) (S:d7) (d:D) (r':Ev) (S':d7) (he:fN K H mu r σ) (hs:Sim K H mu S) (hr:fc K H mu d v) (hm:g d r S=some (r',S')) (hc:∀ σ' H' mu',Ext mu mu' H H'->fN K H' mu' r' σ'->Sim K H' mu' S'->Q σ' H')
inductive Kr (K:Fg1)(g:B0)(vs:List V)(σ:L2.St)(H:Hp)(Q:L2.St->Hp->Prop):Prop
 |mk (r:Ev) (mu:List dP) (S:d7) (ds:List D) (r':Ev) (S':d7) (he:fN K H mu r σ) (hs:Sim K H mu S) (hr:ej K H mu ds vs) (hm:g ds r S=some (r',S')) (hc:∀ σ' H' mu',Ext mu mu' H H'->fN K H' mu' r' σ'->Sim K H' mu' S'->Q σ' H')
abbrev MG(X:Cx)(e:Expr)(g:FG):Prop:=PG X e (E9 X.K g)
abbrev JN(X:Cx)(es:List Expr)(g:B0):Prop:=HF X es (Kr X.K g)
noncomputable def gN (i:Nat):FG:=λd r S=>some (r.set i (some d),S)
def jm:B0:=λds r S=>match ds with
 |[]=>Z (r,S)
 |_=>Y
noncomputable def fO (g:FG)(gs:B0):B0:=λds r S=>match ds with
 |d::ds=>(g d r S).bind λp=>gs ds p.1 p.2
 |[]=>none
noncomputable def gT (n:Nat)(gs:B0):FG:=λd r S=>match d with
 | .tup ds=>if ds.length=n then gs ds r S else none
 |_=>none
theorem fN.set{K:Fg1}{H:Hp}{mu:List dP}{r:Ev}{σ:L2.St}{i:Nat}{d:D}{v:V}(h:fN K H mu r σ)(q:fc K H mu d v):fN K H mu (r.set i (Z d)) (σ.set i (Z v)):=by
 refine⟨by rw[aY,aY];exact h.len,λj c e=>?_⟩;by_cases a:i=j
 ·subst a;have b:i<r.length:=by
   have:=(Px e).1
   rwa [aY]at this
  rw[aJ b]at e;cases e;exact⟨v,aJ (by rw[<- h.len];exact b),q⟩
 ·rw[gS1 a]at e;obtain⟨g,f,k⟩:=h.val j c e;exact⟨g,by rw[gS1 a];exact f,k⟩
section
variable{pos:Pos}
theorem vr{e:Expr}{t t':TG}(h:PG X e t)(i:∀v σ H Q,t' v σ H Q->t v σ H Q):PG X e t':=λag s σ H v u Q I r q=>h ag s σ H v u Q I r (i v σ H Q q)
theorem wD{e:List Expr}{t t':EO}(h:HF X e t)(i:∀v σ H Q,t' v σ H Q->t v σ H Q):HF X e t':=λag s σ H v u Q I r q=>h ag s σ H v u Q I r (i v σ H Q q)
theorem Dp(i:Nat){x:Str}(hN:X.N.Nodup)(hi:X.N[i]?=Z x)(hx:uV X.env.scope x)(hf:autoParam (X.fn x=M\/X.env.scope.names.lookup x=Z .local) au0):MG X (.Name x pos) (gN i):=
 vr (wE hN hi hx hf) <| by
  rintro v σ H Q ⟨r,mu,S,d,f,g,a,b,c,e,hc⟩;cases e;exact hc _ H mu (.refl _ _) (a.set c) b
theorem Do:JN X [] jm:=wD CY <| by
 rintro vs σ H Q ⟨r,mu,S,ds,e,f,b,c,d,a,hc⟩;unfold jm at a;split at a
 ·cases a;cases d;exact⟨O,hc σ H mu (.refl _ _) b c⟩
 ·cases a
theorem AE{e:Expr}{es:List Expr}{g:FG}{j:B0}(h1:MG X e g)(h2:JN X es j)(hs:autoParam ((MZ (e::es) X.env).map (·.2)=MY e X.env::(MZ es X.env).map (·.2)) cu0):JN X (e::es) (fO g j):=
 wD (Ad h1 h2 hs) <| by
  rintro vs σ H Q ⟨r,mu,S,ds,n,p,m,hs,u,a,hc⟩;unfold fO at a;split at a
  ·obtain⟨⟨h,i⟩,l,a⟩:=Py a;cases u with
   |cons q t=>
    exact⟨_,_,O,r,mu,S,_,h,i,m,hs,q,l,λo H1 mu1 f d s=>⟨h,mu1,i,_,n,p,d,s,t.ext f,a,λb H2 c k=>hc b H2 c (f.trans k)⟩⟩
  ·cases a
theorem GB{es:List Expr}{k:Nat}{b:B0}{n:Nat}(hc:X.calm=M)(h:JN X es b)(hn:autoParam ((MZ es X.env).length=n) cu0)(hst:autoParam ((MZ es X.env).findIdx? (·.1)=Y) cu0):MG X (.Tuple es k pos) (gT n b):=
 vr (F0 hc h hn hst) <| by
  rintro v σ H Q ⟨r,mu,S,d,f,i,c,e,j,a,hc⟩;cases d with
  |tup ds=>
   rw[gT]at a;split at a
   ·rename_i g;cases j with
    |tup q t=>exact⟨_,_,O,q,by rw[<- t.length];exact g,r,mu,S,ds,f,i,c,e,t,a,hc⟩
   ·cases a
  |_=>cases a
inductive rU (K:Fg1)(f:FN)(o i v:V)(H:Hp)(Q:Hp->Prop):Prop
 |mk (mu:List dP) (S:d7) (ds:List D) (d:D) (S':d7) (hr:ej K H mu ds [o,i,v]) (hs:Sim K H mu S) (hm:f ds S=some (d,S')) (hc:∀H' mu',Ext mu mu' H H'->Sim K H' mu' S'->Q H')
noncomputable def gS(f:FN)(a b:FE):FG:=λd r S=>(a r S).bind λp=>(b r p.2).bind λq=>(f [p.1,q.1,d] q.2).bind λt=>Z (r,t.2)
theorem GC{o i:Expr}{a b:FE}{f:FN}(ho:ME X o a)(hi:ME X i b)(hs:wd X (rU X.K f))(ha:autoParam (∀v,MY (.Subscript o i pos) X.env v=(do
   let ov<-M3 [v] (eval o X.env)
   let iv<-M3 [v,ov] (eval i X.env)
   M4 pos
   M3 [v,ov,iv] (setItem ov iv v)
   release [v,ov,iv] [])) du0):MG X (.Subscript o i pos) (gS f a b):=
 vr (F1 ho hi hs ha) <| by
  rintro v σ H Q ⟨r,mu,S,d,I,D,j,hs,B,c,hc⟩;obtain⟨⟨l,p⟩,s,c⟩:=Py c;obtain⟨⟨n,m⟩,w,c⟩:=Py c;obtain⟨⟨u,F⟩,y,c⟩:=Py c;cases c;refine⟨r,mu,S,l,p,j,hs,s,λE H1 mu1 g z C=>?_⟩;refine⟨r,mu1,p,n,m,j.ext g,C,w,λG H2 k e r2 x=>?_⟩;exact⟨k,m,[l,n,d],u,_,.cons (z.ext e) (.cons r2 (.cons ((B.ext g).ext e) .nil)),x,y,λA h q t=>hc σ A h ((g.trans e).trans q) (((j.ext g).ext e).ext q) t⟩
noncomputable def eG (m:FE)(g:FG):FS:=λr S=>(m r S).bind λp=>(g p.1 r p.2).bind λq=>some (.nx,q.1,q.2)
theorem rV{K:Fg1}{m:FE}{g:FG}{E:jr}{σ:L2.St}{H:Hp}(h:wv K (eG m g) E σ H):zx (tM K m) (E9 K g) E σ H:=by
 obtain⟨r,mu,S,f,u,v,d,n,a,hc⟩:=h;obtain⟨⟨i,j⟩,l,a⟩:=Py a;obtain⟨⟨r2,s⟩,q,a⟩:=Py a;cases a;refine⟨r,mu,S,i,j,d,n,l,λt H1 mu1 e o p=>?_⟩;exact⟨r,mu1,j,i,_,_,d.ext e,p,o,q,λb H2 c k=>hc b H2 c (e.trans k)⟩
theorem Gw{tg e:Expr}{m:FE}{g:FG}(he:ME X e m)(hg:MG X tg g)(hs:autoParam (M7 [tg] e pos.line X.env=pure J) cu0)(hw:autoParam (M8 [tg] e X.env=pure Y) cu0)(h1:autoParam ((MZ [tg] X.env).map (·.2)=[MY tg X.env]) cu0):MS X (.Assign [tg] e pos) (eG m g):=ij (FR he hg hs hw h1) λ_ _ _=>rV
theorem Gr(i:Nat){x:Str}{e:Expr}{m:FE}{pos':Pos}(hN:X.N.Nodup)(hi:X.N[i]? = some x)(hx:uV X.env.scope x)(he:ME X e m)(hs:autoParam (MX e (some (.Name x pos')) pos.line X.env=pure false) cu0)(hf:autoParam (X.fn x=true\/X.env.scope.names.lookup x=some .local) au0):
  MS X (.Assign [.Name x pos'] e pos) (eG m (gN i)):=ij (FJ hN hi hx he hs hf) λE σ H h=>by
 obtain⟨r,mu,S,d,l,h1,h2,k,o⟩:=rV h;refine⟨r,mu,S,d,l,h1,h2,k,λv H' mu' g j p=>?_⟩;obtain⟨r2,a,s,u,t,w,b,n,q,c,f⟩:=o v H' mu' g j p;cases c;exact f _ H' a (.refl _ _) (b.set q) n
noncomputable def Du(i:Nat)(f:FN)(m:FE):FS:=λr S=>match r[i]? with
 |some (Z d)=>(m r S).bind λp=>(f [d,p.1] p.2).bind λq=>Z (.nx,r.set i (Z q.1),q.2)
 |_=>Y
theorem Gv(i:Nat){x:Str}{e:Expr}{m:FE}{op:M0}{f:FN}{pos':Pos}(hN:X.N.Nodup)(hi:X.N[i]? = some x)(hx:uV X.env.scope x)(he:ME X e m)(ho:Kf X op (r2 X.K f))(hf:autoParam (X.fn x=true\/X.env.scope.names.lookup x=some .local) au0):
  MS X (.AugAssign (.Name x pos') op e pos) (Du i f m):=ij (FQ hN hi hx he ho hf) <| by
 rintro E σ H ⟨r,mu,S,F,D,z,he,u,a,hc⟩;unfold Du at a;split at a
 ·rename_i d e;obtain⟨⟨g,h⟩,k,a⟩:=Py a;obtain⟨⟨p,A⟩,n,a⟩:=Py a;cases a;obtain⟨v,q,y⟩:=he.val i d e;refine⟨v,q,r,mu,S,g,h,he,u,k,λC H1 mu1 c o w=>?_⟩;exact⟨mu1,h,[d,g],p,_,.cons (y.ext c) (.cons o .nil),w,n,λB s b j t l=>hc _ s b (c.trans j) (((he.ext c).ext j).set t) l⟩
 ·cases a
end
noncomputable def sU (c:FT)(b:FS):Nat->FS
 |0=>λ_ _=>none
 | n+1=>fun r S=>(c r S).bind fun p=>if p.1=true then (b r p.2).bind fun q=>match q.1 with
   | .nx=>sU c b n q.2.1 q.2.2
   | .ct=>sU c b n q.2.1 q.2.2
   | .bk=>some (.nx,q.2.1,q.2.2)
   | .rt d=>some (.rt d,q.2.1,q.2.2)
  else some (.nx,r,p.2)
theorem ES{K:Fg1}{c:FT}{b:FS}{n:Nat}{E:jr}{σ:L2.St}{H:Hp}(h:wv K (sU c b n) E σ H):zr (zu K c) (wv K b) E σ H:=by
 refine⟨λm a H'=>wv K (sU c b m) E a H',⟨n,h⟩,λm u H1 q=>?_⟩;obtain⟨r,mu,S,f,C,w,t,I,i,hc⟩:=q;cases m with
 |zero=>cases i
 |succ m=>
  obtain⟨⟨k,A⟩,F,i⟩:=Py i;refine⟨r,mu,S,k,A,t,I,F,λH2 e l z=>?_⟩;cases k with
  |false=>
   cases i;exact hc u H2 e l (t.ext l) z
  |true=>
   obtain⟨⟨B,p,s⟩,G,i⟩:=Py i;have D:∀{a H' mu'},Ext e mu' H2 H'->fN K H' mu' p a->Sim K H' mu' s->sU c b m p s=Z (f,C,w)->wv K (sU c b m) E a H':=λ{a H' mu'} x g o i=>by
    refine⟨p,mu',s,f,C,w,g,o,i,?_⟩;cases f with
    |nx=>exact λj H2 e y=>hc j H2 e ((l.trans x).trans y)
    |bk=>exact λj H2 e y=>hc j H2 e ((l.trans x).trans y)
    |ct=>exact λj H2 e y=>hc j H2 e ((l.trans x).trans y)
    |rt d=>exact λv H2 e y=>hc v H2 e ((l.trans x).trans y)
   refine⟨λa H'=>wv K (sU c b m) E a H',λa H' q=>⟨m,bE _,q⟩,r,e,A,B,p,s,t.ext l,z,G,?_⟩;cases B with
   |nx=>exact λa H' mu' x g o=>D x g o i
   |ct=>exact λa H' mu' x g o=>D x g o i
   |bk=>cases i;exact λa H' mu' x g o=>hc a H' mu' (l.trans x) g o
   |rt d=>cases i;exact λv H' mu' x p o=>hc v H' mu' (l.trans x) p o
theorem AC{X:Cx}{pos:Pos}(n:Nat){c:Expr}{a:List d3}{t:FT}{b:FS}(hp:Na (MN X.prog X.w) X.A X.env X.xe)(hc:MT X c t)(hb:yN X a b):MS X (.While c a [] pos) (sU t b n):=
 ij (zU hp hc hb) λ_ _ _=>ES
structure yO where
 items:List D
 chk:List (Nat×List D)
noncomputable def pA (S:d7):List (Nat×List D)->Bool
 |[]=>true
 | (n,xs)::c=>(match S[n]? with
   |some (.lst ys)=>D.sames ys xs
   |_=>false)&&pA S c
def Le(K:Fg1)(j:It)(am:yO)(mu:List dP)(H:Hp):Prop:=∀i H1 mu1 S1,sN mu mu1 H H1->Sim K H1 mu1 S1->pA S1 am.chk=M ->
 (∀d,am.items[i]?=Z d->j.go i H1 /\ ∀x H2,j.yld i H1 x H2->Ext mu1 mu1 H1 H2/\Sim K H2 mu1 S1/\fc K H2 mu1 d x)/\(am.items.length<=i->j.stop i H1)
abbrev FI:=Ev->d7->Option (yO×d7)
inductive H9 (K:Fg1)(m:FI)(σ:L2.St)(H:Hp)(R:It->Hp->Prop):Prop
 |mk (r:Ev) (mu:List dP) (S:d7) (am:yO) (S':d7) (he:fN K H mu r σ) (hs:Sim K H mu S) (hm:m r S=some (am,S')) (hc:∀j H' mu',Ext mu mu' H H'->Le K j am mu' H'->Sim K H' mu' S'->R j H')
abbrev MI(X:Cx)(tg iter:Expr)(m:FI):Prop:=PI X tg iter (H9 X.K m)
theorem oo{X:Cx}{tg e:Expr}{t t':TI}(h:PI X tg e t)(i:∀ σ H R,t' σ H R->t σ H R):PI X tg e t':=λag s σ H R I q=>h ag s σ H R I (i σ H R q)
theorem Iv{X:Cx}{tg e:Expr}{t t':TI}(h:PI X tg e t)(h':PI X tg e t'):PI X tg e (fun σ H R=>t σ H R\/t' σ H R):=λag s σ H R I q=>q.elim (h ag s σ H R I) (h' ag s σ H R I)
noncomputable def jk (c:List (Nat×List D))(g:FG)(b:FS):List D->FS
 |[]=>λr S=>if pA S c=true then some (.nx,r,S)else none
 | d::ds=>fun r S=>if pA S c=true then (g d r S).bind fun p=>(b p.1 p.2).bind fun q=>match q.1 with
   | .nx=>jk c g b ds q.2.1 q.2.2
   | .ct=>jk c g b ds q.2.1 q.2.2
   | .bk=>some (.nx,q.2.1,q.2.2)
   | .rt v=>some (.rt v,q.2.1,q.2.2)
  else none
noncomputable def fz (m:FI)(g:FG)(b:FS):FS:=λr S=>(m r S).bind λp=>jk p.1.chk g b p.1.items r p.2
theorem nk{α:Type}{l:List α}{i:Nat}{d:α}{ds:List α}(h:l.drop i=d::ds):l[i]?=Z d/\l.drop (i+1)=ds:=by
 have h1:l[i]?=Z d:=by
  have:=congrArg (·[0]?) h;simpa using this
 refine⟨h1,?_⟩;rw[<- bF,h];rfl
inductive Lb (K:Fg1)(mu1:List dP)(H1:Hp)(c:List (Nat×List D))(g:FG)(b:FS)(f:Fl)(r':Ev)(S':d7)(L:List D)(σ':L2.St)(H':Hp):Prop
 |mk (r2:Ev) (mu2:List dP) (S2:d7):Ext mu1 mu2 H1 H'->fN K H' mu2 r2 σ'->Sim K H' mu2 S2->jk c g b L r2 S2=some (f,r',S')->Lb K mu1 H1 c g b f r' S' L σ' H'
theorem Dt{K:Fg1}{m:FI}{g:FG}{b:FS}{E:jr}{σ:L2.St}{H:Hp}(h:wv K (fz m g b) E σ H):Ia (H9 K m) (E9 K g) (wv K b) E σ H:=by
 obtain⟨r,mu,S,f,U,ao,P,hs,C,hc⟩:=h;obtain⟨⟨am,au⟩,W,C⟩:=Py C;refine⟨r,mu,S,am,au,P,hs,W,λj H1 mu1 A V s1=>?_⟩;refine⟨λi k u H'=>k=(am.items.drop i).length/\Lb K mu1 H1 am.chk g b f U ao (am.items.drop i) u H',⟨_,O,r,mu1,au,.refl _ _,P.ext A,s1,C⟩,?_⟩;rintro i k I H2 ⟨rfl,r2,l,wq,n,s,B,a⟩;cases hl:am.items.drop i with
 |nil=>
  left;rw[hl]at a;rw[jk]at a;dsimp only at a;split at a
  ·rename_i ok;cases a;refine⟨(V i H2 l _ n.w B ok).2 (List.drop_eq_nil_iff.mp hl),?_⟩;exact hc I H2 l (A.trans n) s B
  ·cases a
 |cons d ds=>
  right;rw[hl]at a;obtain⟨hi,N⟩:=nk hl;rw[jk]at a;dsimp only at a;split at a
  ·rename_i ok;obtain⟨⟨T,R⟩,e3,a⟩:=Py a;obtain⟨⟨Q,L,D⟩,e4,a⟩:=Py a;obtain⟨go,yl⟩:=(V i H2 l _ n.w B ok).1 d hi;refine⟨go,Lb K mu1 H1 am.chk g b f U ao ds,?_,λx H3 y=>?_⟩
   ·intro u H' h5;exact⟨ds.length,bE _,(congrArg List.length N).symm,N.symm ▸ h5⟩
   ·obtain⟨w,X,q3⟩:=yl x H3 y;refine⟨r2,l,wq,d,T,R,s.ext w,X,q3,e3,fun σ4 H4 G z F aq=>?_⟩;refine⟨T,G,R,Q,L,D,F,aq,e4,?_⟩;cases Q with
    |nx=>exact λo t c p e q=>⟨L,c,D,(n.trans w).trans (z.trans p),e,q,a⟩
    |ct=>exact λo t c p e q=>⟨L,c,D,(n.trans w).trans (z.trans p),e,q,a⟩
    |bk=>cases a;exact λo t c p e q=>hc o t c ((A.trans n).trans (w.trans (z.trans p))) e q
    |rt v=>cases a;exact λv5 t c p r5 q=>hc v5 t c ((A.trans n).trans (w.trans (z.trans p))) r5 q
  ·cases a
theorem Gu{X:Cx}{pos:Pos}{tg iter:Expr}{a:List d3}{m:FI}{g:FG}{b:FS}(hp:Na (MN X.prog X.w) X.A X.env X.xe)(hc:X.calm=M)(hi:MI X tg iter m)(hg:MG X tg g)(hb:yN X a b)(hs:autoParam (∀x,Nj iter X.env x=pure x) du0):MS X (.For tg iter a [] pos) (fz m g b):=ij (FP hp hc hi hg hb hs) λ_ _ _=>Dt
def ig(n:Nat)(ds:List D):Ev:=ds.map Z++aR (n-ds.length) Y
noncomputable def iz (n:Nat)(b:FS):FN:=λds S=>(b (ig n ds) S).bind λp=>match p.1 with
 | .rt d=>some (d,p.2.2)
 | .nx=>some (.non,p.2.2)
 |_=>none
theorem xV{K:Fg1}{H:Hp}{mu:List dP}{ds:List D}{vs:List V}(N:List Str)(h:ej K H mu ds vs):fN K H mu (ig N.length ds) (L2.jy N vs):=by
 refine⟨?_,λi d e=>?_⟩
 ·unfold ig L2.jy;rw[lA1,lA1,lM1,lM1,lR1,lR1,h.length]
 ·unfold ig at e;unfold L2.jy;by_cases hi:i<ds.length
  ·rw[gL1 (by rw[lM1];exact hi),gP1]at e;obtain⟨f,b,c⟩:=Pz e;cases c;obtain⟨v,a,r⟩:=h.get b;refine⟨v,?_,r⟩;rw[gL1 (by rw[lM1,<- h.length];exact hi),gP1,a];rfl
  ·rw[gR1 (by rw[lM1];lia)]at e;have:=gM1 e;rw[bG]at this;cases this.2
theorem Jp{P:dQ}{w:dS}{K:Fg1}{mg:Str->Option dM}{base:dZ}{x c:Str}{st:d3}{f:dP}{fd:d2}{N ps:List Str}{k:Nat}{b:FS}(F:xI K x c st f fd)(S:gR N ps (eD st))(i:∀(e:dM) (A:dR) (a:List Env) (s:dN) (H:Hp) (E:XK),gl k (A.deeper (Ny c (eD st) s.heap.objs.size f e)) ->
   yN (nC uW P w K mg base N c (eD st) f e A a s H E).nox (fK st) b):mY P w K mg base uW (k+1) f fd ps (spM K ps.length (iz N.length b)):=by
 refine xI.ok F S (λvs H Q E h=>h.1) λe A a s H vs Q E r j=>⟨_,i e A a s H E r,?_⟩;obtain⟨_,mu,St,ds,d,u,h1,h2,g,m⟩:=j;unfold iz at g;obtain⟨⟨l,o,q⟩,n,g⟩:=Py g;refine⟨_,mu,St,l,o,q,xV N h1,h2,n,?_⟩;cases l with
 |nx=>cases g;exact λp H' mu' x t s=>m .non H' mu' x .non s
 |rt d=>cases g;exact m
 |bk=>cases g
 |ct=>cases g
noncomputable def jU(cells:List (Str×dP)):List (Str×Nx)->List (Str×dP)->Option (List (Str×dP))
 |[],acc=>Z acc
 |(n,k)::r,acc=>if k == .free then(cells.lookup n).bind λc=>jU cells r ((n,c)::acc)else jU cells r acc
theorem vV{env:Env}(f:Str×Nx->List (Str×dP)->Sem (ForInStep (List (Str×dP))))(hf:∀n k d,f (n,k) d=if k == .free then(do let c<-cellOf env n;pure (.yield ((n,c)::d)))else pure (.yield d)):
  ∀(a:List (Str×Nx)) (acc b:List (Str×dP)),jU env.cells a acc=Z b->forIn a acc f=(pure b:Sem (List (Str×dP)))
 |[],acc,b,h=>by cases h;rfl
 |(n,k)::r,acc,b,h=>by
  rw[bH,hf];unfold jU at h;split at h
  ·rename_i g;rw[ak g];obtain⟨c,e,h⟩:=Py h;have:cellOf env n=pure c:=by unfold cellOf;rw[e]
   rw[this,pure_bind,pure_bind];exact vV f hf r _ b h
  ·rename_i g;rw[aj g,pure_bind];exact vV f hf r _ b h
theorem BD{scope:d4}{env:Env}{cl:List (Str×dP)}(h:jU env.cells scope.names []=Z cl):closureFor scope env=pure cl:=by
 simp only[closureFor];rw[vV (env:=env) _ (λn k a=>by cases hk:k == N8<;>simp[hk]) scope.names [] cl h];rfl
theorem vU{a:List (Str×dP)}:∀{b:List (Str×Nx)} {acc d:List (Str×dP)},jU a b acc=Z d->(∀x c,acc.lookup x=Z c->a.lookup x=Z c) -> ∀x c,d.lookup x=Z c->a.lookup x=Z c
 |[],acc,d,h,ha=>by cases h;exact ha
 |(n,k)::r,acc,d,h,ha=>by
  unfold jU at h;split at h
  ·obtain⟨c,e,h⟩:=Py h;refine vU h λx f q=>?_;rw[bI]at q;split at q
   ·rename_i g;cases q;rw[Pn.mp g];exact e
   ·exact ha x f q
  ·exact vU h ha
theorem nR{b:List (Str×dP)}{x:Str}:∀{a:List (Str×Nx)} {acc d:List (Str×dP)},jU b a acc=Z d->(a.lookup x=Z .free\/(acc.lookup x).isSome=M)->(d.lookup x).isSome=M
 |[],acc,d,h,ha=>by
  cases h;rcases ha with q|q
  ·cases q
  ·exact q
 |(n,k)::r,acc,d,h,ha=>by
  unfold jU at h;split at h
  ·obtain⟨c,e,h⟩:=Py h;refine nR h ?_;rcases ha with q|q
   ·rw[bI]at q;split at q
    ·rename_i g;right;rw[bI,g];rfl
    ·exact .inl q
   ·right;rw[bI];split
    ·rfl
    ·exact q
  ·rename_i f;refine nR h ?_;rcases ha with q|q
   ·rw[bI]at q;split at q
    ·cases q;exact absurd O f
    ·exact .inl q
   ·exact .inr q
theorem gQ{x:Str}{c:dP}:∀{a:List (Str×Nx)} {n:Nat} {acc:List (Str×dP)},(Nz n a acc).lookup x=Z c->(n<=c/\(x,c)∈Nz n a [])\/acc.lookup x=Z c
 |[],_,_,h=>.inr h
 |(y,k)::r,n,acc,h=>by
  unfold Nz at h ⊢;split at h
  ·rename_i b;rw [if_pos b];have app:∀ (a:List (Str×Nx)) (m:Nat) (acc:List (Str×dP)),Nz m a acc=Nz m a []++acc:=by
    intro a
    induction a with
    |nil=>intro m acc;rfl
    |cons p r ih=>
     obtain⟨z,q⟩:=p;intro m acc;unfold Nz;split
     ·rw[ih _ ((z,m)::acc),ih _ [(z,m)],bJ];rfl
     ·exact ih m acc
   rcases gQ h with⟨h1,h2⟩|h1
   ·refine .inl ⟨by lia,?_⟩;rw[app];exact aH _ h2
   ·rw[bI]at h1;split at h1
    ·rename_i d;cases h1;refine .inl ⟨nR1 _,?_⟩;rw[app,Pn.mp d];exact mA1 _ mS1
    ·exact .inr h1
  ·rename_i b;rw[aj b];exact gQ h
theorem pN{x:Str}{c:dP}{n:Nat}{acc:List (Str×dP)}{a:List (Str×Nx)}(hx:a.lookup x=Z .cell)(h:(Nz n a acc).lookup x=Z c):n<=c:=by
 have app:∀(a:List (Str×Nx)) (m:Nat) (acc:List (Str×dP)),Nz m a acc=Nz m a []++acc:=by
  intro a
  induction a with
  |nil=>intro m acc;rfl
  |cons p r ih=>
   obtain⟨z,q⟩:=p;intro m acc;unfold Nz;split
   ·rw[ih _ ((z,m)::acc),ih _ [(z,m)],bJ];rfl
   ·exact ih m acc
 rw[app,List.lookup_append]at h;have q:=NA a n [] (.inl hx);obtain⟨b,e⟩:=aS.mp q;rw[e]at h;cases h;rcases gQ e with⟨h1,_⟩|h1
 ·exact h1
 ·cases h1
theorem kK {ao:Model}{A:dR}{E:dM->dN->Prop}{s:dN}{scope:d4}{globals:dP}{c:List (Str×dP)}{qual:Str}{func:Option dP}{code:dM}{env:Env}{b:dP}{Q:Env->dN->Prop}
  (d:Q {scope,locals:=s.heap.objs.size,globals,cells:=Nz (s.heap.objs.size+1) scope.names c,qual,func,code:=env.code,frame:=env.frame,builtins:=env.builtins}
   {s with heap:=pushCells (s.heap.push {cls:=.type "dict",data:=.dict #[]}) scope.names}):
  dX ao A (newFunctionEnv scope globals c [] qual func code (Z env) b) Q E s:=by
 simp only[newFunctionEnv,Option.isSome_some,NJ];refine wB1 (wpAny_alloc ?_);refine wB1 (wpAny_layCells _ (λname a cells=>by cases hkc:a == N9<;>simp[hkc]) _ _ _ _ ?_);rw[show({s with heap:=s.heap.push {cls:=.type "dict",data:=.dict #[]}}:dN).heap.objs.size=s.heap.objs.size+1 from hZ1 ..];refine wB1 ?_;rw[List.forIn_nil];exact wP1 (wP1 d)
noncomputable def cxC(X:Cx)(scope:d4)(cl:List (Str×dP))(T:List Str)(keep:List Nat)(s:dN)(H:Hp)(fp:List dP):Cx where
 prog:=X.prog
 w:=X.w
 K:=X.K
 mg:=X.mg
 base:=X.base
 A:=X.A
 N:=T++keep.map λi=>X.N.getD i (NN "")
 s₀:=s
 H₀:=H
 env:=compEnvC scope (Nz (s.heap.objs.size+1) scope.names cl) s.heap.objs.size X.env
 outer:=X.stack
 stack:=X.stack
 ex:=fp
 fn:=λx=>scope.names.lookup x == Z .cell
 calm:=X.calm
 pn:=[]
 xe:=λ_ _=>False
noncomputable def sf(k:Nat)(keep:List Nat)(σ:L2.St):L2.St:=aR k Y++keep.map λi=>(σ[i]?).join
theorem jS{env:Env}{x:Str}:∀ {a:List (Str×Nx)},
  (a.map λ(n,k)=>if(k == N8&&env.scope.kind == .function&&env.kindOf n == Z .cell)then(n,N9)else(n,k)).lookup x =
   (a.lookup x).map λk=>if(k == N8&&env.scope.kind == .function&&env.kindOf x == Z .cell)then N9 else k
 |[]=>rfl
 |(n,k)::r=>by
  show List.lookup x ((if(k == N8&&env.scope.kind == .function&&env.kindOf n == Z .cell)=M then(n,N9)else(n,k))::_)=_;cases hx:x == n with
  |true=>
   have e:=Pn.mp hx;subst e;by_cases hc:(k == N8&&env.scope.kind == .function&&env.kindOf x == Z .cell)=M
   ·rw[ak hc,bI,hx,bI,hx];simp only[oP1,ak hc]
   ·rw[aj hc,bI,hx,bI,hx];simp only[oP1,aj hc]
  |false=>
   have ih:=@jS env x r;by_cases hc:(k == N8&&env.scope.kind == .function&&env.kindOf n == Z .cell)=M
   ·rw[ak hc,bI,hx,bI,hx];exact ih
   ·rw[aj hc,bI,hx,bI,hx];exact ih
structure HN (X:Cx)(scope:d4)(T:List Str)(keep:List Nat):Prop where
 kind:scope.kind = .function
 names:∀x∈scope.names,x.2 = .local->scope.names.lookup x.1=some .local
 free:∀i∈keep,∃x,X.N[i]?=some x/\scope.names.lookup x=some .free/\(X.env.kindOf x=some .cell\/X.env.kindOf x=some .free)/\(x,N9)∉scope.names
theorem uj{X:Cx}{ag:List (dP×Obj)}{σ:L2.St}{H:Hp}{s:dN}{scope:d4}{w:List (Str×dP)}{T:List Str}{keep:List Nat}{fp:List dP}(I:Inv X ag σ H s)(C:HN X scope T keep)(B:jU X.env.cells scope.names []=some w)(hf:∀b∈fp,kE X ag H b)(G:∀b∈fp,∃o,s.heap.get? b=some o):
  Inv (cxC X scope w T keep s H fp) [] (sf T.length keep σ) H {s with heap:=pushCells (s.heap.push {cls:=.type "dict",data:=.dict #[]}) scope.names}:=by
 have kept:∀b o,s.heap.get? b=Z o->(pushCells (s.heap.push {cls:=.type "dict",data:=.dict #[]}) scope.names).get? b=Z o:=λb o e=>Oa _ _ b o (hP1 _ e);have A:=cellsFrom_ok scope.names (s.heap.push {cls:=.type "dict",data:=.dict #[]}) (s.heap.objs.size+1) [] ⟨λ_ _ hm=>(nomatch hm),List.Pairwise.nil⟩ (by rw[hZ1];exact nR1 _);rw[hZ1]at A;have am:=vU B (λx c q=>by cases q)
 -- a cell of the block: its own or an elder one
 have d:∀x c,(Nz (s.heap.objs.size+1) scope.names w).lookup x=Z c->(s.heap.objs.size+1<=c/\(x,c)∈Nz (s.heap.objs.size+1) scope.names [])\/X.env.cells.lookup x=Z c:=λx c h=>by
  rcases gQ h with h1|h1
  ·exact .inl h1
  ·exact .inr (am x c h1)
 have g:∀x c,X.env.cells.lookup x=Z c->c<s.heap.objs.size:=λx c e=>by
  obtain⟨v,z⟩:=I.cell x c e;exact z.lt
 have t:∀b∈fp,b<s.heap.objs.size:=λb l=>by
  obtain⟨o,e⟩:=G b l;exact hL1 e
 have fst:∀b∈fp,b∉frs X.stack:=λb l z=>by
  rcases aF.mp (I.stkSub b z)with q|q
  ·exact(hf b l).2.1 q
  ·exact(hf b l).2.2.1 q
 have kindOf:∀x,(cxC X scope w T keep s H fp).env.kindOf x=(scope.names.lookup x).map λk=>if(k == N8&&X.env.scope.kind == .function&&X.env.kindOf x == Z .cell)then N9 else k:=λx=>jS
 refine⟨⟨I.ok.mod,C.kind,I.ok.glob,I.ok.blt,nR1 _,λx y c h1 h2=>?_,λx D=>?_,λx c h1 h2=>?_,I.ok.hd,I.ok.frames,.inl O,λb l=>⟨nN1 (t b l),λx c h z=>?_⟩,λb o e=>I.bs b o e,aC I.ok.bsz I.sz,λb o e l=>?_,fst,I.stack,I.stkFree⟩,
  rfl,I.bare,Un.kept kept,⟨λ_=>Y,(Heap.Ns.new s.heap (.type "dict")).keeps (Oa _ _),λi x v h1 h2 h3=>?_⟩,λx c h=>?_,I.hok.fresh (nR1 _),λx c h=>?_,λp U=>absurd (show p∈([]:List (dP×Obj))from U) (by simp),I.hok.kept kept,?_⟩
 ·rcases d x c h1 with⟨a1,a2⟩|a1<;>rcases d y c h2 with⟨b1,b2⟩|b1
  ·exact name_of_addr A.apart a2 b2
  ·exact absurd (bK (bL a1) (g y c b1)) (az _)
  ·exact absurd (bK (bL b1) (g x c a1)) (az _)
  ·exact I.ok.inj x y c a1 b1
 ·have F:scope.names.lookup x=some .cell\/scope.names.lookup x=some .free:=by
   rw[kindOf x]at D;cases e:scope.names.lookup x with
   |none=>rw[e]at D;rcases D with z|z<;>cases z
   |some k=>
    rw[e]at D;simp only[oP1]at D;cases k<;>simp_all
  have:((Nz (s.heap.objs.size+1) scope.names w).lookup x).isSome=M:=by
   rcases F with z|z
   ·exact NA _ _ _ (.inl z)
   ·exact NA _ _ _ (.inr (nR B (.inl z)))
  exact aS.mp this
 ·have f:scope.names.lookup x=Z .cell:=by simpa[cxC]using h1
  have:=pN f h2;exact aC (aZ _) this
 ·subst z;rcases d x c h with⟨a1,_⟩|a1
  ·exact absurd (bK (bL a1) (t c l)) (az _)
  ·exact(hf c l).2.2.2.2.1 x c a1 O
 ·rcases(hf b l).2.2.2.1 with z|z
  ·exact I.ok.noex b o e z
  ·exact absurd (nL1 (hL1 e) (aC I.ok.bsz z)) (az _)
 ·-- a name of the block that has a value:one of the outer text's
  have hi:T.length<=i:=by
   refine Nat.le_of_not_lt λhi=>?_;unfold sf at h2;rw[gL1 (by rw[lR1];exact hi),aU]at h2;split at h2<;>cases h2
  unfold sf at h2;rw[gR1 (by rw[lR1];exact hi),lR1,gP1]at h2;obtain⟨j,au,h2⟩:=Pz h2;have f:X.N.getD j (NN "")=x:=by
   have f:(T++keep.map λi=>X.N.getD i (NN ""))[i]?=Z x:=h1;rw[gR1 hi,gP1,au]at f;exact Option.some.inj f
  obtain⟨y,N,Q,P,S⟩:=C.free j (gM1 au);have K:y=x:=by rw[<- f,bM,N];rfl
  subst K;have L:σ[j]?=Z (Z v):=by
   cases e:σ[j]? with
   |none=>rw[e]at h2;cases h2
   |some o=>rw[e]at h2;cases h2;rfl
  obtain⟨m,hn,W⟩:=I.loc;obtain⟨u,V,lu⟩:=W j y v N L (by
   rcases P with z|z
   ·exact .inr (.inl z)
   ·exact .inr (.inr z))
  refine⟨u,V,?_⟩;rcases lu with⟨z,_⟩|⟨_,c,wq,R⟩
  ·rcases P with q|q<;>(rw[z]at q;cases q)
  ·right;refine⟨?_,c,?_,R.keeps kept⟩
   ·rw[kindOf,Q];simp only[oP1];split
    ·exact .inl O
    ·exact .inr O
   ·obtain⟨c',aq⟩:=aS.mp (NA scope.names (s.heap.objs.size+1) w (.inr (nR B (.inl Q))):((Nz (s.heap.objs.size+1) scope.names w).lookup y).isSome=M);have ao:(Nz (s.heap.objs.size+1) scope.names w).lookup y=Z c':=aq;rcases d y c' ao with⟨a1,a2⟩|a1
    ·-- an own cell of that name:its kind would be cell
     exfalso;have:∀(names:List (Str×Nx)) (n:Nat),(y,c')∈Nz n names []->(y,N9)∈names:=by
      have app:∀(names:List (Str×Nx)) (m:Nat) (acc:List (Str×dP)),Nz m names acc=Nz m names []++acc:=by
       intro names
       induction names with
       |nil=>intro m acc;rfl
       |cons p r ih=>
        obtain⟨z,q⟩:=p;intro m acc;unfold Nz;split
        ·rw[ih _ ((z,m)::acc),ih _ [(z,m)],bJ];rfl
        ·exact ih m acc
      intro names
      induction names with
      |nil=>intro n h;cases h
      |cons p r ih=>
       obtain⟨z,q⟩:=p;intro n h;unfold Nz at h;split at h
       ·rename_i hq;rw[app]at h;rcases aG.mp h with h|h
        ·exact mC1 _ (ih _ h)
        ·have:(y,c')=(z,n):=by simpa using h
         cases this;have E:q=N9:=by simpa using hq
         subst E;exact mS1
       ·exact mC1 _ (ih _ h)
     exact S (this _ _ a2)
    ·rw[wq]at a1;cases a1;exact ao
 ·rcases d x c h with⟨a1,a2⟩|a1
  ·exact⟨_,(A.empty x c a2).1⟩
  ·obtain⟨v,z⟩:=I.cell x c a1;exact⟨v,z.keeps kept⟩
 ·rcases d x c h with⟨a1,a2⟩|a1
  ·exact I.hok.fresh (bL a1)
  ·exact I.freeC x c a1
 ·show(sf T.length keep σ).length=(T++keep.map λi=>X.N.getD i (NN "")).length;unfold sf;rw[lA1,lA1,lR1,lM1,lM1]
noncomputable def ln(p:Pos)(tg:Expr)(ifs:List Expr)(it:dM)(env:Env)(emit:Sem Unit)(c:Code):Sem PySem.Fin:=do
 M4 p
 match<-Nc it with
 |none=>pure (.done .next)
 |some v=>
  Nd tg it v
  MY tg env v
  let mut ok:=M
  for c in ifs do
   if ok then ok<-isTrue c env (eval c env)
  if ok then emit
  again c
noncomputable def oX(elt:Expr)(acc:dM)(env:Env):Sem Unit:=do let _<-call (.builtin "list.append") [acc,<- eval elt env]
noncomputable def qp(e:Expr)(iter:Expr)(acc:dM)(env:Env):Sem Unit:=do
 let x<-eval iter env
 M4 iter.pos
 let x<-Nj iter env x
 let _<-runOwn (.compStart e 1 (<- M3 [x] (Nf x)) acc env) env
theorem zl(elt tg iter:Expr)(ifs:List Expr)(scope:d4)(pos:Pos)(it acc:dM)(env:Env):
  Oc (.ListComp elt [⟨tg,iter,ifs,0⟩] scope pos) 0 it acc env=ln iter.pos tg ifs it env (oX elt acc env) (.compLoop (.ListComp elt [⟨tg,iter,ifs,0⟩] scope pos) 0 it acc env):=by rfl
noncomputable def Eo(p:Pos)(tg:Expr)(ifs:List Expr)(it:dM)(env:Env)(e iter:Expr)(acc:dM)(c:Code):Sem PySem.Fin:=do
 M4 p
 match<-Nc it with
 |none=>pure (.done .next)
 |some v=>
  Nd tg it v
  MY tg env v
  let mut ok:=M
  for c in ifs do
   if ok then ok<-isTrue c env (eval c env)
  if ok then
   let x<-eval iter env
   M4 iter.pos
   let x<-Nj iter env x
   let _<-runOwn (.compStart e 1 (<- M3 [x] (Nf x)) acc env) env
  again c
theorem Cj(p:Pos)(tg:Expr)(ifs:List Expr)(it:dM)(env:Env)(e iter:Expr)(acc:dM)(c:Code):Eo p tg ifs it env e iter acc c=ln p tg ifs it env (qp e iter acc env) c:=by
 unfold Eo ln qp;simp only[bind_assoc,pure_bind]
theorem EZ(elt tg iter tg2 iter2:Expr)(ifs ifs2:List Expr)(scope:d4)(pos:Pos)(it acc:dM)(env:Env):
  Oc (.ListComp elt [⟨tg,iter,ifs,0⟩,⟨tg2,iter2,ifs2,0⟩] scope pos) 0 it acc env =
   ln iter.pos tg ifs it env (qp (.ListComp elt [⟨tg,iter,ifs,0⟩,⟨tg2,iter2,ifs2,0⟩] scope pos) iter2 acc env) (.compLoop (.ListComp elt [⟨tg,iter,ifs,0⟩,⟨tg2,iter2,ifs2,0⟩] scope pos) 0 it acc env):=by
 rw[<- Cj];rfl
theorem EY(elt tg iter tg2 iter2:Expr)(ifs ifs2:List Expr)(scope:d4)(pos:Pos)(it acc:dM)(env:Env):
  Oc (.ListComp elt [⟨tg,iter,ifs,0⟩,⟨tg2,iter2,ifs2,0⟩] scope pos) 1 it acc env =
   ln iter2.pos tg2 ifs2 it env (oX elt acc env) (.compLoop (.ListComp elt [⟨tg,iter,ifs,0⟩,⟨tg2,iter2,ifs2,0⟩] scope pos) 1 it acc env):=by rfl
def py(X:Cx)(ifs:List Expr)(t:TT):Prop:=
 ∀(ag:List (dP×Obj)) (s:dN) (σ:L2.St) (H:Hp) (Q:Bool->Hp->Prop),Inv X ag σ H s->t σ H Q ->
  dX (MN X.prog X.w) X.A (forIn ifs M λc r=>if r=M then do let ok<-isTrue c X.env (eval c X.env);pure (Od ok)else pure (Od r)) (TP X ag σ Q) X.xe s
theorem Aa{X:Cx}:py X [] (fun σ H Q=>Q M H):=λag s σ H Q I h=>wpAny_tests_nil ⟨H,I,h⟩
theorem z0{X:Cx}{c:Expr}{t:TT}(h:PT X c t):py X [c] t:=λag s σ H Q I q=>wpAny_tests_one (h ag s σ H Q I q)
def PU(X:Cx)(m:Sem Unit)(t:TS):Prop:=
 ∀(ag:List (dP×Obj)) (s:dN) (σ:L2.St) (H:Hp) (E:jr),Inv X ag σ H s->t E σ H->dX (MN X.prog X.w) X.A m (λ_ s'=>∃ σ' H',Inv X ag σ' H' s'/\E.nx σ' H') X.xe s
theorem mX{X:Cx}(hx:X.xe=fun _ _=>False)(hc:X.calm=true){elt:Expr}{c:List Comprehension}{scope:d4}{pos p:Pos}{d:Nat}{tg:Expr}{ifs:List Expr}{acc:dM}{emit:Sem Unit}{am:It}{fp:List dP}{it:dP}{tn:Nat->dZ->Prop}{g:TG}{aq:TT}{tb:TS}(eq:Oc (.ListComp elt c scope pos) d (.ref it) acc X.env=ln p tg ifs (.ref it) X.env emit (.compLoop (.ListComp elt c scope pos) d (.ref it) acc X.env))(T:wb X.prog X.w X.K tg am fp it tn)(hg:PG X tg g)(hi:py X ifs aq)(he:PU X emit tb){ag:List (dP×Obj)}{s:dN}{σ:L2.St}{H:Hp}{D:jr}(I:Inv X ag σ H s)(st:tn 0 s.heap)(f2:∀b∈fp,kE X ag H b)(h:∃W:Nat->Nat->L2.St->Hp->Prop,(∃m,W 0 m σ H) /\ ∀i m σ H,W i m σ H ->
   (am.stop i H/\D.nx σ H)\/(am.go i H /\ ∃N:L2.St->Hp->Prop,(∀a H',N a H' -> ∃ao,ao<m/\W (i+1) ao a H') /\ ∀x H',am.yld i H x H'->g x σ H' λw H2=>aq w H2 λb t=>if b=M then tb {D with nx:=N} w t else N w t)):
  dY (MN X.prog X.w) X.A (.compLoop (.ListComp elt c scope pos) d (.ref it) acc X.env) (λr s'=>match r with | .ok _=>∃a H',Inv X ag a H' s'/\D.nx a H' | .error _=>False) s:=by
 obtain⟨W,⟨m0,w0⟩,G⟩:=h;have f:∀{H':Hp},(∀b∈fp,H' b=Y) -> ∀b∈fp,kE X ag H' b:=λhn b l=>⟨hn b l,(f2 b l).2⟩;refine codeAny_loop O (λn s'=>∃i a H',Inv X ag a H' s'/\tn i s'.heap/\(∀b∈fp,H' b=Y)/\W i n a H') ?_ m0 ⟨0,σ,H,I,st,λb l=>(f2 b l).1,w0⟩;rintro n au ⟨i,k,t,U,C,L,w3⟩;show dX _ _ ((Oc (.ListComp elt c scope pos) d (.ref it) acc X.env).onRaise (λx=>do noteFrame x X.env;theTreesLotGoes x)) _ _ au;refine wpAny_noted ?_;rw[eq];have z:∀{α:Type} {m:Sem α} {Q:α->dN->Prop} {s:dN} {E:dM->dN->Prop},dX (MN X.prog X.w) X.A m Q X.xe s->dX (MN X.prog X.w) X.A m Q E s:=λh=>by
  rw[hx]at h;exact MQ h (λ_ _ q=>q) λ_ _ q=>q.elim
 unfold ln;refine wB1 (M6 (wB1 ?_));rcases G i n k t w3 with⟨K,qn⟩|⟨go,N,hN,step⟩
 ·refine z (ft (T.done X O O O hc i ag au k t X.xe U (f L) C K) λr s4 ⟨S,I4⟩=>?_);subst S;exact wP1 ⟨k,t,I4,qn⟩
 ·refine z (ft (T.item X rfl rfl rfl hc i ag au k t X.xe U (f L) C go) fun r s4 ⟨u,S,h4⟩=>?_);subst S;refine wB1 (z (ft h4 fun _ s5 ⟨x,wq,I5,r5,y5,v,P⟩=>?_));have R:=I5.pinned (f P) (T.obj _ _ v);refine wB1 (z (ft (hg _ s5 k wq x u _ R r5 (step x wq y5)) fun _ s6 ⟨F,H6,I6,q6⟩=>?_));refine wB1 (z (ft (hi _ s6 F H6 _ I6 q6) fun ok B ⟨y,A,V⟩=>?_));have again':∀ {j:L2.St} {y:Hp} {B:dN},Inv X (ag++om fp s5.heap) j y B->N j y -> ∃ m,m<n /\ ∃ i a H',Inv X ag a H' B/\tn i B.heap/\(∀ b∈fp,H' b=none)/\W i m a H':=fun {j y B} A n7=>by
   obtain⟨ao,hm,w7⟩:=hN j y n7;refine⟨ao,hm,i+1,j,y,A.unpinned,T.keep _ _ _ v λb l o e=>(A.pin (b,o) (mA1 _ (mA1 _ (jd l e)))).1,λb l=>?_,w7⟩;obtain⟨o,e,d⟩:=T.obj _ _ v b l;exact(A.pin (b,o) (mA1 _ (mA1 _ (jd l e)))).2.1
  cases ok with
  |false=>exact wP1 ⟨O,again' A V⟩
  |true=>exact wB1 (z (ft (he _ B F y _ A V) λ_ s8 ⟨σ8,H8,I8,q8⟩=>wP1 ⟨O,again' I8 q8⟩))
def sZ(p:dP)(te:TE):TS:=λD σ H=>te σ H λx H1=>∃xs,H1 p=Z (.lst xs)/\xs.length<dW/\D.nx σ (upd H1 p (.lst (xs++[x])))
theorem rr{X:Cx}{elt:Expr}{te:TE}(h:PE X elt te)(p:dP):PU X (oX elt (.ref p) X.env) (sZ p te):=by
 intro ag s σ H E I q;unfold oX;refine wB1 (ft (h ag s σ H _ I q) λu f ⟨x,H1,a,d,xs,c,i,b⟩=>?_);refine wB1 (ft (p7 ag f σ H1 (.ref p) [x] (.ref p) [u] (λ_ H'=>E.nx σ H') a O (.cons d .nil) ⟨p,xs,x,O,O,c,i,b⟩) λ_ j ⟨_,H2,g,_,e⟩=>?_);exact wP1 ⟨σ,H2,g,e⟩
noncomputable def zv(am:It)(g:TG)(ti:TT)(tb:TS):TS:=λD σ H=>∃W:Nat->Nat->L2.St->Hp->Prop,(∃m,W 0 m σ H) /\ ∀i m σ H,W i m σ H ->
 (am.stop i H/\D.nx σ H)\/(am.go i H /\ ∃N:L2.St->Hp->Prop,(∀ σ' H',N σ' H' -> ∃m',m'<m/\W (i+1) m' σ' H') /\ ∀x H',am.yld i H x H'->g x σ H' fun σ2 H2=>ti σ2 H2 λb H3=>if b=M then tb {D with nx:=N} σ2 H3 else N σ2 H3)
def zt(wi:TI)(g:TG)(ti:TT)(tb:TS):TS:=λD σ H=>wi σ H λam H1=>zv am g ti tb D σ H1
theorem uH{prog:dQ}{w:dS}{A:dR}{R:Result->dN->Prop}{s:dN}{elt tg iter tg2 iter2:Expr}{ifs ifs2:List Expr}{scope:d4}{pos:Pos}{it acc:dM}{env:Env}(b:dY (MN prog w) A (.compLoop (.ListComp elt [⟨tg,iter,ifs,0⟩,⟨tg2,iter2,ifs2,0⟩] scope pos) 1 it acc env) R s)(h:dX (MN prog w) A (Nf it) (fun a s'=>dY (MN prog w) A (.compLoop (.ListComp elt [⟨tg,iter,ifs,0⟩,⟨tg2,iter2,ifs2,0⟩] scope pos) 1 a acc env) R s')
   (notedBy (MN prog w) A env λx s'=>R (.error x) s') s):
  dY (MN prog w) A (.compStart (.ListComp elt [⟨tg,iter,ifs,0⟩,⟨tg2,iter2,ifs2,0⟩] scope pos) 1 it acc env) R s:=by
 refine codeAny_of_tree ?_;show dX _ _ ((compStart (.ListComp elt [⟨tg,iter,ifs,0⟩,⟨tg2,iter2,ifs2,0⟩] scope pos) 1 it acc env).onRaise (λx=>do noteFrame x env;M4 theWindowsPlace)) _ _ s;refine wpAny_notedAt ?_;unfold compStart;show dX _ _ (ask >>= _) _ _ s;refine wB1 (wpAny_askSetting (wpAny_ite ?_));split
 ·first
   |exact wB1 (wP1 (wP1 (And.intro rfl b)))
   |exact wP1 (And.intro rfl b)
 ·first
   |exact wB1 (M9 (wB1 (M6 (wB1 (MQ h (λa s' h'=>wP1 (And.intro O h')) λ_ _ x=>x)))))
   |(refine wB1 (M9 ?_);show dX _ _ (M4 iter2.pos >>= _) _ _ s;exact wB1 (M6 (wB1 (MQ h (λa s' h'=>wP1 (And.intro O h')) λ_ _ x=>x))))
theorem CG{X:Cx}(hx:X.xe=fun _ _=>False)(hc:X.calm=true){elt tg iter tg2 iter2:Expr}{ifs ifs2:List Expr}{scope:d4}{pos:Pos}{acc:dM}{d:TI}{g:TG}{j:TT}{tb:TS}(hi:PI X tg2 iter2 d)(hg:PG X tg2 g)(hf:py X ifs2 j)(he:PU X (oX elt acc X.env) tb)(hs:autoParam (∀x,Nj iter2 X.env x=pure x) du0):
  PU X (qp (.ListComp elt [⟨tg,iter,ifs,0⟩,⟨tg2,iter2,ifs2,0⟩] scope pos) iter2 acc X.env) (zt d g j tb):=by
 intro ag s σ H E I q;unfold qp;refine wB1 (ft (hi ag s σ H _ I q) λv u h1=>?_);refine wB1 (M6 (wB1 (wpAny_of_eq (hs v) (wB1 (M5 (ft h1 λl k h2=>?_))))));obtain⟨it,fp,tn,am,H2,rfl,p,T,b,t,o⟩:=h2;have a:=mX hx hc (EY elt tg iter tg2 iter2 ifs ifs2 scope pos (.ref it) acc X.env) T hg hf he p b t o;refine wB1 (wpAny_runOwn (h:=Y) ?_);refine Nv (uH a (T.self X.A 0 k _ _ b a)) λr s' i=>?_;cases r with
 |error e=>exact i.elim
 |ok f=>
  obtain⟨c,H',m,n⟩:=i;exact wP1 ⟨c,H',m,n⟩
theorem Un.sameBut{fs ex:List dP}{H H':Hp}{h h1 h2:dZ}{c:dP}(u:Un fs ex H H' h h1)(hs:MM c h1 h2)(hc:h.get? c=Y):Un fs ex H H' h h2:=by
 have ne:∀{b o},h.get? b=Z o->b≠c:=λe z=>by rw[z,hc]at e;cases e
 refine⟨λb o e n d a=>(hs.2 b (ne e)).trans (u.keep b o e n d a),λb o e n d a=>?_,u.free,λb o e a=>?_,u.tups,u.frzs,u.tbls⟩
 ·obtain⟨f,q⟩:=u.slot b o e n d a;exact⟨f,(hs.2 b (ne e)).trans q⟩
 ·obtain⟨o',q⟩:=u.there b o e a;exact⟨o',(hs.2 b (ne e)).trans q⟩
def zw(k:Nat)(keep:List Nat)(wi:TI)(g:TG)(ti:TT)(tb:dP->TS):TE:=fun σ H Q=>wi σ H λam H1=>∀p,H1 p=Y ->
 zv am g ti (tb p) {nx:=λ_ H'=>Q (.ref p) H',rt:=λ_ _=>False} (sf k keep σ) (upd H1 p (.lst []))
theorem C0{X:Cx}(hc:X.calm=true){elt tg iter:Expr}{ifs:List Expr}{rest:List Comprehension}{scope:d4}{pos:Pos}{T:List Str}{keep:List Nat}{k:List (Str×dP)}{L:TI}{g:TG}{F:TT}{tb:dP->TS}{emit:dM->Env->Sem Unit}(eq:∀it j d,Oc (.ListComp elt (⟨tg,iter,ifs,0⟩::rest) scope pos) 0 it j d=ln iter.pos tg ifs it d (emit j d) (.compLoop (.ListComp elt (⟨tg,iter,ifs,0⟩::rest) scope pos) 0 it j d))(C:HN X scope T keep)(u:jU X.env.cells scope.names []=some k)(hi:PI X tg iter L)(hb:∀s H fp p,PG (cxC X scope k T keep s H fp) tg g/\py (cxC X scope k T keep s H fp) ifs F/\PU (cxC X scope k T keep s H fp) (emit (.ref p) (cxC X scope k T keep s H fp).env) (tb p))(hs:autoParam (∀x,Nj iter X.env x=pure x) du0):
  PE X (.ListComp elt (⟨tg,iter,ifs,0⟩::rest) scope pos) (zw T.length keep L g F tb):=by
 intro ag s σ H Q I h;rw[eval_ListComp];refine wpAny_comprehension_free (use:=Y) O hs (BD u) C.kind C.names ?_;refine ft (hi ag s σ H _ I h) λv s1 h1=>ft h1 λN a h2=>?_;obtain⟨it,fp,tn,am,H2,rfl,G,TT,w,ao,q2⟩:=h2;refine wO1 ?_;have D:Inv X ag σ (upd H2 a.heap.objs.size (.lst [])) {a with heap:=a.heap.push {cls:=.type "list",data:=.seq ([]:List dM).toArray}}:=G.lnew (t':=a.toks) .nil (bj _);have old:∀b∈fp,∃o,a.heap.get? b=Z o:=λb hb=>by
  obtain⟨o,e,_⟩:=TT.obj 0 a.heap w b hb;exact⟨o,e⟩
 have B:∀b∈fp,b≠a.heap.objs.size:=λb hb z=>by
  obtain⟨o,e⟩:=old b hb;have:=hL1 e;rw[z]at this;exact az _ this
 have A:∀b∈fp,kE X ag (upd H2 a.heap.objs.size (.lst [])) b:=λb hb=>⟨by rw[eE (B b hb)];exact(ao b hb).1,(ao b hb).2⟩;have P:∀b∈fp,∃o,({a with heap:=a.heap.push {cls:=.type "list",data:=.seq ([]:List dM).toArray}}:dN).heap.get? b=Z o:=λb hb=>by
  obtain⟨o,e⟩:=old b hb;exact⟨o,hP1 _ e⟩
 have y:=uj D C u A P;obtain⟨S,au,U⟩:=hb {a with heap:=a.heap.push {cls:=.type "list",data:=.seq ([]:List dM).toArray}} (upd H2 a.heap.objs.size (.lst [])) fp a.heap.objs.size;refine kK ?_;have V:∀b∈fp,kE (cxC X scope k T keep {a with heap:=a.heap.push {cls:=.type "list",data:=.seq ([]:List dM).toArray}} (upd H2 a.heap.objs.size (.lst [])) fp) [] (upd H2 a.heap.objs.size (.lst [])) b:=λb hb=>
  ⟨(A b hb).1,(y.ok.exf b hb).1,y.ok.exfs b hb,.inl hb,(y.ok.exf b hb).2,λp R=>absurd (show p∈([]:List (dP×Obj))from R) (by simp)⟩
 have n:tn 0 (pushCells ((a.heap.push {cls:=.type "list",data:=.seq ([]:List dM).toArray}).push {cls:=.type "dict",data:=.dict #[]}) scope.names):=
  TT.keep 0 a.heap _ w λb hb o e=>Oa scope.names _ b o (hP1 _ (hP1 _ e))
 have i:=mX (X:=cxC X scope k T keep {a with heap:=a.heap.push {cls:=.type "list",data:=.seq ([]:List dM).toArray}} (upd H2 a.heap.objs.size (.lst [])) fp) O hc (eq (.ref it) (.ref a.heap.objs.size) _) TT S au U y n V
  (q2 a.heap.objs.size (G.hok.fresh (nR1 _)))
 refine Nv (codeAny_compStart_list i (TT.self X.A 0 _ _ _ n i)) λr s' K=>?_;cases r with
 |error e=>exact K.elim
 |ok f=>
  obtain⟨σ',H',l,wq⟩:=K;obtain⟨m,W,_⟩:=id l.loc;refine⟨m,W,λh' t=>⟨.ref a.heap.objs.size,H',?_,O,wq⟩⟩;refine D.call' (s':={s' with heap:=h'}) (ch:=fp) l.os (Un.sameBut l.base t (MK (nR1 _))) (λb aq e=>?_) l.bare λb hb=>(A b hb).2.2.2 |> λz=>⟨z.1,(A b hb).2.1,z.2.1,z.2.2⟩
  refine(l.hok b aq e).stay (λc w' hc q=>(t.2 c ?_).trans q) (λ_ q=>q) λ_ _ q=>q;rintro rfl;have E:=l.free;rcases hc with rfl|hc
  ·exact nomatch E.symm.trans e
  ·exact nomatch E.symm.trans hc
section
variable{K:Fg1}{H:Hp}{mu:List dP}{S:d7}{p:dP}{u:HO}{o:Ob}{n:Nat}
theorem Rd.ne{a:dP}{x:HO}(h:H p=Y)(q:Rd H a x):a≠p:=by
 rintro rfl;rcases q with q|⟨_,q⟩<;>(rw[h]at q;cases q)
theorem Ext.fresh(hp:H p=Y):Ext mu mu H (upd H p u) where
 pre:=bo
 old:=λa o h _=>by rw[eE (eO h hp)];exact h
 tup:=λa xs h=>by
  have ne:=Rd.ne hp h;rcases h with h|⟨b,h⟩
  ·exact .inl (by rw[eE ne];exact h)
  ·exact .inr ⟨b,by rw[eE ne];exact h⟩
 frz:=λa o x h=>by rw[eE (eO h hp)];exact h
 new:=λ_ h=>.inl h
theorem Ext.new_(hp:H p=Y):Ext mu (mu++[p]) H (upd H p u) where
 pre:=bw _ _
 old:=(Ext.fresh (mu:=mu) hp).old
 tup:=(Ext.fresh (mu:=mu) hp).tup
 frz:=(Ext.fresh (mu:=mu) hp).frz
 new:=λa h=>by
  rcases aG.mp h with h|h
  ·exact .inl h
  ·have:a=p:=by simpa using h
   subst this;exact .inr hp
theorem Sim.fresh(s:Sim K H mu S)(hp:H p=Y):Sim K (upd H p u) mu S:=
 ⟨s.len,s.nd,λk o a h1 h2=>(s.ob k o a h1 h2).keep (Ext.fresh hp) λb e=>by rw[eE (eO e hp)];exact e⟩
theorem Sim.notin(s:Sim K H mu S)(hp:H p=Y):p∉mu:=λh=>by
 obtain⟨o,e⟩:=s.here h;rw[hp]at e;cases e
theorem nv.more{a:dP}{mu':List dP}{H':Hp}(e:Ext mu mu' H H')(h:∀o,H a=Z o->H' a=Z o):∀{o:Ob},nv K H mu a o->nv K H' mu' a o
 | .lst _,⟨vs,q,r⟩=>⟨vs,h _ q,r.ext e⟩
 | .dct _,⟨ws,q,r⟩=>⟨ws,h _ q,KR.ext e r⟩
 | .dcT _,⟨ws,q,r,l⟩=>⟨ws,h _ q,KT.ext e r,l⟩
 | .iset _,q=>⟨h _ q.1,q.2⟩
 | .dcF _,⟨ws,⟨o,u,c,b⟩,r,l⟩=>⟨ws,⟨o,u,h _ c,b⟩,KT.ext e r,l⟩
 | .tst _,⟨ws,q,r⟩=>⟨ws,h _ q,KT.ext e r⟩
theorem Sim.new(s:Sim K H mu S)(hp:H p=Y)(ho:nv K (upd H p u) (mu++[p]) p o):Sim K (upd H p u) (mu++[p]) (S++[o]):=by
 refine⟨by rw[lA1,lA1,s.len];rfl,?_,λk o' a h1 h2=>?_⟩
 ·rw[bB];refine⟨s.nd,by simp,λa f b g e=>?_⟩;have:b=p:=by simpa using g
  subst this;subst e;exact s.notin hp f
 ·by_cases d:k<S.length
  ·rw[gL1 d]at h1;rw[gL1 (by rw[s.len];exact d)]at h2;exact(s.ob k o' a h1 h2).more (Ext.new_ hp) λh e=>by rw[eE (eO e hp)];exact e
  ·have c:k=S.length:=by
    have:=(Px h1).1;rw[lA1]at this;simp at this;lia
   subst c;rw[gR1 (nR1 _)]at h1;rw[<- s.len,gR1 (nR1 _)]at h2;simp at h1 h2;subst h1;subst h2;exact ho
theorem Ext.put{x:HO}(hp:H p=Z x)(hm:HH (Z x))(b:p∈mu):Ext mu mu H (upd H p u) where
 pre:=bo
 old:=λa o h n=>by rw[eE (λe=>n (by rw[e];exact b))];exact h
 tup:=λa xs h=>by
  have ne:a≠p:=by
   rintro rfl;rcases h with h|⟨_,h⟩<;>(rw[hp]at h;cases h;exact hm)
  rcases h with h|⟨c,h⟩
  ·exact .inl (by rw[eE ne];exact h)
  ·exact .inr ⟨c,by rw[eE ne];exact h⟩
 frz:=λa o y h=>by
  rw[eE (λe=>?_)]
  ·exact h
  ·subst e;rw[hp]at h;cases h;exact hm
 new:=λ_ h=>.inl h
theorem Sim.put(s:Sim K H mu S){x:HO}(hn:mu[n]?=Z p)(hp:H p=Z x)(hm:HH (Z x))(ho:nv K (upd H p u) mu p o):Sim K (upd H p u) mu (S.set n o):=by
 refine⟨by rw[aY];exact s.len,s.nd,λk o' a h1 h2=>?_⟩;by_cases b:n=k
 ·subst b;have f:n<S.length:=by
   have:=(Px h1).1
   rwa [aY]at this
  rw[aJ f]at h1;cases h1;rw[hn]at h2;cases h2;exact ho
 ·rw [gS1 b] at h1;have ne:a≠p:=fun e=>by
   subst e;obtain⟨g,c⟩:=Px hn;obtain⟨h,d⟩:=Px h2;exact b ((aI s.nd).mp (c.trans d.symm))
  exact(s.ob k o' a h1 h2).keep (Ext.put hp hm (gM1 hn)) λi e=>by rw[eE ne];exact e
theorem Sim.lst(s:Sim K H mu S){ds:List D}{a:dP}(h:S[n]?=Z (.lst ds))(hn:mu[n]?=Z a):∃vs,H a=Z (.lst vs)/\ej K H mu ds vs:=s.ob n _ a h hn
theorem Sim.dcT(s:Sim K H mu S){ks:List (TK×D)}{a:dP}(h:S[n]?=Z (.dcT ks))(hn:mu[n]?=Z a):∃ws,H a=Z (.ext (iM a ws))/\KT K H mu ks ws/\ws.length<=dW:=s.ob n _ a h hn
theorem Sim.iset(s:Sim K H mu S){xs:List Int}{a:dP}(h:S[n]?=Z (.iset xs))(hn:mu[n]?=Z a):H a=Z (.set (λk=>xs.contains k) xs.length)/\xs.Nodup:=s.ob n _ a h hn
theorem Sim.dct(s:Sim K H mu S){ks:List (Key×D)}{a:dP}(h:S[n]?=Z (.dct ks))(hn:mu[n]?=Z a):∃ws,H a=Z (.dK ws)/\KR K H mu ks ws:=s.ob n _ a h hn
theorem Sim.newL(s:Sim K H mu S){ds:List D}{vs:List V}(r:ej K H mu ds vs)(hp:H p=Y):Sim K (upd H p (.lst vs)) (mu++[p]) (S++[.lst ds]):=s.new hp ⟨vs,eJ,r.ext (Ext.new_ hp)⟩
theorem Sim.putL(s:Sim K H mu S){ds:List D}{vs ws:List V}(r:ej K H mu ds vs)(hn:mu[n]?=Z p)(hp:H p=Z (.lst ws)):Sim K (upd H p (.lst vs)) mu (S.set n (.lst ds)):=
 s.put hn hp trivial ⟨vs,eJ,r.ext (Ext.put hp trivial (gM1 hn))⟩
end
theorem gz{mu:List dP}{S:d7}(h:mu.length=S.length)(p:dP):(mu++[p])[S.length]?=Z p:=by
 rw[<- h,gR1 (nR1 _)];simp
noncomputable def fw (a:FA):FE:=λr S=>(a r S).bind λp=>if p.1.length<=dW then some (.tup p.1,p.2)else none
noncomputable def hM (a:FA):FE:=λr S=>(a r S).bind λp=>if p.1.length<=dW then some (.ref p.2.length,p.2++[.lst p.1])else none
section
variable{es:List Expr}{pos:Pos}{a:FA}
theorem GF{x1}(h:MA X es a):ME X (.Tuple es x1 pos) (fw a):=ff (F2 h) <| by
 rintro σ H Q ⟨r,mu,S,d,l,g,i,b,hc⟩;obtain⟨⟨ds,m⟩,f,b⟩:=Py b;dsimp only at b;split at b
 ·rename_i k;cases b;refine⟨r,mu,S,ds,_,g,i,f,λvs H1 mu1 x1 e j=>⟨by rw[<- e.length];exact k,λp c=>?_⟩⟩;exact hc _ _ mu1 (x1.trans (Ext.fresh c)) (.tup (kC.of eJ) (e.ext (Ext.fresh c))) (j.fresh c)
 ·cases b
theorem GK(h:MA X es a):ME X (.List es pos) (hM a):=ff (F6 h) <| by
 rintro σ H Q ⟨r,mu,S,d,m,i,k,b,hc⟩;obtain⟨⟨ds,n⟩,g,b⟩:=Py b;dsimp only at b;split at b
 ·rename_i l;cases b;refine⟨r,mu,S,ds,_,i,k,g,λvs H1 mu1 j e f=>⟨by rw[<- e.length];exact l,λp c=>?_⟩⟩;exact hc _ _ (mu1++[p]) (j.trans (Ext.new_ c)) (.ref (gz f.len p)) (f.newL e c)
 ·cases b
end
noncomputable def vN(k:Nat)(keep:List Nat)(r:Ev):Ev:=aR k Y++keep.map λi=>(r[i]?).join
def fu:FT:=λ_ S=>Z (M,S)
theorem Jb{K:Fg1}{H:Hp}{mu:List dP}{r:Ev}{σ:L2.St}(k:Nat)(keep:List Nat)(h:fN K H mu r σ):fN K H mu (vN k keep r) (sf k keep σ):=by
 refine⟨by unfold vN sf;rw[lA1,lA1,lM1,lM1,lR1,lR1],λi d e=>?_⟩;unfold vN at e;unfold sf;by_cases hi:i<k
 ·rw[gL1 (by rw[lR1];exact hi),aU]at e;split at e<;>cases e
 ·rw [gR1 (by rw [lR1];lia),lR1,gP1] at e;rw [gR1 (by rw [lR1];lia),lR1,gP1];obtain ⟨j,f,e⟩:=Pz e;rw [f];have b:r[j]? = some (some d):=by
   cases q:r[j]? with
   |none=>rw[q]at e;cases e
   |some o=>rw[q]at e;cases e;rfl
  obtain⟨v,c,a⟩:=h.val j d b;exact⟨v,by rw[oP1,c];rfl,a⟩
theorem Ab{ifs:List Expr}{t t':L2.TT}(h:py X ifs t)(i:∀ σ H Q,t' σ H Q->t σ H Q):py X ifs t':=λag s σ H Q I q=>h ag s σ H Q I (i σ H Q q)
theorem Dl:py X [] (zu X.K fu):=Ab Aa fun σ H Q ⟨r,mu,S,b,e,d,a,c,hc⟩=>by cases c;exact hc H mu (.refl _ _) a
theorem Dk{c:Expr}{t:FT}(h:MT X c t):py X [c] (zu X.K t):=z0 h
open PySem.AutoSeq1 (wpAny_loadPart')
def SIt(b:Bool)(h:dZ)(it a:dP)(i:Nat):Prop:=match b with
 |true=>h.IsListIter it a i
 |false=>h.IsTupleIter it a i
def SCo(b:Bool)(h:dZ)(a:dP)(xs:Array dM):Prop:=match b with
 |true=>h.IsList a xs
 |false=>h.IsTuple a xs
theorem SIt.to{b:Bool}{h h':dZ}{it a:dP}{i:Nat}(x:SIt b h it a i)(k:∀o,h.get? it=Z o->h'.get? it=Z o):SIt b h' it a i:=by
 cases b<;>(obtain⟨o,e,r⟩:=x;exact⟨o,k o e,r⟩)
theorem SIt.rec_{b:Bool}{h:dZ}{it a:dP}{i:Nat}(x:SIt b h it a i):∃o,h.get? it=Z o /\ ∀v,o.data ≠ .cell v:=by
 cases b<;>(obtain⟨o,e,c,d⟩:=x;exact⟨o,e,λv z=>by rw[d]at z;cases z⟩)
theorem SCo.to{b:Bool}{h h':dZ}{a:dP}{xs:Array dM}(x:SCo b h a xs)(k:∀o,h.get? a=Z o->h'.get? a=Z o):SCo b h' a xs:=by
 cases b<;>(obtain⟨o,e,r⟩:=x;exact⟨o,k o e,r⟩)
noncomputable def gv(b:Bool)(a:dP):Obj:=match b with
 |true=>{cls:=.type "list_iterator",data:=.fields #[.ref a,.int 0 0]}
 |false=>{cls:=.type "tuple_iterator",data:=.fields #[.ref a,.int 0 0]}
variable{prog:dQ}{w:dS}{A:dR}{E:dM->dN->Prop}{s:dN}
theorem rj{b:Bool}{h:dZ}{it a:dP}(e:h.get? it=Z (gv b a)):SIt b h it a 0:=by
 cases b<;>exact⟨_,e,O,O⟩
theorem jA{b:Bool}{a:dP}{xs:Array dM}{Q:dM->dN->Prop}(x:SCo b s.heap a xs)(h:Q (.ref s.heap.objs.size) {s with heap:=s.heap.push (gv b a)}):dX (MN prog w) A (Nf (.ref a)) Q E s:=by
 cases b
 ·exact wpAny_pyIter_tuple x h
 ·exact wpAny_pyIter_list x h
theorem Av{it l:dP}{i:Nat}{xs:Array dM}{x:dM}{Q:dM->dN->Prop}(e:s.heap.IsTupleIter it l i)(tl:s.heap.IsTuple l xs)(hx:xs[i]? = Z x)(f:∀h',h'.IsTupleIter it l (i+1)->MM it s.heap h'->Q x {s with heap:=h'}):dX (MN prog w) A (Oe (.ref it)) Q E s:=by
 obtain⟨o,b,hc,a⟩:=id e;obtain⟨h,c,_,g,d⟩:=tl;unfold Oe;refine wB1 (NM (name:=NN "__next__") e.typeIs Of (wE1 Of e.typeIs F.entry_tuple_iterator_next ?_ (F.args_tuple_iterator_next_1 _)));show dX _ _ (field (.ref it) 0 >>= _) _ _ s;refine wB1 (NL b a (x:=.ref l) O ?_);show dX _ _ (if(Mz l == ab)=M then _ else _) _ _ s;rw[aj (show¬ ((Mz l == ab)=M)from aL)];show dX _ _ (field (.ref it) 1 >>= _) _ _ s;refine wB1 (NL b a (x:=.int i 0) O ?_);show dX _ _ (seqItems? (.ref l) >>= _) _ _ s;refine wB1 (Oh c d ?_);simp only[NF,hx];refine wB1 (wpAny_setField b a (by simp) (wP1 ⟨x,O,wP1 (f _ ⟨_,hW1 _ b (Obj.isFreed_of_fields (Obj.data_mapFields a _)),(Obj.cls_mapFields ..).trans hc,by rw[Obj.data_mapFields a];simp[Ng]⟩ (Heap.SameBut.update ..))⟩))
theorem rS {it l:dP}{i:Nat}{xs:Array dM}{Q:dM->dN->Prop}(h:A.handled=none)(f:s.heap.IsTupleIter it l i)(tl:s.heap.IsTuple l xs)(hx:xs[i]? = none)
  (j:∀h' e,Heap.ExtBut it s.heap h'->(∃o,h'.get? e=Z o/\o.cls = .type "StopIteration")->E (.ref e) {s with heap:=h'}):dX (MN prog w) A (Oe (.ref it)) Q E s:=by
 obtain⟨o,g,hc,c⟩:=id f;obtain⟨n,b,_,k,d⟩:=tl;unfold Oe;refine wB1 (NM (name:=NN "__next__") f.typeIs Of (wE1 Of f.typeIs F.entry_tuple_iterator_next ?_ (F.args_tuple_iterator_next_1 _)));show dX _ _ (field (.ref it) 0 >>= _) _ _ s;refine wB1 (NL g c (x:=.ref l) O ?_);show dX _ _ (if(Mz l == ab)=M then _ else _) _ _ s;rw[aj (show¬ ((Mz l == ab)=M)from aL)];show dX _ _ (field (.ref it) 1 >>= _) _ _ s;refine wB1 (NL g c (x:=.int i 0) O ?_);show dX _ _ (seqItems? (.ref l) >>= _) _ _ s;refine wB1 (Oh b d ?_);simp only[NF,hx];refine wB1 (M9 (wB1 (wpAny_setField g c (by simp) ?_)));show dX _ _ (newExc (.type "StopIteration") [] >>= _) _ _ _;refine wB1 ?_;simp only[newExc,newTuple];refine wB1 (wO1 ?_ (by size_fits));refine wB1 (m:=Oi _ _) (wpAny_of_eq (a:=ab) (by first|rfl|(simp only[Oi];rfl)) ?_);refine wO1 ?_ (by size_fits);simp only[raiseNew];refine wB1 (wpAny_handled ?_)
 first|rw[show A.in1.handled=Y from h] | rw[h]
 refine wB1 (wP1 (wpAny_throw ?_));exact j _ _ (((Heap.SameBut.update ..).extBut.push _).push _) ⟨_,hS1 _ O,O⟩
theorem lY{b:Bool}{it l:dP}{i:Nat}{xs:Array dM}{x:dM}{Q:dM->dN->Prop}(c:SIt b s.heap it l i)(tl:SCo b s.heap l xs)(hx:xs[i]? = Z x)(a:∀h',SIt b h' it l (i+1)->MM it s.heap h'->Q x {s with heap:=h'}):dX (MN prog w) A (Oe (.ref it)) Q E s:=by
 cases b
 ·exact Av c tl hx a
 ·exact wpAny_nextOf_list_item c tl hx a
theorem ja {b:Bool}{it l:dP}{i:Nat}{xs:Array dM}{Q:dM->dN->Prop}(a:A.handled=none)(d:SIt b s.heap it l i)(tl:SCo b s.heap l xs)(hx:xs[i]? = none)
  (c:∀h' e,Heap.ExtBut it s.heap h'->(∃o,h'.get? e=Z o/\o.cls = .type "StopIteration")->E (.ref e) {s with heap:=h'}):dX (MN prog w) A (Oe (.ref it)) Q E s:=by
 cases b
 ·exact rS a d tl hx c
 ·exact wpAny_nextOf_list_end a d tl hx c
theorem Bv{b:Bool}(l:dP)(xs:Array dM):
  Meets (Builtin.«enumerate.__new__» ⟨[.type "enumerate",.ref l],[]⟩) (λ_ R s=>SCo b s.heap l xs /\
   R (.ok (.ret (.ref (s.heap.push (gv b l)).objs.size))) {s with heap:=(s.heap.push (gv b l)).push {cls:=.type "enumerate",data:=.fields #[.none,.bool J,.ref s.heap.objs.size,Ng 0,.none,.none]}}):=
 .of_wp λprog w A R s h=>by
  obtain⟨a,g,d,tk,k⟩:=s;obtain⟨j,h⟩:=h;have i:=sub_enumerate
  have f:SCo b (Shared.heap ⟨a,g,d,tk,k⟩) l xs:=j;obtain⟨m,el⟩:∃o,a.get? l=some o:=by cases b<;>(obtain⟨o,e,_⟩:=j;exact⟨o,e⟩)
  wp_walk using wpAny_loadPart' el
  refine wpAny_stack_any λst=>wP1 ?_;split
  ·rename_i c _ _ _ _ _;cases(c == MB "enumerate")<;>(wp_walk using wpAny_loadPart' el,jA f;exact⟨_,O,h⟩)
  ·wp_walk using wpAny_loadPart' el,jA f
   exact⟨_,O,h⟩
theorem yC{b:Bool}{l:dP}{xs:Array dM}{Q:dM->dN->Prop}(f:SCo b s.heap l xs)(h:∀h',Oj h' (s.heap.objs.size+1) s.heap.objs.size 0 .none->SIt b h' s.heap.objs.size l 0->h'.objs.size=s.heap.objs.size+2->(∀b o,s.heap.get? b=some o->h'.get? b=some o)->Q (.ref (s.heap.objs.size+1)) {s with heap:=h'}):
  dX (MN prog w) A (call (.type "enumerate") [.ref l]) Q E s:=by
 refine callType_new F.called_enumerate (by decide) (F.typeCall_enumerate_1 _) (F.newCall_enumerate_1 _) (λa=>F.args_object_init_2 a _) F.entry_enumerate_new (Bv (b:=b) l xs) ⟨f,?_⟩;have d:(s.heap.push (gv b l)).objs.size=s.heap.objs.size+1:=hZ1 ..
 show _/\_;rw[d];have e:Oj ((s.heap.push (gv b l)).push {cls:=.type "enumerate",data:=.fields #[.none,.bool J,.ref s.heap.objs.size,Ng 0,.none,.none]}) (s.heap.objs.size+1) s.heap.objs.size 0 .none:=by
  have q:=hS1 (s.heap.push (gv b l)) (o:={cls:=.type "enumerate",data:=.fields #[.none,.bool J,.ref s.heap.objs.size,Ng 0,.none,.none]}) O;rw[d]at q;exact q
 have hi:(s.heap.push (gv b l)).get? s.heap.objs.size=Z (gv b l):=hS1 _ (by cases b<;>rfl);refine⟨⟨_,e,O⟩,h _ e (rj (hP1 _ hi)) (by rw[hZ1,d]) λc o x=>hP1 _ (hP1 _ x)⟩
theorem yB {b:Bool}{e it l:dP}{i:Nat}{xs:Array dM}{x old:dM}{Q:Option dM->dN->Prop}(he:Oj s.heap e it i old)(V:SIt b s.heap it l i)(tl:SCo b s.heap l xs)(hx:xs[i]? = some x)(h:e≠it)
  (U:∀h',IsEnumOut h' e it ((i:Int)+1) x s.heap.objs.size->SIt b h' it l (i+1)->h'.get? s.heap.objs.size=Z {cls:=.type "tuple",data:=.seq #[.int i s.toks,x]}->h'.objs.size=s.heap.objs.size+1 ->
   (∀b o,b≠e->b≠it->s.heap.get? b=Z o->h'.get? b=Z o)->Q (Z (.ref s.heap.objs.size)) {s with heap:=h',toks:=s.toks+1}):dX (MN prog w) A (Nc (.ref e)) Q E s:=by
 have T:s.TypeIs (.ref e) "enumerate":=⟨_,he,O⟩;unfold Nc;refine wB1 (Ol (NM (name:=NN "__next__") T Om (wE1 Om T F.entry_enumerate_next ?_ (F.args_enumerate_next_1 _))));obtain⟨k,g,d,tk,t⟩:=s;show dX _ _ (field (.ref e) 2 >>= _) _ _ _;refine wB1 (NL he O (x:=.ref it) O ?_);refine wB1 (lY V tl hx λh1 H G=>?_);replace G:MM it k h1:=G;have r:Oj h1 e it i old:=(G.2 e h).trans he;show dX _ _ (field (.ref e) 3 >>= _) _ _ ⟨h1,g,d,tk,t⟩;refine wB1 (NL r O (x:=Ng i) O ?_);show dX _ _ (field (.ref e) 4 >>= _) _ _ ⟨h1,g,d,tk,t⟩;refine wB1 (NL r O (x:=.none) O ?_);show dX _ _ (mkInt i >>= _) _ _ ⟨h1,g,d,tk,t⟩;refine wB1 (wpAny_mkInt ?_);show dX _ _ (setField (.ref e) 3 (Ng ((i:Int)+1)) >>= _) _ _ ⟨h1,g,d,tk+1,t⟩;refine wB1 (wS1 r (by simp) λh2 m D=>?_);replace D:MM e h1 h2:=D;replace m:Oj h2 e it ((i:Int)+1) old:=m;show dX _ _ (setField (.ref e) 4 .none >>= _) _ _ ⟨h2,g,d,tk+1,t⟩;refine wB1 (wS1 m (by simp) λh3 j C=>?_);replace C:MM e h2 h3:=C;replace j:Oj h3 e it ((i:Int)+1) old:=j;show dX _ _ (newTuple [.int i tk,x] >>= _) _ _ ⟨h3,g,d,tk+1,t⟩;refine wB1 (On ?_);have p:Oj (h3.push {cls:=.type "tuple",data:=.seq #[.int i tk,x]}) e it ((i:Int)+1) old:=hP1 _ j;generalize f:h3.push {cls:=.type "tuple",data:=.seq #[.int i tk,x]}=h4 at p;have n:h3.objs.size=k.objs.size:=by rw[C.1,D.1,G.1]
 have R:e<k.objs.size:=hL1 he;have ao:h4.get? k.objs.size=Z {cls:=.type "tuple",data:=.seq #[.int i tk,x]}:=by rw[<- f,<- n];exact hS1 _ O
 have N:h4.objs.size=k.objs.size+1:=by rw[<- f,hZ1,n]
 have P:∀b o,b≠e->b≠it->k.get? b=Z o->h4.get? b=Z o:=λb o a y au=>by
  rw[<- f];exact hP1 _ (C.extBut b o a (D.extBut b o a (G.extBut b o y au)))
 have S:SIt b h4 it l (i+1):=H.to λo q=>by rw[<- f];exact hP1 _ (C.extBut _ _ (ML h) (D.extBut _ _ (ML h) q))
 show dX _ _ (Oo (.ref e) >>= _) _ _ ⟨h4,g,d,tk+1,t⟩;rw[n];clear f j C m D r G H n h3 h2 h1;refine wB1 ?_;unfold Oo;refine wB1 (NL p O (x:=.none) O (wP1 ?_));simp only[NJ];refine wB1 (M9 ?_);refine wB1 (NL p O (x:=old) O ?_);refine wB1 (wS1 p (by simp) λh5 B am=>?_);replace am:MM e h4 h5:=am;replace B:Oj h5 e it ((i:Int)+1) x:=B;show dX _ _ (Op (.ref e) (.ref k.objs.size) >>= _) _ _ ⟨h5,g,d,tk+1,t⟩;refine wB1 ?_;unfold Op;refine wB1 (wS1 B (by simp) λh6 u I=>?_);replace I:MM e h5 h6:=I;replace u:IsEnumOut h6 e it ((i:Int)+1) x k.objs.size:=u;refine wS1 u (by simp) λh7 v K=>?_;replace K:MM e h6 h7:=K;replace v:IsEnumOut h7 e it ((i:Int)+1) x k.objs.size:=v;have L:∀c o,c≠e->h4.get? c=Z o->h7.get? c=Z o:=λc o z q=>K.extBut _ _ z (I.extBut _ _ z (am.extBut _ _ z q));refine wB1 (Oq (wP1 ⟨_,O,wP1 (U h7 v (S.to λo q=>L _ o (ML h) q) (L _ _ (nG1 R) ao) (by rw[K.1,I.1,am.1,N]) λc o a y au=>L c o a (P c o a y au))⟩))
theorem Bw{b:Bool}{e it l:dP}{i:Nat}{xs:Array dM}{old:dM}{Q:Option dM->dN->Prop}(h:A.handled=Y)(he:Oj s.heap e it i old)(g:SIt b s.heap it l i)(tl:SCo b s.heap l xs)(hx:xs[i]? = Y)(f:∀h',Heap.ExtBut it s.heap h'->Q Y {s with heap:=h'}):dX (MN prog w) A (Nc (.ref e)) Q E s:=by
 have d:s.TypeIs (.ref e) "enumerate":=⟨_,he,O⟩;unfold Nc;refine wB1 (Ol (NM (name:=NN "__next__") d Om (wE1 Om d F.entry_enumerate_next ?_ (F.args_enumerate_next_1 _))));show dX _ _ (field (.ref e) 2 >>= _) _ _ _;refine wB1 (NL he O (x:=.ref it) O ?_);refine wB1 (ja h g tl hx λh' x a c=>?_);obtain⟨o,j,hc⟩:=c;refine wB1 (Os (T:="StopIteration") (b:=M) ⟨o,j,hc⟩ Ot ?_);exact wP1 (f _ a)
theorem qo{e it:dP}{i:Int}{old:dM}{Q:dM->dN->Prop}(he:Oj s.heap e it i old)(h:Q (.ref e) s):dX (MN prog w) A (Nf (.ref e)) Q E s:=by
 have a:s.TypeIs (.ref e) "enumerate":=⟨_,he,O⟩;refine wpAny_pyIter_slot a F.slot_enumerate_iter (wE1 F.slot_enumerate_iter a F.entry_enumerate_iter ?_ (F.args_enumerate_iter_1 _));show dX _ _ (ret (.ref e)) _ _ s;exact wP1 ⟨_,O,"enumerate",_,a,F.slot_enumerate_next.lookup,h⟩
open PySem.AutoSeq1 (wpAny_loadPart')
structure K6 (z ti to i1 i2:dP):Prop where
 a1:ti≠z
 a2:to≠z
 a3:i1≠z
 a4:i2≠z
 a5:ti≠to
 a6:ti≠i1
 a7:ti≠i2
 a8:to≠i1
 a9:to≠i2
 a10:i1≠i2
section
variable{b1 b2:Bool}
theorem SCo.ne{b:Bool}{h:dZ}{a c:dP}{xs:Array dM}{o:Obj}(x:SCo b h a xs)(e:h.get? c=Z o)(n:∀ys k,o.data ≠ .seq ys k):a≠c:=by
 rintro rfl;cases b<;>(obtain⟨o',f,g,k,d⟩:=x;rw[e]at f;cases f;exact n _ _ d)
theorem SCo.ne_it{b f:Bool}{h:dZ}{a it l:dP}{xs:Array dM}{i:Nat}(x:SCo b h a xs)(y:SIt f h it l i):a≠it:=by
 cases f<;>(obtain⟨o,e,c,d⟩:=y;exact x.ne e λys k z=>by rw[d]at z;cases z)
theorem yT{z g to i1 i u m:dP}{au P:Nat}{xs ys:Array dM}{x y a b:dM}{Q:Option dM->dN->Prop}(D:K6 z g to i1 i)(hz:Ou s.heap z g to .none)(wq:Ov s.heap g (.ref i1) (.ref i))(V:Ov s.heap to a b)(n1:u≠to)(n2:m≠to)(h1:SIt b1 s.heap i1 u au)(h2:SIt b2 s.heap i m P)(c1:SCo b1 s.heap u xs)(S:SCo b2 s.heap m ys)(hx:xs[au]?=some x)(hy:ys[P]?=some y)(hQ:∀h',Ou h' z g to (Ng s.heap.objs.size)->Ov h' to x y->SIt b1 h' i1 u (au+1)->SIt b2 h' i m (P+1)->Ov h' s.heap.objs.size x y->h'.objs.size=s.heap.objs.size+1 ->
   (∀c o,c≠z->c≠to->c≠i1->c≠i->s.heap.get? c=Z o->h'.get? c=Z o)->Q (Z (.ref s.heap.objs.size)) {s with heap:=h'}):dX (MN prog w) A (Nc (.ref z)) Q E s:=by
 have hT:s.TypeIs (.ref z) "zip":=⟨_,hz,O⟩;have X:u≠z:=c1.ne hz λ_ _ q=>by cases q
 have l2z:m≠z:=S.ne hz λ_ _ q=>by cases q
 have C:m≠i1:=S.ne_it h1;unfold Nc;refine wB1 (Ol (NM (name:=NN "__next__") hT Ow (wE1 Ow hT F.entry_zip_next ?_ (F.args_zip_next_1 _))));show dX _ _ (field (.ref z) 2 >>= _) _ _ _;refine wB1 (NL hz O (x:=.bool J) O ?_);show dX _ _ (field (.ref z) 3 >>= _) _ _ _;refine wB1 (NL hz O (x:=.ref g) O ?_);refine wB1 (Oh wq O ?_);show dX _ _ (Oo (.ref z) >>= _) _ _ _;refine wB1 ?_;unfold Oo;refine wB1 (NL hz O (x:=.none) O (wP1 ?_));simp only[NJ];refine wB1 (M9 ?_);refine wB1 (NL hz O (x:=.ref to) O ?_);refine wB1 (wS1 hz (by simp) λg1 n t=>?_);replace n:Ou g1 z g to .ellipsis:=n;refine wB1 ?_;simp only[bN,List.zipIdx_nil,bH,List.forIn_nil];refine wB1 (wB1 (wpAny_onRaise ?_));show dX _ _ (Oe (.ref i1) >>= _) _ _ _
 refine wB1 (lY (h1.to λo q=>t.extBut _ _ D.a3 q) (c1.to λo q=>t.extBut _ _ X q) hx λg2 h12 B=>wP1 ?_);have k:Ov g2 to a b:=B.extBut _ _ D.a8 (t.extBut _ _ D.a2 V);refine wB1 (Oh k O ?_);refine wB1 (Ox k λg3 f v=>?_);replace f:Ov g3 to x b:=f;refine wB1 (Oq (wP1 ?_));refine wB1 (wB1 (wpAny_onRaise ?_));show dX _ _ (Oe (.ref i) >>= _) _ _ _
 refine wB1 (lY (h2.to λo q=>v.extBut _ _ D.a9.symm (B.extBut _ _ D.a10.symm (t.extBut _ _ D.a4 q))) (S.to λo q=>v.extBut _ _ n2 (B.extBut _ _ C (t.extBut _ _ l2z q))) hy λg4 h24 G=>wP1 ?_);have j:Ov g4 to x b:=G.extBut _ _ D.a9 f;refine wB1 (Oh j O ?_);refine wB1 (Ox j λd e ao=>?_);replace e:Ov d to x y:=e;refine wB1 (Oq (wP1 (wP1 ?_)));refine wB1 (Oh e O ?_);refine wB1 (On ?_);have I:d.objs.size=s.heap.objs.size:=by rw[ao.1,G.1,v.1,B.1,t.1]
 have L:Ou d z g to .ellipsis:=ao.extBut _ _ D.a2.symm (G.extBut _ _ D.a4.symm (v.extBut _ _ D.a2.symm (B.extBut _ _ D.a3.symm n)));have hk5:∀c o,c≠z->c≠to->c≠i1->c≠i->s.heap.get? c=Z o->d.get? c=Z o:=λc o p R aq T q=>ao.extBut _ _ R (G.extBut _ _ T (v.extBut _ _ R (B.extBut _ _ aq (t.extBut _ _ p q))));have U:SIt b1 d i1 u (au+1):=h12.to λo q=>ao.extBut _ _ D.a8.symm (G.extBut _ _ D.a10 (v.extBut _ _ D.a8.symm q));have W:SIt b2 d i m (P+1):=h24.to λo q=>ao.extBut _ _ D.a9.symm q;have l:z<d.objs.size:=hL1 L;show dX _ _ (Op (.ref z) (.ref d.objs.size) >>= _) _ _ _;refine wB1 ?_;unfold Op;have hz6:Ou (d.push {cls:=.type "tuple",data:=.seq #[x,y]}) z g to .ellipsis:=hP1 _ L;refine wB1 (wS1 hz6 (by simp) λg7 r s7=>?_);replace r:Ou g7 z g to (Ng d.objs.size):=r;refine wS1 r (by simp) λH h s8=>?_;replace h:Ou H z g to (Ng d.objs.size):=h;have N:∀c o,c≠z->d.get? c=Z o->H.get? c=Z o:=λc o p q=>s8.extBut _ _ p (s7.extBut _ _ p (hP1 _ q));have K:Ov H d.objs.size x y:=s8.extBut _ _ (nG1 l) (s7.extBut _ _ (nG1 l) (hS1 _ O));have am:H.objs.size=d.objs.size+1:=by rw[s8.1,s7.1,hZ1]
 rw[I]at h K am;refine wP1 ⟨_,O,wP1 ?_⟩;show Q (Z (.ref d.objs.size)) _;rw[I]
 exact hQ H h (N _ _ D.a2 e) (U.to λo q=>N _ o D.a3 q) (W.to λo q=>N _ o D.a4 q) K am λc o p R aq T q=>N c o p (hk5 c o p R aq T q)
theorem B9{z n to i1 p G v:dP}{K R:Nat}{xs ys:Array dM}{a b:dM}{Q:Option dM->dN->Prop}(wq:A.handled=Y)(D:K6 z n to i1 p)(hz:Ou s.heap z n to .none)(ao:Ov s.heap n (.ref i1) (.ref p))(I:Ov s.heap to a b)(n1:G≠to)(n2:v≠to)(h1:SIt b1 s.heap i1 G K)(h2:SIt b2 s.heap p v R)(au:SCo b1 s.heap G xs)(H:SCo b2 s.heap v ys)(t:xs[K]?=Y\/ys[R]?=Y)(U:∀h',(∀c o,c≠z->c≠to->c≠i1->c≠p->s.heap.get? c=Z o->h'.get? c=Z o)->Q Y {s with heap:=h'}):dX (MN prog w) A (Nc (.ref z)) Q E s:=by
 have X:s.TypeIs (.ref z) "zip":=⟨_,hz,O⟩;have y:G≠z:=au.ne hz λ_ _ q=>by cases q
 have P:v≠z:=H.ne hz λ_ _ q=>by cases q
 have r:v≠i1:=H.ne_it h1;unfold Nc;refine wB1 (Ol (NM (name:=NN "__next__") X Ow (wE1 Ow X F.entry_zip_next ?_ (F.args_zip_next_1 _))));show dX _ _ (field (.ref z) 2 >>= _) _ _ _;refine wB1 (NL hz O (x:=.bool J) O ?_);show dX _ _ (field (.ref z) 3 >>= _) _ _ _;refine wB1 (NL hz O (x:=.ref n) O ?_);refine wB1 (Oh ao O ?_);show dX _ _ (Oo (.ref z) >>= _) _ _ _;refine wB1 ?_;unfold Oo;refine wB1 (NL hz O (x:=.none) O (wP1 ?_));simp only[NJ];refine wB1 (M9 ?_);refine wB1 (NL hz O (x:=.ref to) O ?_);refine wB1 (wS1 hz (by simp) λg1 g i=>?_);replace g:Ou g1 z n to .ellipsis:=g;refine wB1 ?_;simp only[bN,List.zipIdx_nil,bH,List.forIn_nil];refine wB1 (wB1 (wpAny_onRaise ?_));show dX _ _ (Oe (.ref i1) >>= _) _ _ _
 cases hx:xs[K]? with
 |none=>
  refine wB1 (ja wq (h1.to λo q=>i.extBut _ _ D.a3 q) (au.to λo q=>i.extBut _ _ y q) hx λam e j N=>?_);obtain⟨S,d,f⟩:=N;have C:Ou am z n to .ellipsis:=j _ _ D.a3.symm g;have m:e≠z:=λq=>by subst q;rw[C]at d;cases d;simp at f
  refine wS1 C (by simp) λaq _ l=>?_;refine wB1 (Os (T:="StopIteration") (b:=M) ⟨S,l.extBut _ _ m d,f⟩ Ot ?_);exact wP1 (U aq λc o B _ L _ q=>l.extBut _ _ B (j _ _ L (i.extBut _ _ B q)))
 |some x=>
  have hy:ys[R]?=Y:=by rcases t with h|h;rw[hx]at h;cases h;exact h
  refine wB1 (lY (h1.to λo q=>i.extBut _ _ D.a3 q) (au.to λo q=>i.extBut _ _ y q) hx λam h12 j=>wP1 ?_);have k:Ov am to a b:=j.extBut _ _ D.a8 (i.extBut _ _ D.a2 I);refine wB1 (Oh k O ?_);refine wB1 (Ox k λaq W l=>?_);refine wB1 (Oq (wP1 ?_));refine wB1 (wB1 (wpAny_onRaise ?_));show dX _ _ (Oe (.ref p) >>= _) _ _ _
  refine wB1 (ja wq (h2.to λo q=>l.extBut _ _ D.a9.symm (j.extBut _ _ D.a10.symm (i.extBut _ _ D.a4 q))) (H.to λo q=>l.extBut _ _ n2 (j.extBut _ _ r (i.extBut _ _ P q))) hy λg4 e V N=>?_);obtain⟨S,d,f⟩:=N;have u:Ou g4 z n to .ellipsis:=V _ _ D.a4.symm (l.extBut _ _ D.a2.symm (j.extBut _ _ D.a3.symm g));have m:e≠z:=λq=>by subst q;rw[u]at d;cases d;simp at f
  refine wS1 u (by simp) λg5 _ s5=>?_;refine wB1 (Os (T:="StopIteration") (b:=M) ⟨S,s5.extBut _ _ m d,f⟩ Ot ?_);exact wP1 (U g5 λc o B q2 L q4 q=>s5.extBut _ _ B (V _ _ q4 (l.extBut _ _ q2 (j.extBut _ _ L (i.extBut _ _ B q)))))
def zH(b1 b2:Bool)(h:dZ)(l1 l2:dP):dZ:=((((h.push (gv b1 l1)).push (gv b2 l2)).push {cls:=.type "tuple",data:=.seq #[.ref h.objs.size,.ref (h.objs.size+1)]}).push {cls:=.type "tuple",data:=.seq #[.none,.none]}).push
 {cls:=.type "zip",data:=.fields #[.none,.bool J,.bool J,.ref (h.objs.size+2),.ref (h.objs.size+3)]}
theorem B8(a c:dP)(xs ys:Array dM):Meets (Builtin.«zip.__new__» ⟨[.type "zip",.ref a,.ref c],[]⟩) (λ_ R s=>SCo b1 s.heap a xs/\SCo b2 s.heap c ys/\R (.ok (.ret (.ref (s.heap.objs.size+4)))) {s with heap:=zH b1 b2 s.heap a c}):=
 .of_wp λprog w A R s h=>by
  obtain⟨b,g,d,tk,e⟩:=s;obtain⟨k,j,h⟩:=h;have f:=sub_zip
  have l:SCo b1 (Shared.heap ⟨b,g,d,tk,e⟩) a xs:=k;have i:SCo b2 (Shared.heap ⟨b.push (gv b1 a),g,d,tk,e⟩) c ys:=j.to λo q=>hP1 _ q
  wp_walk using jA l,jA i
  refine⟨_,O,?_⟩;have m:(b.push (gv b1 a)).objs.size=b.objs.size+1:=hZ1 ..
  simp only[hZ1,zH]at h ⊢;exact h
theorem yU{b d:dP}{xs ys:Array dM}{Q:dM->dN->Prop}(m:SCo b1 s.heap b xs)(l:SCo b2 s.heap d ys)(h:∀h',Ou h' (s.heap.objs.size+4) (s.heap.objs.size+2) (s.heap.objs.size+3) .none->Ov h' (s.heap.objs.size+2) (.ref s.heap.objs.size) (.ref (s.heap.objs.size+1))->Ov h' (s.heap.objs.size+3) .none .none ->
   SIt b1 h' s.heap.objs.size b 0->SIt b2 h' (s.heap.objs.size+1) d 0->h'.objs.size=s.heap.objs.size+5->(∀c o,s.heap.get? c=Z o->h'.get? c=Z o)->Q (.ref (s.heap.objs.size+4)) {s with heap:=h'}):
  dX (MN prog w) A (call (.type "zip") [.ref b,.ref d]) Q E s:=by
 refine callType_new F.called_zip (by decide) (F.typeCall_zip_2 _ _) (F.newCall_zip_2 _ _) (λg=>F.args_object_init_3 g _ _) F.entry_zip_new (B8 (b1:=b1) (b2:=b2) b d xs ys) ⟨m,l,?_⟩;have a:∀{h:dZ} {o:Obj} {c:dP} {u:Obj},h.get? c=Z u->(h.push o).get? c=Z u:=λq=>hP1 _ q;have at_:∀{h:dZ} {o:Obj} {n:Nat},h.objs.size=n->o.isFreed=J->(h.push o).get? n=Z o:=λe f=>by rw[<- e];exact hS1 _ f
 have j:(gv b1 b).isFreed=J:=by cases b1<;>rfl
 have t:(gv b2 d).isFreed=J:=by cases b2<;>rfl
 have p:(zH b1 b2 s.heap b d).get? s.heap.objs.size=Z (gv b1 b):=a (a (a (a (at_ O j))));have r:(zH b1 b2 s.heap b d).get? (s.heap.objs.size+1)=Z (gv b2 d):=a (a (a (at_ (by simp only[hZ1]) t)));have v:Ov (zH b1 b2 s.heap b d) (s.heap.objs.size+2) (.ref s.heap.objs.size) (.ref (s.heap.objs.size+1)):=a (a (at_ (by simp only[hZ1]) O));have k:Ov (zH b1 b2 s.heap b d) (s.heap.objs.size+3) .none .none:=a (at_ (by simp only[hZ1]) O);have i:Ou (zH b1 b2 s.heap b d) (s.heap.objs.size+4) (s.heap.objs.size+2) (s.heap.objs.size+3) .none:=at_ (by simp only[hZ1]) O;exact⟨⟨_,i,O⟩,h _ i v k (rj p) (rj r) (by simp only[zH,hZ1]) λc o q=>a (a (a (a (a q))))⟩
end
def sJ(K:Fg1)(b:Bool)(H:Hp)(a:dP)(xs:List V):Prop:=match b with
 |true=>nE K H a xs
 |false=>kC K H a xs
section
variable{ag:List (dP×Obj)}{σ:L2.St}{H:Hp}{s:dN}
theorem fg{b:Bool}{a:dP}{xs:List V}(I:Inv X ag σ H s)(h:sJ X.K b H a xs):∃c:List dM,eH xs c/\SCo b s.heap a c.toArray/\xs.length<=dW:=by
 cases b
 ·obtain⟨c,r,p,z⟩:=I.tuple h;exact⟨c,r,p,z⟩
 ·obtain⟨c,r,p,z⟩:=I.list h;exact⟨c,r,p.isList,z⟩
theorem nI{b:Bool}{a:dP}{xs ys:List V}(I:Inv X ag σ H s)(h:sJ X.K b H a xs)(h':sJ X.K b H a ys):xs=ys:=by
 cases b
 ·exact I.tuple_inj h h'
 ·exact I.list_inj h h'
theorem rh{b:Bool}{a c:dP}{xs:List V}(I:Inv X ag σ H s)(h:sJ X.K b H a xs)(f:kE X ag H c):a≠c:=by
 rintro rfl;have d:∀{o},X.K.lookup a=Z o->False:=λ{o} e=>by
  have g:=I.ok.mod.kin _ _ e;rcases f.2.2.2.1 with z|z
  ·exact I.ok.noex _ _ g z
  ·exact absurd (nL1 (hL1 g) (aC I.ok.bsz z)) (az _)
 cases b
 ·rcases h with(h|⟨_,h⟩)|⟨_,_,_,h,_⟩
  ·rw[f.1]at h;cases h
  ·rw[f.1]at h;cases h
  ·exact d h
 ·rcases h with(h|⟨_,h⟩)|⟨_,_,_,h,_⟩
  ·rw[f.1]at h;cases h
  ·rw[f.1]at h;cases h
  ·exact d h
theorem ui(I:Inv X ag σ H s){fp:List dP}(hf:∀ b∈fp,kE X ag H b){h':dZ}{p:dP}{xs:List V}{its:List dM}{t':Nat}(hp:s.heap.objs.size<=p)(d:∀ b o,b∉fp->s.heap.get? b=Z o->h'.get? b=Z o)(i:MD h' p its.toArray)(k:eH xs its)(hz:xs.length<=dW):Inv X ag σ (upd H p (.tup xs)) {s with heap:=h',toks:=t'}:=by
 have f:H p=Y:=I.hok.fresh hp;have g:∀{b o},s.heap.get? b=Z o->b≠p:=λe=>nN1 (nL1 (hL1 e) hp);have h:∀{b u},H b=Z u->b∉fp:=λe z=>by rw[(hf _ z).1]at e;cases e
 refine I.step (g':=s.gens) (d':=s.drawn) (ch:=fp) (λb a=>⟨(hf b a).2.2.2.1,(hf b a).2.1,(hf b a).2.2.2.2.1,(hf b a).2.2.2.2.2⟩) (λb o _ _ hc e _=>d b o hc e) (λb o _ _ hc e _=>⟨o.slots,d b o hc e⟩) (λb o _ e n=>?_)
  (λb o hc e=>⟨o,d b o hc e⟩) (λb ys e=>?_) (λb o u e=>?_) (λb ps e=>⟨#[],?_⟩) (λm l=>?_) (λb u e=>?_) I.bare
 ·rw[eE (g e)];exact n
 ·rw[eE (eO e f)];exact e
 ·rw[eE (eO e f)];exact e
 ·rw[eE (eO e f),e];simp
 ·obtain⟨o,es,ep,j,r⟩:=l;exact⟨o,es,ep,d _ o (λz=>(hf _ z).2.1 O) j,r⟩
 ·by_cases a:b=p
  ·subst a;rw[eJ]at e;cases e;exact⟨hz,its,k,i⟩
  ·rw[eE a]at e;refine(I.hok b u e).stay (λc v hc q=>d c v ?_ q) (λc q=>by rw[eE (eO q f)];exact q) λc ys q=>by rw[eE (eO q f)];exact q
   rcases hc with z|z
   ·rw[z];exact h e
   ·exact h z
theorem oM(I:Inv X ag σ H s){fp:List dP}(hf:∀b∈fp,kE X ag H b){h':dZ}{t':Nat}(a:∀b o,b∉fp->s.heap.get? b=Z o->h'.get? b=Z o):Inv X ag σ H {s with heap:=h',toks:=t'}:=by
 have f:∀{b u},H b=Z u->b∉fp:=λe z=>by rw[(hf _ z).1]at e;cases e
 refine I.step (g':=s.gens) (d':=s.drawn) (ch:=fp) (λb d=>⟨(hf b d).2.2.2.1,(hf b d).2.1,(hf b d).2.2.2.2.1,(hf b d).2.2.2.2.2⟩) (λb o _ _ hc e _=>a b o hc e) (λb o _ _ hc e _=>⟨o.slots,a b o hc e⟩) (λb o _ e n=>n)
  (λb o hc e=>⟨o,a b o hc e⟩) (λb ys e=>e) (λb o u e=>e) (λb ps e=>⟨#[],by rw[e];simp⟩) (λm h=>?_) (λb u e=>?_) I.bare
 ·obtain⟨o,es,ep,g,r⟩:=h;exact⟨o,es,ep,a _ o (λz=>(hf _ z).2.1 O) g,r⟩
 ·refine(I.hok b u e).stay (λc v hc q=>a c v ?_ q) (λc q=>q) λc ys q=>q;rcases hc with z|z
  ·rw[z];exact f e
  ·exact f z
end
theorem sY:(2:Nat)<=dW:=by decide
def LC(K:Fg1)(b:Bool)(a:dP):It:=
 ⟨λi H=>∃xs x,sJ K b H a xs/\xs[i]?=Z x,λi H x H'=>∃p v,H p=Y/\x = .ref p/\H'=upd H p (.tup [.int i,v]) /\ ∀xs,sJ K b H a xs->xs[i]?=Z v,λi H=>∃xs,sJ K b H a xs/\xs.length<=i⟩
theorem xS{P:dQ}{w:dS}{K:Fg1}{elts:List Expr}{k:Nat}{pos:Pos}(b:Bool)(a e it:dP)(ne:e≠it):wb P w K (.Tuple elts k pos) (LC K b a) [e,it] e (λi h=>(∃old,Oj h e it (i:Nat) old)/\SIt b h it a i) where
 mem:=by simp
 obj:=by
  rintro i h ⟨⟨old,st⟩,ao⟩ c hc;rcases aF.mp hc with z|z
  ·subst z;exact⟨_,st,λv q=>by cases q⟩
  ·have z':c=it:=by simpa using z
   subst z';exact ao.rec_
 keep:=λi h h' ⟨⟨old,st⟩,ao⟩ R=>⟨⟨old,R e (by simp) _ st⟩,ao.to λo q=>R it (by simp) o q⟩
 item:=by
  intro X am G L hc i ag s σ H E I f st D;subst am G L;obtain⟨⟨old,j⟩,g⟩:=st;obtain⟨xs,x,m,A⟩:=D;obtain⟨N,t,y,hz⟩:=fg I m;obtain⟨u,V,aq⟩:=t.get A;refine yB j g y (x:=u) (by simpa using V) ne λh1 C r p W B=>?_;refine⟨.ref s.heap.objs.size,O,?_⟩;refine wpAny_letOwnedTupleGo_enum C λh2 F d=>?_;have au:s.heap.objs.size≠e:=nG1 (hL1 j);have n:∀c o,c∉[e,it]->s.heap.get? c=Z o->h2.get? c=Z o:=λc o hc q=>by
   have l:c≠e:=λz=>hc (by simp[z]);have S:c≠it:=λz=>hc (by simp[z]);exact d.extBut _ _ l (B c o l S q)
  have T:MD h2 s.heap.objs.size [.int (i:Nat) s.toks,u].toArray:=⟨_,d.extBut _ _ au p,O,_,O⟩;have I2:=ui I f (t':=s.toks+1) (nR1 _) n T (xs:=[.int i,x]) (.cons ⟨_,O⟩ (.cons aq .nil)) sY;have wq:H s.heap.objs.size=Y:=I.hok.fresh (nR1 _);refine⟨.ref s.heap.objs.size,_,I2,O,⟨_,x,wq,O,O,λys hy=>by rw[nI I hy m];exact A⟩,⟨⟨u,?_⟩,r.to λo q=>d.extBut _ _ (ML ne) q⟩,λc hc=>?_⟩
  ·have:((i+1:Nat):Int)=(i:Int)+1:=by push_cast;rfl
   rw[this];exact F
  ·have l:c≠s.heap.objs.size:=fun z=>by
    rcases aF.mp hc with q|q
    ·exact au (z.symm.trans q)
    ·have q':c=it:=by simpa using q
     obtain⟨o,Q,_⟩:=g.rec_;rw[<- q',z]at Q;exact az _ (hL1 Q)
   rw[eE l];exact(f c hc).1
 done:=by
  intro X am G L hc i ag s σ H E I f st D;subst am G L;obtain⟨⟨old,j⟩,g⟩:=st;obtain⟨xs,m,A⟩:=D;obtain⟨N,t,y,hz⟩:=fg I m;have hl:=t.length;refine Bw (I.ok.hd hc) j g y (by simp;lia) λh' U=>⟨O,oM I (t':=s.toks) f λc o hc q=>U c o (λz=>hc (by simp[z])) q⟩
 self:=λ_ _ _ _ _ ⟨⟨_,st⟩,_⟩ h=>qo st h
def Lz(K:Fg1)(b1 b2:Bool)(a1 a2:dP):It:=
 ⟨λi H=>∃xs ys x y,sJ K b1 H a1 xs/\sJ K b2 H a2 ys/\xs[i]?=Z x/\ys[i]?=Z y,λi H x H'=>∃p v u,H p=Y/\x = .ref p/\H'=upd H p (.tup [v,u])/\(∀xs,sJ K b1 H a1 xs->xs[i]?=Z v) /\ ∀ys,sJ K b2 H a2 ys->ys[i]?=Z u,
  λi H=>∃xs ys,sJ K b1 H a1 xs/\sJ K b2 H a2 ys/\(xs.length<=i\/ys.length<=i)⟩
theorem zk{P:dQ}{w:dS}{K:Fg1}{elts:List Expr}{k:Nat}{pos:Pos}(b1 b2:Bool)(a1 a2 z p to n A:dP)(D:K6 z p to n A):wb P w K (.Tuple elts k pos) (Lz K b1 b2 a1 a2) [z,p,to,n,A] z
  (λi h=>Ou h z p to .none/\Ov h p (.ref n) (.ref A)/\(∃u v,Ov h to u v)/\SIt b1 h n a1 i/\SIt b2 h A a2 i) where
 mem:=by simp
 obj:=by
  rintro i h ⟨j,b,⟨u,v,g⟩,d,l⟩ c hc;simp only[aF,bO,Oy]at hc;rcases hc with rfl|rfl|rfl|rfl|rfl
  ·exact⟨_,j,λv q=>by cases q⟩
  ·exact⟨_,b,λv q=>by cases q⟩
  ·exact⟨_,g,λv q=>by cases q⟩
  ·exact d.rec_
  ·exact l.rec_
 keep:=λi h h' ⟨j,b,⟨u,v,g⟩,d,l⟩ am=>⟨am z (by simp) _ j,am p (by simp) _ b,⟨u,v,am to (by simp) _ g⟩,d.to λo q=>am n (by simp) o q,l.to λo q=>am A (by simp) o q⟩
 item:=by
  intro X T S U hc i ag s σ H E I f st Q;subst T S U;obtain⟨j,b,⟨u0,v0,g⟩,d,l⟩:=st;obtain⟨xs,ys,x,y,B,C,ex,ey⟩:=Q;obtain⟨aq,wq,N,hz⟩:=fg I B;obtain⟨F,t,m,V⟩:=fg I C;obtain⟨u,hu,ru⟩:=wq.get ex;obtain⟨ao,W,R⟩:=t.get ey;refine yT D j b g (rh I B (f to (by simp))) (rh I C (f to (by simp))) d l N m (x:=u) (y:=ao) (by simpa using hu) (by simpa using W) λh1 p1 p2 p3 p4 p5 p6 G=>?_;refine⟨.ref s.heap.objs.size,O,?_⟩;refine wpAny_letOwnedTupleGo_zip p1 λh2 z2 a=>?_;have lt:∀c∈[z,p,to,n,A],c≠s.heap.objs.size:=λc hc e=>by
   obtain⟨o,eo⟩:∃o,s.heap.get? c=some o:=by
    simp only[aF,bO,Oy]at hc;rcases hc with rfl|rfl|rfl|rfl|rfl
    ·exact⟨_,j⟩
    ·exact⟨_,b⟩
    ·exact⟨_,g⟩
    ·obtain⟨o,e,_⟩:=d.rec_;exact⟨o,e⟩
    ·obtain⟨o,e,_⟩:=l.rec_;exact⟨o,e⟩
   rw[e]at eo;exact az _ (hL1 eo)
  have L:∀c o,c∉[z,p,to,n,A]->s.heap.get? c=Z o->h2.get? c=Z o:=λc o hc q=>by
   simp only[aF,bO,Oy,not_or]at hc;exact a.extBut _ _ hc.1 (G c o hc.1 hc.2.2.1 hc.2.2.2.1 hc.2.2.2.2 q)
  have tp:MD h2 s.heap.objs.size [u,ao].toArray:=⟨_,a.extBut _ _ (ML (lt z (by simp))) p5,O,_,O⟩;have I2:=ui I f (t':=s.toks) (nR1 _) L tp (xs:=[x,y]) (.cons ru (.cons R .nil)) sY;have hn:H s.heap.objs.size=Y:=I.hok.fresh (nR1 _);refine⟨.ref s.heap.objs.size,_,I2,O,⟨_,x,y,hn,O,O,λau r=>by rw[nI I r B];exact ex,λau r=>by rw[nI I r C];exact ey⟩,
   ⟨z2,a.extBut _ _ D.a1 (G _ _ D.a1 D.a5 D.a6 D.a7 b),⟨u,ao,a.extBut _ _ D.a2 p2⟩,p3.to λo q=>a.extBut _ _ D.a3 q,p4.to λo q=>a.extBut _ _ D.a4 q⟩,λc hc=>?_⟩
  rw[eE (lt c hc)];exact(f c hc).1
 done:=by
  intro X T S U hc i ag s σ H E I f st Q;subst T S U;obtain⟨j,b,⟨u0,v0,g⟩,d,l⟩:=st;obtain⟨xs,ys,B,C,hl⟩:=Q;obtain⟨aq,wq,N,hz⟩:=fg I B;obtain⟨F,t,m,V⟩:=fg I C;have l1:=wq.length;have l2:=t.length;refine B9 (I.ok.hd hc) D j b g (rh I B (f to (by simp))) (rh I C (f to (by simp))) d l N m (by simp;lia) λh' eb=>⟨O,oM I (t':=s.toks) f λc o hc q=>?_⟩;simp only[aF,bO,Oy,not_or]at hc;exact eb c o hc.1 hc.2.2.1 hc.2.2.2.1 hc.2.2.2.2 q
 self:=λ_ _ _ _ _ ⟨st,_⟩ h=>wpAny_pyIter_zip st h
section
variable{elts:List Expr}{k:Nat}{tpos:Pos}
def Jg(K:Fg1)(ta:TA):TI:=fun σ H R=>ta σ H λvs H1=>∃a b,vs=[.ref a]/\(∃xs,sJ K b H1 a xs)/\R (LC K b a) H1
theorem CW {a:Expr}{ta:TA}{p pos:Pos}(hg:Gl X "enumerate")(hm:X.mg "enumerate"=Y)(ha:PA X [a] ta)(hs:autoParam (dV [a] X.env=[(J,eval a X.env)]) cu0):PI X (.Tuple elts k tpos) (.Call (.Name "enumerate" p) [a] [] pos) (Jg X.K ta):=by
 intro ag s σ H R I h;refine Call_ (jT I hg hm boot_enumerate (Ni (ft (ha pos ag s σ H _ I h) λC g ⟨vs,H1,f,o,j⟩=>?_) hs O));obtain⟨c,b,e,⟨xs,x⟩,q⟩:=j;subst e;cases o with
 |cons r u=>
  cases u;cases r;obtain⟨w,B,m,D⟩:=fg f x;refine yC m λh' i y l n=>qo i ?_;have v:Inv X ag σ H1 {g with heap:=h'}:=f.kept (t':=g.toks) n;refine⟨g.heap.objs.size+1,[g.heap.objs.size+1,g.heap.objs.size],_,_,H1,O,v,xS b c _ _ (Nat.succ_ne_self _),⟨⟨.none,i⟩,y⟩,λd t=>?_,q⟩;rcases aF.mp t with z|z
  ·subst z;exact f.fpOk (aZ _) (f.hok.fresh (aZ _))
  ·have A:d=g.heap.objs.size:=by simpa using z
   subst A;exact f.fpOk (nR1 _) (f.hok.fresh (nR1 _))
def KP(K:Fg1)(ta:TA):TI:=fun σ H R=>ta σ H λvs H1=>∃a1 b1 a2 b2,vs=[.ref a1,.ref a2]/\(∃xs,sJ K b1 H1 a1 xs)/\(∃xs,sJ K b2 H1 a2 xs)/\R (Lz K b1 b2 a1 a2) H1
theorem FX {a b:Expr}{ta:TA}{p pos:Pos}(hg:Gl X "zip")(hm:X.mg "zip"=none)(ha:PA X [a,b] ta)(hs:autoParam (dV [a,b] X.env=[(false,eval a X.env),(false,eval b X.env)]) cu0)(hs2:autoParam (dV [b] X.env=[(false,eval b X.env)]) cu0):
  PI X (.Tuple elts k tpos) (.Call (.Name "zip" p) [a,b] [] pos) (KP X.K ta):=by
 intro ag s σ H R I h;refine Call_ (jT I hg hm boot_zip (Ni (ft (ha pos ag s σ H _ I h) λau c ⟨vs,H1,g,w,A⟩=>?_) (by rw[hs,hs2]) (by rw[hs2];rfl)));obtain⟨B,b1,o,b2,e,⟨xs,x⟩,⟨ys,C⟩,q⟩:=A;subst e;cases w with
 |cons r j=>
  cases j with
  |cons am j=>
   cases j;cases r;cases am;obtain⟨L,P,v,ao⟩:=fg g x;obtain⟨m,K,i,G⟩:=fg g C;refine yU v i λh' l y F D t N u=>wpAny_pyIter_zip l ?_;have E:Inv X ag σ H1 {c with heap:=h'}:=g.kept (t':=c.toks) u;refine⟨c.heap.objs.size+4,[c.heap.objs.size+4,c.heap.objs.size+2,c.heap.objs.size+3,c.heap.objs.size,c.heap.objs.size+1],_,_,H1,O,E,zk b1 b2 B o _ _ _ _ _ ?_,⟨l,y,⟨_,_,F⟩,D,t⟩,λd n=>?_,q⟩
   ·constructor<;>(intro z;have Q:((_:Nat)=_):=z;lia)
   ·have f:c.heap.objs.size<=d:=by
     simp only[aF,bO,Oy]at n;rcases n with rfl|rfl|rfl|rfl|rfl
     ·exact br _ _
     ·exact br _ _
     ·exact br _ _
     ·exact nR1 _
     ·exact br _ _
    exact g.fpOk f (g.hok.fresh f)
end
noncomputable def ei (S:d7):D->Option (Bool×List D)
 | .tup xs=>some (false,xs)
 | .rol xs=>some (true,xs)
 | .ref n=>match S[n]? with
  |some (.lst xs)=>some (true,xs)
  |_=>none
 |_=>none
noncomputable def jV(S:d7):D->List (Nat×List D)
 | .ref n=>match S[n]? with
  |some (.lst xs)=>[(n,xs)]
  |_=>[]
 |_=>[]
section
variable{K:Fg1}{H:Hp}{mu:List dP}{S:d7}
theorem er{d:D}{v:V}{b:Bool}{xs:List D}(r:fc K H mu d v)(s:Sim K H mu S)(h:ei S d=Z (b,xs)):∃a vs,v = .ref a/\sJ K b H a vs/\ej K H mu xs vs:=by
 cases d with
 |tup ys=>cases h;cases r with|tup q t=>exact⟨_,_,rfl,q,t⟩
 |rol ys=>cases h;cases r with|rol q t=>exact⟨_,_,rfl,q.sq,t⟩
 |ref n=>
  rw[ei]at h;split at h
  ·rename_i ys e;cases h;cases r with
   |ref q=>
    obtain⟨vs,f,c⟩:=s.lst e q;exact⟨_,vs,O,nE.of f,c⟩
  ·cases h
 |_=>cases h
theorem iR{d:D}{a:dP}{b:Bool}{xs:List D}(r:fc K H mu d (.ref a))(s:Sim K H mu S)(h:ei S d=some (b,xs)){H1:Hp}{mu1:List dP}{S1:d7}(x:sN mu mu1 H H1)(g:Sim K H1 mu1 S1)(ok:pA S1 (jV S d)=true):
  ∃vs,sJ K b H1 a vs/\ej K H1 mu1 xs vs:=by
 have f:=r.exw x;have h1:ei S1 d=Z (b,xs):=by
  cases d with
  |ref n=>
   rw[ei]at h;split at h
   ·rename_i ys e;cases h;rw[jV,e]at ok;dsimp only[pA]at ok;rw[bP]at ok;rw[ei];split at ok
    ·rename_i zs c
     first|rw[c,D.sames_eq ok] | rw[D.sames_eq ok]
    ·cases ok
   ·cases h
  |_=>exact h
 obtain⟨i,vs,e,q,t⟩:=er f g h1;cases e;exact⟨vs,q,t⟩
end
noncomputable def gZ (m:FE):FI:=λr S=>(m r S).bind λp=>(ei p.2 p.1).bind λq=>some (⟨q.2,jV p.2 p.1⟩,p.2)
noncomputable def u4:Nat->List D->List D
 |_,[]=>[]
 |n,d::ds=>.tup [.int n,d]::u4 (n+1) ds
noncomputable def oP (m:FA):FI:=λr S=>(m r S).bind λp=>match p.1 with
 |[d]=>(ei p.2 d).bind λq=>some (⟨u4 0 q.2,jV p.2 d⟩,p.2)
 |_=>none
noncomputable def xJ:List D->List D->List D
 |x::xs,y::ys=>.tup [x,y]::xJ xs ys
 |_,_=>[]
def Jc(m:FA):FI:=λr S=>(m r S).bind λp=>match p.1 with
 |[d,e]=>(ei p.2 d).bind λq=>(ei p.2 e).bind λt=>Z (⟨xJ q.2 t.2,jV p.2 d++jV p.2 e⟩,p.2)
 |_=>Y
noncomputable def gb(lo:Int):Nat->List D
 |0=>[]
 |n+1=>.int lo::gb (lo+1) n
noncomputable def pL (m:FA):FI:=λr S=>(m r S).bind λp=>match p.1 with
 |[.int j]=>if-(2^62)<=j/\j<2^62 then some (⟨gb 0 j.toNat,[]⟩,p.2)else none
 |_=>none
def Hb(m:FA):FI:=λr S=>(m r S).bind λp=>match p.1 with
 |[.int i,.int j]=>if-(2^62)<=i/\i<2^62 /\ -(2^62)<=j/\j<2^62 then Z (⟨gb i (j-i).toNat,[]⟩,p.2)else Y
 |_=>Y
theorem fZ:∀(ds:List D) (n i:Nat),(u4 n ds)[i]?=(ds[i]?).map λd=>.tup [.int ((n+i:Nat):Int),d]
 |[],n,i=>by simp[u4]
 |d::ds,n,0=>by simp[u4]
 |d::ds,n,i+1=>by
  rw[u4,gC1,fZ ds (n+1) i,gC1];rw[show n+1+i=n+(i+1) by lia]
theorem fY:∀(ds:List D) (n:Nat),(u4 n ds).length=ds.length
 |[],_=>rfl
 |d::ds,n=>by rw[u4,lC1,fY ds,lC1]
theorem wh:∀(xs ys:List D) (i:Nat) (d:D),(xJ xs ys)[i]?=Z d -> ∃x y,xs[i]?=Z x/\ys[i]?=Z y/\d = .tup [x,y]
 |[],_,i,d,h=>by simp[xJ]at h
 |_::_,[],i,d,h=>by simp[xJ]at h
 |x::xs,y::ys,0,d,h=>by simp[xJ]at h;exact⟨x,y,O,O,h.symm⟩
 |x::xs,y::ys,i+1,d,h=>by
  rw[xJ,gC1]at h;obtain⟨e,c,a,f,b⟩:=wh xs ys i d h;exact⟨e,c,by simpa using a,by simpa using f,b⟩
theorem wg:∀(xs ys:List D) (i:Nat),(xJ xs ys).length<=i->xs.length<=i\/ys.length<=i
 |[],_,i,_=>.inl (bj _)
 |_::_,[],i,_=>.inr (bj _)
 |x::xs,y::ys,0,h=>by simp[xJ]at h
 |x::xs,y::ys,i+1,h=>by
  rcases wg xs ys i (by simpa[xJ]using h)with q|q
  ·exact .inl (by simpa using q)
  ·exact .inr (by simpa using q)
theorem oz:∀(n:Nat) (lo:Int) (i:Nat) (d:D),(gb lo n)[i]?=Z d->i<n/\d = .int (lo+i)
 |0,lo,i,d,h=>by simp[gb]at h
 |n+1,lo,0,d,h=>by simp[gb]at h;exact⟨Nat.succ_pos _,by rw[<- h];simp⟩
 |n+1,lo,i+1,d,h=>by
  rw[gb,gC1]at h;obtain⟨h1,h2⟩:=oz n (lo+1) i d h;refine⟨Nat.succ_lt_succ h1,?_⟩;rw[h2,show lo+1+(i:Int)=lo+((i+1:Nat):Int) by push_cast;lia]
theorem eN:∀(n:Nat) (lo:Int),(gb lo n).length=n
 |0,_=>rfl
 |n+1,lo=>by rw[gb,lC1,eN n]
theorem wJ{S:d7}:∀{c a:List (Nat×List D)},pA S (c++a)=M->pA S c=M/\pA S a=M
 |[],_,h=>⟨O,h⟩
 |(n,xs)::c,a,h=>by
  rw[bm,pA,bA1]at h;obtain⟨h1,h2⟩:=wJ h.2;exact⟨by rw[pA,bA1];exact⟨h.1,h1⟩,h2⟩
section
variable{tg:Expr}
theorem uh(K:Fg1)(lo:Int)(n:Nat)(mu:List dP)(H:Hp):Le K (JP lo n) ⟨gb lo n,[]⟩ mu H:=by
 intro i H1 mu1 e x s ok;refine⟨λd c=>?_,λh=>by rw[eN]at h;exact h⟩;obtain⟨h1,h2⟩:=oz n lo i d c;refine⟨h1,λy H2 ⟨b,a⟩=>?_⟩;subst b;subst a;subst h2;exact⟨.refl _ _,s,.int _⟩
theorem GA{e:Expr}{m:FE}(h:ME X e m):MI X tg e (gZ m):=oo (Iv (CV h) (FY h)) <| by
 rintro σ H R ⟨r,mu,S,am,I,D,E,n,hc⟩;obtain⟨⟨d,K⟩,C,n⟩:=Py n;obtain⟨⟨b,xs⟩,o,n⟩:=Py n;cases n;cases b with
 |true=>
  left;refine⟨r,mu,S,d,_,D,E,C,λv H1 mu1 A j f=>?_⟩;obtain⟨a,vs,rfl,q,t⟩:=er j f o;refine⟨a,O,⟨vs,q⟩,hc _ H1 mu1 A (λi H2 w F p g ok=>?_) f⟩;obtain⟨ws,c,l⟩:=iR j f o p g ok;refine⟨λd s=>?_,λx=>⟨ws,c,by rw[<- l.length];exact x⟩⟩;obtain⟨v,k,B⟩:=l.get s;refine⟨⟨ws,v,c,k⟩,λy G ⟨u,z⟩=>?_⟩;subst u;have:=z ws c;rw[k]at this;cases this;exact⟨.refl _ _,g,B⟩
 |false=>
  right;refine⟨r,mu,S,d,_,D,E,C,λv H1 mu1 A j f=>?_⟩;obtain⟨a,vs,rfl,q,t⟩:=er j f o;refine⟨a,O,⟨vs,q⟩,hc _ H1 mu1 A (λi H2 w F p g ok=>?_) f⟩;obtain⟨ws,c,l⟩:=iR j f o p g ok;refine⟨λd s=>?_,λx=>⟨ws,c,by rw[<- l.length];exact x⟩⟩;obtain⟨v,k,B⟩:=l.get s;refine⟨⟨ws,v,c,k⟩,λy G ⟨u,z⟩=>?_⟩;subst u;have:=z ws c;rw[k]at this;cases this;exact⟨.refl _ _,g,B⟩
theorem lS{K:Fg1}{H:Hp}{mu:List dP}{d:D}{vs:List V}(r:ej K H mu [d] vs):∃v,vs=[v]/\fc K H mu d v:=by
 cases r with|cons r t=>cases t;exact⟨_,O,r⟩
theorem tw{K:Fg1}{H:Hp}{mu:List dP}{d e:D}{vs:List V}(r:ej K H mu [d,e] vs):∃v u,vs=[v,u]/\fc K H mu d v/\fc K H mu e u:=by
 cases r with|cons r t=>cases t with|cons q t=>cases t;exact⟨_,_,O,r,q⟩
theorem yh {a:Expr}{m:FA}{p pos:Pos}(hg:Gl X "range")(hm:X.mg "range"=Y)(ha:MA X [a] m)(hs:autoParam (dV [a] X.env=[(J,eval a X.env)]) cu0):MI X tg (.Call (.Name "range" p) [a] [] pos) (pL m):=
 oo (ya hg hm ha hs) <| by
  rintro σ H R ⟨r,mu,S,am,i,d,hs,hm,hc⟩;obtain⟨⟨ds,k⟩,c,hm⟩:=Py hm;dsimp only at hm;split at hm
  ·rename_i j;split at hm
   ·rename_i b;cases hm;refine⟨r,mu,S,_,_,d,hs,c,λvs H1 mu1 e f g=>?_⟩;obtain⟨v,rfl,h⟩:=lS f;cases h;exact⟨j,O,b.1,b.2,hc _ H1 mu1 e (uh _ _ _ _ _) g⟩
   ·cases hm
  ·cases hm
theorem yg {a b:Expr}{m:FA}{p pos:Pos}(hg:Gl X "range")(hm:X.mg "range"=Y)(ha:MA X [a,b] m)(hs:autoParam (dV [a,b] X.env=[(J,eval a X.env),(J,eval b X.env)]) cu0)(hs2:autoParam (dV [b] X.env=[(J,eval b X.env)]) cu0):MI X tg (.Call (.Name "range" p) [a,b] [] pos) (Hb m):=
 oo (x2 hg hm ha hs hs2) <| by
  rintro σ H R ⟨r,mu,S,am,n,e,hs,hm,hc⟩;obtain⟨⟨ds,o⟩,d,hm⟩:=Py hm;dsimp only at hm;split at hm
  ·rename_i i j;split at hm
   ·rename_i k;cases hm;refine⟨r,mu,S,_,_,e,hs,d,λvs H1 mu1 f g h=>?_⟩;obtain⟨v,u,rfl,l,c⟩:=tw g;cases l;cases c;exact⟨i,j,O,k,hc _ H1 mu1 f (uh _ _ _ _ _) h⟩
   ·cases hm
  ·cases hm
variable{elts:List Expr}{k:Nat}{tpos:Pos}
theorem Dm {a:Expr}{m:FA}{p pos:Pos}(hg:Gl X "enumerate")(hm:X.mg "enumerate"=Y)(ha:MA X [a] m)(hs:autoParam (dV [a] X.env=[(J,eval a X.env)]) cu0):MI X (.Tuple elts k tpos) (.Call (.Name "enumerate" p) [a] [] pos) (oP m):=
 oo (CW hg hm ha hs) <| by
  rintro σ H R ⟨r,mu,S,am,K,C,hs,hm,hc⟩;obtain⟨⟨ds,N⟩,x,hm⟩:=Py hm;dsimp only at hm;split at hm
  ·rename_i d;obtain⟨⟨b,xs⟩,j,hm⟩:=Py hm;cases hm;refine⟨r,mu,S,_,_,C,hs,x,λvs H1 mu1 G A h=>?_⟩;obtain⟨v,rfl,u⟩:=lS A;obtain⟨a,vs,rfl,q,t⟩:=er u h j;refine⟨a,b,O,⟨vs,q⟩,hc _ H1 mu1 G (λi H2 E L w l ok=>?_) h⟩;obtain⟨ws,g,s⟩:=iR u h j w l ok;refine⟨λd c=>?_,λo=>⟨ws,g,by rw[fY]at o;rw[<- s.length];exact o⟩⟩;rw[fZ]at c;obtain⟨I,D,c⟩:=Pz c;obtain⟨v,n,f⟩:=s.get D;refine⟨⟨ws,v,g,n⟩,λy au ⟨p,ao,e,B,F,z⟩=>?_⟩;have:=z ws g;rw[n]at this;cases this;subst B;subst F;subst c;rw[bQ];exact⟨Ext.fresh e,l.fresh e,.tup (kC.of eJ) (.cons (.int _) (.cons (f.ext (Ext.fresh e)) .nil))⟩
  ·cases hm
theorem Gz {a b:Expr}{m:FA}{p pos:Pos}(hg:Gl X "zip")(hm:X.mg "zip"=Y)(ha:MA X [a,b] m)(hs:autoParam (dV [a,b] X.env=[(J,eval a X.env),(J,eval b X.env)]) cu0)(hs2:autoParam (dV [b] X.env=[(J,eval b X.env)]) cu0):MI X (.Tuple elts k tpos) (.Call (.Name "zip" p) [a,b] [] pos) (Jc m):=
 oo (FX hg hm ha hs hs2) <| by
  rintro σ H R ⟨r,mu,S,am,S',W,hs,hm,hc⟩;obtain⟨⟨ds,S1⟩,ao,hm⟩:=Py hm;dsimp only at hm;split at hm
  ·rename_i d e;obtain⟨⟨b1,xs⟩,C,hm⟩:=Py hm;obtain⟨⟨b2,ys⟩,D,hm⟩:=Py hm;cases hm;refine⟨r,mu,S,_,_,W,hs,ao,λvs H1 mu1 x1 au f=>?_⟩;obtain⟨v,u,rfl,L,I⟩:=tw au;obtain⟨a1,w,rfl,V,t1⟩:=er L f C;obtain⟨a2,l,rfl,q2,t2⟩:=er I f D;refine⟨a1,b1,a2,b2,O,⟨w,V⟩,⟨l,q2⟩,hc _ H1 mu1 x1 (λi H2 aq S2 x j ok=>?_) f⟩;obtain⟨s,n⟩:=wJ ok;obtain⟨ws,q,A⟩:=iR L f C x j s;obtain⟨c,h,E⟩:=iR I f D x j n;refine⟨λd T=>?_,λwq=>⟨ws,c,q,h,?_⟩⟩
   ·obtain⟨x',y',ex,P,rfl⟩:=wh xs ys i d T;obtain⟨v,G,t⟩:=A.get ex;obtain⟨u,F,o⟩:=E.get P;refine⟨⟨ws,c,v,u,q,h,G,F⟩,λy H3 ⟨p,v',u',g,U,z2,N,Q⟩=>?_⟩;have B:=N ws q;have K:=Q c h;rw[G]at B;cases B;rw[F]at K;cases K;subst U;subst z2;exact⟨Ext.fresh g,j.fresh g,.tup (kC.of eJ) (.cons (t.ext (Ext.fresh g)) (.cons (o.ext (Ext.fresh g)) .nil))⟩
   ·rcases wg xs ys i wq with z|z
    ·exact .inl (by rw[<- A.length];exact z)
    ·exact .inr (by rw[<- E.length];exact z)
  ·cases hm
end
abbrev G1:=D->d7->Option (D×d7)
abbrev G2:=D->D->d7->Option (D×d7)
abbrev G3:=D->D->D->d7->Option (D×d7)
noncomputable def b1 (f:G1):FN:=λds S=>match ds with
 |[a]=>f a S
 |_=>none
noncomputable def b2 (f:G2):FN:=λds S=>match ds with
 |[a,b]=>f a b S
 |_=>none
noncomputable def b3 (f:G3):FN:=λds S=>match ds with
 |[a,b,c]=>f a b c S
 |_=>none
section
variable{K:Fg1}{H:Hp}{Q:VK}
theorem uY{f:G2}{x y:V}(h:rN K (b2 f) [x,y] H Q):∃mu S d e r a,fc K H mu d x/\fc K H mu e y/\Sim K H mu S/\f d e S=Z (r,a)/\sL K mu H r a Q:=by
 obtain⟨mu,S,ds,r,a,g,b,i,hc⟩:=h;cases g with
 |cons q t=>cases t with
  |cons c t=>cases t;exact⟨mu,S,_,_,r,a,q,c,b,i,hc⟩
theorem xX{f:G1}{xs:List V}(h:rN K (b1 f) xs H Q):∃x mu S d r a,xs=[x]/\fc K H mu d x/\Sim K H mu S/\f d S=Z (r,a)/\sL K mu H r a Q:=by
 obtain⟨mu,S,ds,r,a,e,c,b,hc⟩:=h;cases e with
 |nil=>cases b
 |cons q t=>cases t with
  |nil=>exact⟨_,mu,S,_,r,a,O,q,c,b,hc⟩
  |cons g t=>cases b
theorem zN{f:G2}{xs:List V}(h:rN K (b2 f) xs H Q):∃x y mu S d e r a,xs=[x,y]/\fc K H mu d x/\fc K H mu e y/\Sim K H mu S/\f d e S=Z (r,a)/\sL K mu H r a Q:=by
 obtain⟨mu,S,ds,r,a,i,c,b,hc⟩:=h;cases i with
 |nil=>cases b
 |cons q t=>cases t with
  |nil=>cases b
  |cons g t=>cases t with
   |nil=>exact⟨_,_,mu,S,_,_,r,a,O,q,g,c,b,hc⟩
   |cons j t=>cases b
theorem sL.now{mu:List dP}{S:d7}{d:D}{v:V}(c:sL K mu H d S Q)(r:fc K H mu d v)(s:Sim K H mu S):Q v H:=c v H mu (.refl _ _) r s
end
noncomputable def fr(i j:Int):Bool:=(decide (-(2^64)<i)&&decide (i<2^64))||(decide (-(2^64)<j)&&decide (j<2^64))||(decide (i.natAbs<2^1000)&&decide (j.natAbs<2^1000))
noncomputable def gj:G2:=λd e S=>match d,e with
 | .int i,.int j=>Z (.int (i+j),S)
 | .tup xs,.tup ys=>if xs.length+ys.length<=dW then Z (.tup (xs++ys),S)else Y
 | .str x,.str y=>if x.length+y.length<=dW then Z (.str (x++y),S)else Y
 | .ref a,.ref b=>match S[a]?,S[b]? with
  |some (.lst xs),Z (.lst ys)=>if xs.length+ys.length<=dW then Z (.ref S.length,S++[.lst (xs++ys)])else Y
  |_,_=>Y
 |_,_=>Y
noncomputable def gSub:G2:=λd e S=>match d,e with
 | .int i,.int j=>Z (.int (i-j),S)
 |_,_=>Y
def mT:G2:=λd e S=>match d,e with
 | .int i,.int j=>if fr i j=M then Z (.int (i*j),S)else Y
 |_,_=>Y
noncomputable def md:G2:=λd e S=>match d,e with
 | .int i,.int j=>if 0<j then Z (.int (i%j),S)else Y
 |_,_=>Y
noncomputable def sm:G2:=λd e S=>match d,e with
 | .int i,.int j=>if 0<j/\j<1073741824 then Z (.int (i/j),S)else Y
 |_,_=>Y
noncomputable def vP:G2:=λd e S=>match d,e with
 | .int i,.int j=>if 0<=j/\j<=1000000/\i.natAbs<2^64 then Z (.int (i^j.toNat),S)else Y
 |_,_=>Y
noncomputable def Bp:G1:=λd S=>match d with
 | .int i=>Z (.int (-i),S)
 |_=>Y
theorem vC{i j:Int}(h:fr i j=M):IntMulOk i j:=by
 unfold fr at h;simp only[bR,bA1,al]at h;rcases h with(⟨h1,h2⟩|⟨h1,h2⟩)|⟨h1,h2⟩
 ·exact .of_left (intBits_le_64 h1 h2)
 ·exact .of_right (intBits_le_64 h1 h2)
 ·exact .of_bits (aC (intBits_le h1) (by decide)) (aC (intBits_le h2) (by decide))
theorem nN{f:dM->dM->Sem dM}{g:G2}{c:Int->Int->Prop}{v:Int->Int->D}(hg:∀ d e S r a,g d e S=Z (r,a) -> ∃ i j,d = .int i/\e = .int j/\c i j/\r=v i j/\a=S){b:Int->Int->V}(hv:∀i j K H mu,fc K H mu (v i j) (b i j))(ho:gI X f (rI c b)):gI X f (r2 X.K (b2 g)):=by
 intro ag s σ H x y u w Q I n m h;obtain⟨mu,S,d,e,r,a,l,r2,k,p,hc⟩:=uY h;obtain⟨i,j,rfl,rfl,o,rfl,rfl⟩:=hg d e S r a p;cases l;cases r2;exact ho ag s σ H _ _ u w Q I n m ⟨i,j,O,O,o,hc.now (hv i j _ _ _) k⟩
theorem ou{f:dM->dM->Sem dM}{g:G2}{v:Int->Int->D}(hg:∀ d e S r a,g d e S=Z (r,a) -> ∃ i j,d = .int i/\e = .int j/\r=v i j/\a=S){b:Int->Int->V}(hv:∀i j K H mu,fc K H mu (v i j) (b i j))(ho:gI X f (Ez b)):gI X f (r2 X.K (b2 g)):=by
 intro ag s σ H x y u w Q I m l h;obtain⟨mu,S,d,e,r,a,k,r2,c,n,hc⟩:=uY h;obtain⟨i,j,rfl,rfl,rfl,rfl⟩:=hg d e S r a n;cases k;cases r2;exact ho ag s σ H _ _ u w Q I m l ⟨i,j,O,O,hc.now (hv i j _ _ _) c⟩
theorem m9:gI X (Nk .Mult) (r2 X.K (b2 mT)):=nN (c:=λi j=>IntMulOk i j) (v:=λi j=>.int (i*j)) (λd e S r a h=>by
 unfold mT at h;split at h
 ·split at h
  ·rename_i q;cases h;exact⟨_,_,O,O,vC q,O,O⟩
  ·cases h
 ·cases h) (λ_ _ _ _ _=>.int _) (JX λ_ _ _ _ _ _ _ hc q=>mul_int q hc)
theorem ng:gI X (Nk .Mod) (r2 X.K (b2 md)):=nN (c:=λ_ j=>0<j) (v:=λi j=>.int (i%j)) (λd e S r a h=>by
 unfold md at h;split at h
 ·split at h
  ·rename_i q;cases h;exact⟨_,_,O,O,q,O,O⟩
  ·cases h
 ·cases h) (λ_ _ _ _ _=>.int _) Ge
theorem wK:gI X (Nk .FloorDiv) (r2 X.K (b2 sm)):=nN (c:=JS) (v:=λi j=>.int (i/j)) (λd e S r a h=>by
 unfold sm at h;split at h
 ·split at h
  ·rename_i q;cases h;exact⟨_,_,O,O,q,O,O⟩
  ·cases h
 ·cases h) (λ_ _ _ _ _=>.int _) C4
theorem Aq:gI X (Nk .Pow) (r2 X.K (b2 vP)):=nN (c:=JR) (v:=λi j=>.int (i^j.toNat)) (λd e S r a h=>by
 unfold vP at h;split at h
 ·split at h
  ·rename_i q;cases h;exact⟨_,_,O,O,q,O,O⟩
  ·cases h
 ·cases h) (λ_ _ _ _ _=>.int _) Gc
theorem EB:HM X (unaryOp .USub) (λx H Q=>rN X.K (b1 Bp) [x] H Q):=by
 intro ag s σ H x v Q I f h;obtain⟨j,mu,S,d,r,g,e,c,b,a,hc⟩:=xX h;cases e;cases d with
 |int i=>cases a;cases c;exact EV ag s σ H _ v Q I f ⟨i,O,hc.now (.int _) b⟩
 |_=>cases a
theorem yH{s:dN}{prog:dQ}{w:dS}{A:dR}{E:dM->dN->Prop}{t b:dP}{ws:List dM}{Q:dM->dN->Prop}(ht:MD s.heap t ([]:List dM).toArray)(hb:MD s.heap b ws.toArray)(h:Q (.ref b) s):
  dX (MN prog w) A (Nk .Add (.ref t) (.ref b)) Q E s:=by
 obtain⟨⟨q,o,k,m⟩,l,hc,n,j⟩:=id ht;obtain⟨⟨i,g,f,e⟩,d,a,p,c⟩:=id hb;simp only at hc j a c;subst hc j a c;exact concat_meets ⟨_,l,O⟩ ⟨_,d,O⟩ noFill_tuple_add seq_tuple_add NC ND (NE _ _) (tuple_addW0 t b ([]:List dM).toArray ws.toArray n p o g m e (by simp)) ⟨l,d,h⟩
theorem gt:gI X (Nk .Add) (r2 X.K (b2 gj)):=by
 intro ag s σ H x y u w Q I t q h;obtain⟨mu,S,d,e,r,R,v,r2,f,c,hc⟩:=uY h;unfold gj at c;split at c
 ·cases c;cases v;cases r2;exact Gh ag s σ H _ _ u w Q I t q ⟨_,_,O,O,hc.now (.int _) f⟩
 ·rename_i xs ys;split at c
  ·rename_i o;cases c;cases v with
   |tup A m=>
    cases r2 with
    |tup B l=>
     rename_i g a1 k a2;by_cases E:g=[]
     ·subst E;have:xs=[]:=by cases m;rfl
      subst this;cases t;cases q;obtain⟨C,P,N,_⟩:=I.tuple A;obtain⟨D,au,p2,_⟩:=I.tuple B;have:C=[]:=P.nil_iff.mpr O;subst this;exact yH N p2 ⟨.ref a2,H,I,O,hc.now (.tup B l) f⟩
     ·refine C5 ag s σ H _ _ u w Q I t q ⟨a1,a2,g,k,O,O,A,B,E,by rw[<- m.length,<- l.length];exact o,λz=>?_,λz p n=>?_⟩
      ·subst z;have:ys=[]:=by cases l;rfl
       subst this;rw[aP]at hc;exact hc.now (.tup A m) f
      ·exact hc _ _ mu (Ext.fresh n) (.tup (kC.of eJ) ((m.append l).ext (Ext.fresh n))) (f.fresh n)
  ·cases c
 ·rename_i i j;split at c
  ·rename_i o;cases c;cases v;cases r2;exact vw ag s σ H _ _ u w Q I t q ⟨i,j,O,O,o,hc.now (.str _) f⟩
  ·cases c
 ·rename_i a b;split at c
  ·rename_i xs ys G ao;split at c
   ·rename_i o;cases c;cases v with
    |ref am=>
     cases r2 with
     |ref L=>
      obtain⟨g,F,m⟩:=f.lst G am;obtain⟨k,K,l⟩:=f.lst ao L;refine Gg ag s σ H _ _ u w Q I t q ⟨_,_,g,k,O,O,F,K,by rw[<- m.length,<- l.length];exact o,λp n=>?_⟩;exact hc _ _ (mu++[p]) (Ext.new_ n) (.ref (gz f.len p)) (f.newL (m.append l) n)
   ·cases c
  ·cases c
 ·cases c
noncomputable def kB(p:Int->Int->Bool):G2:=λd e S=>match d,e with
 | .int i,.int j=>Z (.bl (p i j),S)
 |_,_=>Y
theorem sn{p:Int->Int->Bool}(d e:D)(S:d7)(r:D)(a:d7)(h:kB p d e S=Z (r,a)):∃i j,d = .int i/\e = .int j/\r = .bl (p i j)/\a=S:=by
 unfold kB at h;split at h
 ·cases h;exact⟨_,_,O,O,O,O⟩
 ·cases h
theorem IG:gI X (Nl .LtE) (r2 X.K (b2 (kB λi j=>decide (i<=j)))):=ou sn (λ_ _ _ _ _=>.bl _) IC
theorem KI:gI X (Nl .Gt) (r2 X.K (b2 (kB λi j=>decide (j<i)))):=ou sn (λ_ _ _ _ _=>.bl _) ID
theorem IK:gI X (Nl .GtE) (r2 X.K (b2 (kB λi j=>decide (j<=i)))):=ou sn (λ_ _ _ _ _=>.bl _) IE
noncomputable def mf:D->Bool
 | .non=>M
 | .bl _=>M
 | .int _=>M
 | .str _=>M
 |_=>J
noncomputable def J9:D->D->Option Bool
 | .non,.non=>some true
 | .bl a,.bl b=>some (a == b)
 | .bl a,.int b=>some ((if a then 1 else 0) == b)
 | .int a,.bl b=>some (a == (if b then 1 else 0))
 | .int a,.int b=>some (a == b)
 | .str a,.str b=>some (a == b)
 |d,e=>if mf d&&mf e then some false else none
noncomputable def xn(f:D->D->Option Bool):List D->List D->Option Bool
 |x::xs,y::ys=>(f x y).bind λb=>(xn f xs ys).map λc=>b&&c
 |[],[]=>Z M
 |_,_=>Z J
def hH(S:d7):Nat->D->D->Option Bool
 |0,_,_=>Y
 |n+1,d,e=>match ei S d,ei S e with
  |some p,Z q=>if p.1=q.1 then(if p.1=M/\p.2.length≠q.2.length then Z J else xn (hH S n) p.2 q.2)else Z J
  |some _,Y=>if mf e=M then Z J else Y
  |none,Z _=>if mf d=M then Z J else Y
  |none,Y=>J9 d e
section
variable{ag:List (dP×Obj)}{σ:L2.St}{H:Hp}{s:dN}{mu:List dP}{S:d7}
theorem fR{K:Fg1}{d:D}{v:V}(r:fc K H mu d v)(h:mf d=M):kP v=M /\ ∀e w,fc K H mu e w->mf e=M->J9 d e=Z (uZ v w):=by
 cases d with
 |non=>cases r;refine⟨O,λe w q f=>?_⟩;cases e with
  |non=>cases q;rfl
  |bl _=>cases q;rfl
  |int _=>cases q;rfl
  |str _=>cases q;rfl
  |_=>cases f
 |bl b=>cases r;refine⟨O,λe w q f=>?_⟩;cases e with
  |non=>cases q;rfl
  |bl _=>cases q;rfl
  |int _=>cases q;rfl
  |str _=>cases q;rfl
  |_=>cases f
 |int i=>cases r;refine⟨O,λe w q f=>?_⟩;cases e with
  |non=>cases q;rfl
  |bl _=>cases q;rfl
  |int _=>cases q;rfl
  |str _=>cases q;rfl
  |_=>cases f
 |str x=>cases r;refine⟨O,λe w q f=>?_⟩;cases e with
  |non=>cases q;rfl
  |bl _=>cases q;rfl
  |int _=>cases q;rfl
  |str _=>cases q;rfl
  |_=>cases f
 |_=>cases h
theorem oV{d e:D}{b:Bool}(h:J9 d e=Z b):mf d=M/\mf e=M:=by
 cases d<;>cases e<;>first|exact⟨rfl,rfl⟩|(cases h;done)|exact nomatch h|(simp[J9,mf]at h)
theorem Bu{v:V}(h:kP v=M):uZ v v=M:=by
 cases v<;>first|rfl|(cases h;done)|exact Oz _|(simp[uZ];done)
theorem uA(I:Inv X ag σ H s)(hs:Sim X.K H mu S):∀(n:Nat) {d e:D} {v:V} {b:Bool},fc X.K H mu d v->fc X.K H mu e v->hH S n d e=Z b->b=M
 |0,_,_,_,_,_,_,h=>by cases h
 |n + 1,d,e,v,b,z,l,h=>by
  rw[hH]at h;have g:∀{xs ys:List D} {vs:List V} {b:Bool},ej X.K H mu xs vs->ej X.K H mu ys vs->xn (hH S n) xs ys=Z b->b=M:=by
   intro xs
   induction xs with
   |nil=>intro ys vs b u y h;cases u;cases y;cases h;rfl
   |cons x xs ih=>
    intro ys vs b u y h;cases u with
    |cons r t=>
     cases y with
     |cons au am=>
      rw[xn]at h;obtain⟨b1,k,h⟩:=Py h;obtain⟨b2,c,h⟩:=Pz h;subst h;rw[uA I hs n r au k,ih t am c];rfl
  cases hd:ei S d with
  |some p=>
   obtain⟨F,xs⟩:=p;obtain⟨a,vs,rfl,q,t⟩:=er z hs hd;cases he:ei S e with
   |some p2=>
    obtain⟨qb,ys⟩:=p2;obtain⟨a2,m,c,B,A⟩:=er l hs he;cases c;rw[hd,he]at h;dsimp only at h;obtain⟨Q,U,E,_⟩:=fg I q;obtain⟨C,P,i,_⟩:=fg I B;have K:F=qb:=by
     cases F<;>cases qb
     ·rfl
     ·obtain⟨o,k,w,_⟩:=E;obtain⟨T,c,j,_⟩:=i;rw[k]at c;cases c;rw[w]at j;exact absurd j (by decide)
     ·obtain⟨o,k,w,_⟩:=E;obtain⟨T,c,j,_⟩:=i;rw[k]at c;cases c;rw[w]at j;exact absurd j (by decide)
     ·rfl
    subst K;have N:=nI I q B;subst N;rw[ak O,aj (by rw[t.length,A.length];simp)]at h;exact g t A h
   |none=>
    rw[hd,he]at h;dsimp only at h;split at h
    ·rename_i f;have:=(fR l f).1;cases this
    ·cases h
  |none=>
   cases he:ei S e with
   |some p2=>
    obtain⟨qb,ys⟩:=p2;obtain⟨a2,m,c,B,A⟩:=er l hs he;subst c;rw[hd,he]at h;dsimp only at h;split at h
    ·rename_i f;have:=(fR z f).1;cases this
    ·cases h
   |none=>
    rw[hd,he]at h;dsimp only at h;obtain⟨L,R⟩:=oV h;obtain⟨ao,G⟩:=fR z L;rw[G e v l R]at h;cases h;exact Bu ao
theorem fG{A:dR}{b:Bool}{a:dP}{its:Array dM}{v:V}{u:dM}(c:SCo b s.heap a its)(r:ew v u)(f:kP v=true)(d:A.units<Nt):
   NV A s (.ref a) u J/\NV A s u (.ref a) J/\OA A s (.ref a) u J/\OA A s u (.ref a) J:=by
 cases v with
 | non => cases r;cases b
          · exact⟨.tuple_none c d,.none_tuple c d,.tuple_none c d,.none_tuple c d⟩
          · exact⟨.list_none c d,.none_list c d,.list_none c d,.none_list c d⟩
 | bl k => cases r;cases b
           · exact⟨.tuple_bool k c d,.bool_tuple k c d,.tuple_bool k c d,.bool_tuple k c d⟩
           · exact⟨.list_bool k c d,.bool_list k c d,.list_bool k c d,.bool_list k c d⟩
 | int i => obtain ⟨t,rfl⟩:=r;cases b
            · exact⟨.tuple_int i t c d,.int_tuple i t c d,.tuple_int i t c d,.int_tuple i t c d⟩
            · exact⟨.list_int i t c d,.int_list i t c d,.list_int i t c d,.int_list i t c d⟩
 | str x => obtain ⟨t,rfl⟩:=r;cases b
            · exact⟨.tuple_str x t c d,.str_tuple x t c d,.tuple_str x t c d,.str_tuple x t c d⟩
            · exact⟨.list_str x t c d,.str_list x t c d,.list_str x t c d,.str_list x t c d⟩
 |_=>cases f
theorem CC{A:dR}{x y:V}{u w:dM}(e:ew x u)(a:ew y w)(h:kP x=M)(d:kP y=M):OA A s u w (uZ x y):=by
 cases x with
 |non=>cases e;cases y with
  |non=>cases a;exact .none_none
  |bl k=>cases a;exact .none_bool k
  |int i=>obtain⟨t,rfl⟩:=a;exact .none_int i t
  |str z=>obtain⟨t,rfl⟩:=a;exact .none_str z t
  |_=>cases d
 |bl f=>cases e;cases y with
  |non=>cases a;exact .bool_none f
  |bl k=>cases a;exact .bool_bool f k
  |int i=>obtain⟨t,rfl⟩:=a;exact .bool_int f i t
  |str z=>obtain⟨t,rfl⟩:=a;exact .bool_str f z t
  |_=>cases d
 |int c=>obtain⟨b,rfl⟩:=e;cases y with
  |non=>cases a;exact .int_none c b
  |bl k=>cases a;exact .int_bool c b k
  |int i=>obtain⟨t,rfl⟩:=a;exact .int_int c b i t
  |str z=>obtain⟨t,rfl⟩:=a;exact .int_str c b z t
  |_=>cases d
 |str g=>obtain⟨b,rfl⟩:=e;cases y with
  |non=>cases a;exact .str_none g b
  |bl k=>cases a;exact .str_bool g b k
  |int i=>obtain⟨t,rfl⟩:=a;exact .str_int g b i t
  |str z=>obtain⟨t,rfl⟩:=a;exact .str_str g b z t
  |_=>cases d
 |_=>cases h
theorem vR(f:D->D->Option Bool):∀{xs ys:List D} {b:Bool},xn f xs ys=Z b -> ∃e:Nat->Bool,(∀j x y,xs[j]?=Z x->ys[j]?=Z y->f x y=Z (e j))/\b=((af (min xs.length ys.length)).all e&&xs.length == ys.length)
 |[],[],b,h=>by cases h;exact⟨λ_=>M,λj x y h=>by simp at h,O⟩
 |[],y::ys,b,h=>by cases h;exact⟨λ_=>M,λj x y h=>by simp at h,by simp⟩
 |x::xs,[],b,h=>by cases h;exact⟨λ_=>M,λj x y h h'=>by simp at h',by simp⟩
 |x::xs,y::ys,b,h=>by
  rw[xn]at h;obtain⟨b1,d,h⟩:=Py h;obtain⟨b2,m,h⟩:=Pz h;obtain⟨e,g,l⟩:=vR f m;refine⟨λj=>match j with|0=>b1|j+1=>e j,λj k i a c=>?_,?_⟩
  ·cases j with
   |zero=>simp at a c;subst a;subst c;exact d
   |succ j=>exact g j k i (by simpa using a) (by simpa using c)
  ·rw[<- h,l,lC1,lC1,Nat.succ_min_succ,List.range_succ_eq_map,bS,List.all_map];have:((xs.length+1 == ys.length+1):Bool)=(xs.length == ys.length):=by simp
   rw[this,Bool.and_assoc];rfl
theorem k7(I:Inv X ag σ H s)(hs:Sim X.K H mu S):∀(n:Nat) {A:dR} {d e:D} {v w:V} {u z:dM} {b:Bool},A.units+n<Nt->fc X.K H mu d v->fc X.K H mu e w->ew v u->ew w z->hH S n d e=Z b->NV A s u z b/\OA A s u z b
 |0,_,_,_,_,_,_,_,_,_,_,_,_,_,h=>by cases h
 |n + 1,A,d,e,v,w,u,z,b,hu,P,r,au,E,h=>by
  have i:A.units<Nt:=by lia
  have h0:=h;rw[hH]at h;cases hd:ei S d with
  |some p=>
   obtain⟨U,xs⟩:=p;obtain⟨a,vs,rfl,q,t⟩:=er P hs hd;obtain⟨k,R,o,_⟩:=fg I q;cases au;cases he:ei S e with
   |some p2=>
    obtain⟨qb,ys⟩:=p2;obtain⟨a2,C,rfl,q2,Q⟩:=er r hs he;obtain⟨c,m,g,_⟩:=fg I q2;cases E;rw[hd,he]at h;dsimp only at h;have l:OA A s (.ref a) (.ref a2) b->NV A s (.ref a) (.ref a2) b/\OA A s (.ref a) (.ref a2) b:=λrc=>by
     refine⟨?_,rc⟩;by_cases ha:a=a2
     ·subst ha;rw[uA I hs (n+1) P r h0];exact .same _
     ·exact .of_refs ha rc
    split at h
    ·rename_i N;have hb':U=qb:=N;subst hb';split at h
     ·rename_i wq;cases h;obtain⟨h1,h2⟩:=wq;subst h1;refine l (.lists_lengths o g ?_ i);have l1:=t.length;have l2:=Q.length;have l3:=R.length;have l4:=m.length
      simp only[sT1,bne_iff_ne,ne_eq];lia
     ·rename_i wq;obtain ⟨f,hf,F⟩:=vR _ h;have elts:∀ j (h1:j<k.toArray.size) (h2:j<c.toArray.size),NV A.in1 s k.toArray[j] c.toArray[j] (f j):=fun j h1 h2=>by
       have L:j<k.length:=by simpa using h1
       have ao:j<c.length:=by simpa using h2
       have k1:j<vs.length:=by rw[R.length];exact L
       have k2:j<C.length:=by rw[m.length];exact ao
       obtain⟨x,ex,rx⟩:=t.getV (gG1 k1);obtain⟨y,ey,ry⟩:=Q.getV (gG1 k2);obtain⟨u1,am,W⟩:=R.get (gG1 k1);obtain⟨u2,G,aq⟩:=m.get (gG1 k2);have B:k.toArray[j]=u1:=by
        rw[gG1 L]at am;simpa using am
       have T:c.toArray[j]=u2:=by
        rw[gG1 ao]at G;simpa using G
       rw[B,T];exact(k7 I hs n (A:=A.in1) (by show A.units+1+n<Nt;lia) rx ry W aq (hf j x y ex ey)).1
      have l1:=t.length;have l2:=Q.length;have l3:=R.length;have l4:=m.length
      cases U with
      |false=>
       refine l ?_;have:=SeqAt.RcAt.tuples o g i elts;rw[F];have B:k.toArray.size=xs.length:=by simp;lia
       have T:c.toArray.size=ys.length:=by simp;lia
       rw[B,T]at this;exact this
      |true=>
       refine l ?_;have K:xs.length=ys.length:=by
        by_cases z:xs.length=ys.length
        ·exact z
        ·exact absurd ⟨O,z⟩ wq
       have:=SeqAt.RcAt.lists o g (by simp;lia) i elts;rw[F];have B:k.toArray.size=xs.length:=by simp;lia
       rw[B]at this;rw[K,Nat.min_self,Oz,bP,<- K];exact this
    ·rename_i N;cases h;cases U with
     |true=>
      cases qb with
      |true=>exact absurd O N
      |false=>exact⟨.list_tuple o g i,.list_tuple o g i⟩
     |false=>
      cases qb with
      |false=>exact absurd O N
      |true=>exact⟨.tuple_list o g i,.tuple_list o g i⟩
   |none=>
    rw[hd,he]at h;dsimp only at h;split at h
    ·rename_i f;cases h;obtain⟨r1,r2,r3,r4⟩:=fG o E (fR r f).1 i;exact⟨r1,r3⟩
    ·cases h
  |none=>
   cases he:ei S e with
   |some p2=>
    obtain⟨qb,ys⟩:=p2;obtain⟨a2,C,rfl,q2,Q⟩:=er r hs he;obtain⟨c,m,g,_⟩:=fg I q2;cases E;rw[hd,he]at h;dsimp only at h;split at h
    ·rename_i f;cases h;obtain⟨r1,r2,r3,r4⟩:=fG g au (fR P f).1 i;exact⟨r2,r4⟩
    ·cases h
   |none=>
    rw[hd,he]at h;dsimp only at h;obtain⟨f1,f2⟩:=oV h;obtain⟨g1,g2⟩:=fR P f1;have g3:=(fR r f2).1;rw[g2 e w r f2]at h;cases h;exact⟨k8 au E g1 g3,CC au E g1 g3⟩
end
def eL:Nat:=60
def gEq:G2:=λd e S=>(hH S eL d e).map λb=>(.bl b,S)
theorem rP(k:X.A.units+64<Nt):gI X (Nl .Eq) (r2 X.K (b2 gEq)):=by
 intro ag s σ H x y u w Q I j i h;obtain⟨mu,S,d,e,r,l,g,r2,c,a,hc⟩:=uY h;obtain⟨b,f,a⟩:=Pz a;cases a;exact(k7 I c eL (by show _+60<Nt;lia) g r2 j i f).2 X.prog X.w X.xe _ ⟨.bl b,H,I,O,hc.now (.bl b) c⟩
section
variable{ag:List (dP×Obj)}{σ:L2.St}{H:Hp}{s:dN}{mu:List dP}{S:d7}
theorem Db{A:dR}{x y:V}{u w:dM}(e:ew x u)(a:ew y w)(h:kP x=M)(d:kP y=M):SeqAt.RcNeAt A s u w (!uZ x y):=by
 cases x with
 |non=>cases e;cases y with
  |non=>cases a;exact .none_none
  |bl k=>cases a;exact .none_bool k
  |int i=>obtain⟨t,rfl⟩:=a;exact .none_int i t
  |str z=>obtain⟨t,rfl⟩:=a;exact .none_str z t
  |_=>cases d
 |bl f=>cases e;cases y with
  |non=>cases a;exact .bool_none f
  |bl k=>cases a;exact .bool_bool f k
  |int i=>obtain⟨t,rfl⟩:=a;exact .bool_int f i t
  |str z=>obtain⟨t,rfl⟩:=a;exact .bool_str f z t
  |_=>cases d
 |int c=>obtain⟨b,rfl⟩:=e;cases y with
  |non=>cases a;exact .int_none c b
  |bl k=>cases a;exact .int_bool c b k
  |int i=>obtain⟨t,rfl⟩:=a;exact .int_int c b i t
  |str z=>obtain⟨t,rfl⟩:=a;exact .int_str c b z t
  |_=>cases d
 |str g=>obtain⟨b,rfl⟩:=e;cases y with
  |non=>cases a;exact .str_none g b
  |bl k=>cases a;exact .str_bool g b k
  |int i=>obtain⟨t,rfl⟩:=a;exact .str_int g b i t
  |str z=>obtain⟨t,rfl⟩:=a;exact .str_str g b z t
  |_=>cases d
 |_=>cases h
theorem ni{A:dR}{b:Bool}{a:dP}{its:Array dM}{v:V}{u:dM}(c:SCo b s.heap a its)(r:ew v u)(f:kP v=M)(d:A.units<Nt):SeqAt.RcNeAt A s (.ref a) u M/\SeqAt.RcNeAt A s u (.ref a) M:=by
 cases v with
 | non => cases r;cases b
          · exact⟨.tuple_none c d,.none_tuple c d⟩
          · exact⟨.list_none c d,.none_list c d⟩
 | bl k => cases r;cases b
           · exact⟨.tuple_bool k c d,.bool_tuple k c d⟩
           · exact⟨.list_bool k c d,.bool_list k c d⟩
 | int i => obtain ⟨t,rfl⟩:=r;cases b
            · exact⟨.tuple_int i t c d,.int_tuple i t c d⟩
            · exact⟨.list_int i t c d,.int_list i t c d⟩
 | str x => obtain ⟨t,rfl⟩:=r;cases b
            · exact⟨.tuple_str x t c d,.str_tuple x t c d⟩
            · exact⟨.list_str x t c d,.str_list x t c d⟩
 |_=>cases f
theorem Gm(I:Inv X ag σ H s)(hs:Sim X.K H mu S)(n:Nat){A:dR}{d e:D}{v w:V}{u z:dM}{b:Bool}(hu:A.units+n<Nt)(T:fc X.K H mu d v)(G:fc X.K H mu e w)(R:ew v u)(L:ew w z)(h:hH S n d e=Z b):SeqAt.RcNeAt A s u z (!b):=by
 cases n with
 |zero=>cases h
 |succ n=>
  have i:A.units<Nt:=by lia
  rw[hH]at h;cases hd:ei S d with
  |some p=>
   obtain⟨au,xs⟩:=p;obtain⟨a,vs,rfl,q,t⟩:=er T hs hd;obtain⟨k,rv,m,_⟩:=fg I q;cases R;cases he:ei S e with
   |some p2=>
    obtain⟨qb,ys⟩:=p2;obtain⟨a2,r,rfl,wq,aq⟩:=er G hs he;obtain⟨c,l,g,_⟩:=fg I wq;cases L;rw[hd,he]at h;dsimp only at h;have l1:=t.length;have l2:=aq.length;have l3:=rv.length;have l4:=l.length
    split at h
    ·rename_i ao;have W:au=qb:=ao;subst W;split at h
     ·rename_i U;cases h;obtain⟨h1,h2⟩:=U;subst h1;refine .lists_lengths m g ?_ i;simp only[sT1,bne_iff_ne,ne_eq];lia
     ·rename_i U;obtain ⟨f,hf,B⟩:=vR _ h;have elts:∀ j (h1:j<k.toArray.size) (h2:j<c.toArray.size),NV A.in1 s k.toArray[j] c.toArray[j] (f j):=fun j h1 h2=>by
       have K:j<k.length:=by simpa using h1
       have am:j<c.length:=by simpa using h2
       have k1:j<vs.length:=by rw[rv.length];exact K
       have k2:j<r.length:=by rw[l.length];exact am
       obtain⟨x,ex,rx⟩:=t.getV (gG1 k1);obtain⟨y,ey,ry⟩:=aq.getV (gG1 k2);obtain⟨u1,E,P⟩:=rv.get (gG1 k1);obtain⟨u2,C,Q⟩:=l.get (gG1 k2);have o:k.toArray[j]=u1:=by
        rw[gG1 K]at E;simpa using E
       have N:c.toArray[j]=u2:=by
        rw[gG1 am]at C;simpa using C
       rw[o,N];exact(k7 I hs n (A:=A.in1) (by show A.units+1+n<Nt;lia) rx ry P Q (hf j x y ex ey)).1
      cases au with
      |false=>
       have:=SeqAt.RcNeAt.tuples m g i elts;rw[B];have o:k.toArray.size=xs.length:=by simp;lia
       have N:c.toArray.size=ys.length:=by simp;lia
       rw[o,N]at this;exact this
      |true=>
       have F:xs.length=ys.length:=by
        by_cases z:xs.length=ys.length
        ·exact z
        ·exact absurd ⟨O,z⟩ U
       have:=SeqAt.RcNeAt.lists m g (by simp;lia) i elts;rw[B];have o:k.toArray.size=xs.length:=by simp;lia
       rw[o]at this;rw[F,Nat.min_self,Oz,bP,<- F];exact this
    ·rename_i ao;cases h;cases au with
     |true=>
      cases qb with
      |true=>exact absurd O ao
      |false=>exact .list_tuple m g i
     |false=>
      cases qb with
      |false=>exact absurd O ao
      |true=>exact .tuple_list m g i
   |none=>
    rw[hd,he]at h;dsimp only at h;split at h
    ·rename_i f;cases h;exact(ni m L (fR G f).1 i).1
    ·cases h
  |none=>
   cases he:ei S e with
   |some p2=>
    obtain⟨qb,ys⟩:=p2;obtain⟨a2,r,rfl,wq,aq⟩:=er G hs he;obtain⟨c,l,g,_⟩:=fg I wq;cases L;rw[hd,he]at h;dsimp only at h;split at h
    ·rename_i f;cases h;exact(ni g R (fR T f).1 i).2
    ·cases h
   |none=>
    rw[hd,he]at h;dsimp only at h;obtain⟨f1,f2⟩:=oV h;obtain⟨g1,g2⟩:=fR T f1;have g3:=(fR G f2).1;rw[g2 e w G f2]at h;cases h;exact Db R L g1 g3
end
def gNe:G2:=λd e S=>(hH S eL d e).map λb=>(.bl (!b),S)
noncomputable def B4(f:D->D->Option Bool)(x:D):List D->Option Bool
 |[]=>Z J
 |y::ys=>(f y x).bind λb=>(B4 f x ys).map λc=>b||c
def Ls:G2:=λd e S=>(ei S e).bind λp=>(B4 (hH S eL) d p.2).map λb=>(.bl b,S)
def mS:G2:=λd e S=>(ei S e).bind λp=>(B4 (hH S eL) d p.2).map λb=>(.bl (!b),S)
noncomputable def wZ:D->Bool
 | .non=>M
 |_=>J
def KU:G2:=λd e S=>match e with
 | .non=>Z (.bl (wZ d),S)
 |_=>Y
section
theorem yd(k:X.A.units+64<Nt):gI X (Nl .NotEq) (r2 X.K (b2 gNe)):=by
 intro ag s σ H x y u w Q I j i h;obtain⟨mu,S,d,e,r,l,g,r2,c,a,hc⟩:=uY h;obtain⟨b,f,a⟩:=Pz a;cases a;exact Gm I c eL (by show _+60<Nt;lia) g r2 j i f X.prog X.w X.xe _ ⟨.bl (!b),H,I,O,hc.now (.bl _) c⟩
theorem Bh(f:D->D->Option Bool)(x:D):∀{ys:List D} {b:Bool},B4 f x ys=Z b -> ∃bs:List Bool,bs.length=ys.length/\(∀(j:Nat) (y:D) (k:Bool),ys[j]?=Z y->bs[j]?=Z k->f y x=Z k)/\b=bs.any id
 |[],b,h=>by cases h;exact⟨[],O,λj y k h=>by simp at h,O⟩
 |y::ys,b,h=>by
  rw[B4]at h;obtain⟨b1,e,h⟩:=Py h;obtain⟨b2,l,h⟩:=Pz h;obtain⟨bs,m,i,a⟩:=Bh f x l;refine⟨b1::bs,by simp[m],λj g k d c=>?_,?_⟩
  ·cases j with
   |zero=>simp at d c;subst d;subst c;exact e
   |succ j=>exact i j g k (by simpa using d) (by simpa using c)
  ·rw[<- h,a];simp
open Classical in
theorem Ja{ag:List (dP×Obj)}{σ:L2.St}{H:Hp}{s:dN}{mu:List dP}{S:d7}(I:Inv X ag σ H s)(hs:Sim X.K H mu S){A:dR}(K:A.units+61<Nt){x:D}{v:V}{u:dM}(E:fc X.K H mu x v)(C:ew v u){ys:List D}{vs:List V}{a:List dM}{b:Bool}(p:ej X.K H mu ys vs)(q:eH vs a)(h:B4 (hH S eL) x ys=Z b):∃e:dM->Bool,(∀w∈a,NV A.in1 s w u (e w))/\a.any e=b:=by
 obtain⟨bs,ao,B,rfl⟩:=Bh _ x h;have G:=p.length;have am:=q.length;have at_:∀(j:Nat) w k,a[j]?=Z w->bs[j]?=Z k->NV A.in1 s w u k:=λj w k g f=>by
  have o:j<a.length:=(Px g).1;obtain⟨y,r,t⟩:=p.getV (i:=j) (v:=vs[j]'(by lia)) (gG1 (by lia));obtain⟨L,n,r2⟩:=q.get (i:=j) (x:=vs[j]'(by lia)) (gG1 (by lia));rw[g]at n;cases n;exact(k7 I hs eL (A:=A.in1) (by show A.units+1+60<Nt;lia) t E r2 C (B j y k r f)).1
 refine⟨λw=>decide (∃j:Nat,a[j]?=Z w/\bs[j]?=Z M),λw g=>?_,?_⟩
 ·by_cases z:∃j:Nat,a[j]?=Z w/\bs[j]?=Z M
  ·dsimp only;rw[ah z];obtain⟨j,m,c⟩:=z;exact at_ j w M m c
  ·dsimp only;rw[ai z];obtain⟨j,d⟩:=bq g;have o:j<a.length:=(Px d).1;have l:j<bs.length:=by lia
   have c:=gG1 l;cases f:bs[j]with
   |true=>rw[f]at c;exact absurd ⟨j,d,c⟩ z
   |false=>rw[f]at c;exact at_ j w J d c
 ·rw[bT,bU,bU];constructor
  ·rintro⟨w,g,z⟩;obtain⟨j,m,c⟩:=N7 z;exact⟨M,gM1 c,O⟩
  ·rintro⟨k,f,z⟩;obtain⟨j,d⟩:=bq f;have o:j<bs.length:=(Px d).1;have l:j<a.length:=by lia
   have F:k=M:=z;subst F;exact⟨a[j],bV l,ah ⟨j,gG1 l,d⟩⟩
theorem C8(E:X.A.units+64<Nt):gI X (Nl .NotIn) (r2 X.K (b2 mS)):=by
 intro ag s σ H x y u w Q I z p h;obtain⟨mu,S,d,e,r,F,o,r2,j,i,hc⟩:=uY h;obtain⟨⟨v,ys⟩,n,i⟩:=Py i;obtain⟨b,C,i⟩:=Pz i;cases i;obtain⟨a,vs,rfl,q,t⟩:=er r2 j n;cases p;obtain⟨c,D,l,_⟩:=fg I q;obtain⟨f,m,B⟩:=Ja I j (A:=X.A) (by lia) o z t D C;have g:EP X ag σ Q (.bool (!c.toArray.any f)) s:=⟨.bl (!b),H,I,by rw[show c.toArray.any f=c.any f by simp,B];rfl,hc.now (.bl _) j⟩;cases v
 ·exact SeqAt.notIn_tupleAt f l (λy k=>m y (by simpa using k)) g
 ·exact SeqAt.notIn_listAt f l (λy k=>m y (by simpa using k)) g
theorem C9{K:Fg1}{H:Hp}{mu:List dP}{d:D}{v:V}(r:fc K H mu d v):wZ d=decide (v = .non):=by
 cases r<;>simp[wZ]
theorem II:gI X (Nl .Is) (r2 X.K (b2 KU)):=by
 intro ag s σ H x y u w Q I g c h;obtain⟨mu,S,d,e,r,i,f,r2,b,a,hc⟩:=uY h;cases e with
 |non=>
  cases a;cases r2;refine Gf ag s σ H _ _ u w Q I g c ⟨O,?_⟩;rw[<- C9 f];exact hc.now (.bl _) b
 |_=>cases a
end
def eR:G1:=λd S=>match d with
 | .str x=>if x.length<=dW then Z (.int x.length,S)else Y
 |_=>(ei S d).map λp=>(.int p.2.length,S)
def xg:G2:=λd e S=>match e with
 | .int i=>(ei S d).bind λp=>(uP p.2 i).map λx=>(x,S)
 |_=>Y
def gTup:G1:=λd S=>(ei S d).map λp=>(.tup p.2,S)
def D4:G1:=λd S=>(ei S d).map λp=>(.ref S.length,S++[.lst p.2])
def k6:G3:=λo i v S=>match o,i with
 | .ref n,.int k=>match S[n]? with
  |some (.lst xs)=>(vK xs.length k).map λj=>(.non,S.set n (.lst (xs.set j v)))
  |_=>Y
 |_,_=>Y
noncomputable def BS:List D->Option Bool
 |[]=>Z M
 | .bl b::r=>(BS r).map λc=>b&&c
 |_=>Y
def mU:G1:=λd S=>(ei S d).bind λp=>(BS p.2).map λb=>(.bl b,S)
noncomputable def ut:G1:=λd S=>match d with
 | .int i=>Z (.int i,S)
 | .bl b=>Z (.int (if b then 1 else 0),S)
 |_=>Y
noncomputable def D2:G2:=λd e S=>match d,e with
 | .int i,.int j=>Z (.int (if j>i then j else i),S)
 |_,_=>Y
noncomputable def D1:G2:=λd e S=>match d,e with
 | .int i,.int j=>Z (.int (if j<i then j else i),S)
 |_,_=>Y
theorem eU:fi X (.builtin "len") (rN X.K (b1 eR)):=by
 intro ag s σ H xs g Q I r h;obtain⟨x,mu,S,d,k,l,rfl,f,e,c,hc⟩:=xX h;unfold eR at c;split at c
 ·split at c
  ·rename_i z j;cases c;cases f;exact sA ag s σ H _ g Q I r ⟨_,O,j,hc.now (.int _) e⟩
  ·cases c
 ·obtain⟨⟨b,ys⟩,i,c⟩:=Pz c;cases c;obtain⟨a,vs,rfl,q,t⟩:=er f e i;refine sB ag s σ H _ g Q I r ⟨a,vs,O,?_,?_⟩
  ·cases b
   ·exact .inr q
   ·exact .inl q
  ·rw[<- t.length];exact hc.now (.int _) e
theorem Ed{K:Fg1}{H:Hp}{mu:List dP}{ds:List D}{vs:List V}{i:Int}{d:D}(t:ej K H mu ds vs)(h:uP ds i=Z d):∃v,uP vs i=Z v/\fc K H mu d v:=by
 unfold uP at h ⊢;rw[<- t.length];obtain⟨j,b,h⟩:=Py h;obtain⟨v,c,a⟩:=t.get h;exact⟨v,by rw[b];exact c,a⟩
theorem Ki:EQ X (r2 X.K (b2 xg)):=by
 intro value c ag s σ H x y v u Q I n l h g;obtain⟨mu,S,d,e,r,B,w,r2,j,f,hc⟩:=uY h;cases e with
 |int i=>
  obtain⟨⟨b,ys⟩,p,f⟩:=Py f;obtain⟨z,A,f⟩:=Pz f;cases f;cases r2;obtain⟨a,vs,rfl,q,t⟩:=er w j p;obtain⟨k,m,o⟩:=Ed t A;cases b
  ·exact G9 value c ag s σ H _ _ v u Q I n l ⟨a,vs,i,k,O,O,q,m,hc.now o j⟩ g
  ·exact DR value c ag s σ H _ _ v u Q I n l ⟨a,vs,i,k,O,O,q,m,hc.now o j⟩ g
 |_=>cases f
theorem fh:fi X (.type "tuple") (rN X.K (b1 gTup)):=by
 intro ag s σ H xs j Q I r h;obtain⟨x,mu,S,d,k,m,rfl,i,c,f,hc⟩:=xX h;obtain⟨⟨b,ys⟩,g,f⟩:=Pz f;cases f;obtain⟨a,vs,rfl,q,t⟩:=er i c g;refine pO ag s σ H _ j Q I r ⟨a,vs,O,?_⟩;cases b
 ·exact .inr ⟨q,hc.now (.tup q t) c⟩
 ·exact .inl ⟨q,λl e=>hc _ _ mu (Ext.fresh e) (.tup (kC.of eJ) (t.ext (Ext.fresh e))) (c.fresh e)⟩
theorem Ht:fi X (.type "list") (rN X.K (b1 D4)):=by
 intro ag s σ H xs j Q I r h;obtain⟨x,mu,S,d,k,m,rfl,i,c,e,hc⟩:=xX h;obtain⟨⟨b,ys⟩,g,e⟩:=Pz e;cases e;obtain⟨a,vs,rfl,q,t⟩:=er i c g;refine sy ag s σ H _ j Q I r ⟨a,vs,O,?_,λl f=>hc _ _ (mu++[l]) (Ext.new_ f) (.ref (gz c.len l)) (c.newL t f)⟩;cases b
 ·exact .inr q
 ·exact .inl q
theorem Ii:wd X (rU X.K (b3 k6)):=by
 intro ag s σ H o i v B x u Q I A g C h;obtain⟨mu,S,ds,d,E,r,f,a,hc⟩:=h;cases r with
 |cons q y=>cases y with
  |cons z w=>cases w with
   |cons m l=>
    cases l;rename_i F G D;dsimp only[b3]at a;unfold k6 at a;split at a
    ·rename_i n k;split at a
     ·rename_i xs e;obtain⟨j,p,a⟩:=Pz a;cases a;cases q with
      |ref b=>
       cases z;obtain⟨vs,c,t⟩:=f.lst e b;refine zG ag s σ H _ _ v B x u Q I A g C ⟨_,vs,k,j,O,O,c,by rw[<- t.length];exact p,?_⟩;exact hc _ mu (Ext.put c trivial (gM1 b)) (f.putL (t.set m j) b c)
     ·cases a
    ·cases a
theorem Ef{K:Fg1}{H:Hp}{mu:List dP}:∀{ds:List D} {vs:List V} {a:List dM} {b:Bool},ej K H mu ds vs->eH vs a->BS ds=Z b -> ∃bs:List Bool,a=bs.map ae/\b=bs.all id:=by
 intro ds
 induction ds with
 |nil=>intro vs a b r v h;cases r;cases v;cases h;exact⟨[],O,O⟩
 |cons d ds ih=>
  intro vs a b r v h;cases r with
  |cons i t=>
   cases v with
   |cons r g=>
    cases i
    case bl k=>
     obtain⟨c,e,h⟩:=Pz h;obtain⟨bs,f,j⟩:=ih t g e;cases r;exact⟨k::bs,by rw[f];rfl,by rw[<- h,j];rfl⟩
    all_goals cases h
theorem pW(bs:List Bool):(af bs.length).all (λi=>bs.getD i M)=bs.all id:=by
 rw[bT,bD,bD];constructor
 ·intro h b c;obtain⟨i,hi,rfl⟩:=List.mem_iff_getElem.mp c;have:=h i (aB.mpr hi);simpa[bM,hi]using this
 ·intro h i hi;have a:=aB.mp hi;have:=h _ (bV a);simpa[bM,a]using this
theorem vd{s:dN}{b:Bool}{a:dP}{bs:List Bool}(hc:X.A.handled=Y)(g:SCo b s.heap a (bs.map ae).toArray){Q:dM->dN->Prop}(all:∀h' tk,(∀c o,s.heap.get? c=Z o->h'.get? c=Z o)->Q (.bool (bs.all id)) {s with heap:=h',toks:=tk}):dX (MN X.prog X.w) X.A (call (.builtin "all") [.ref a]) Q X.xe s:=by
 refine call_all_walk (jA g ?_);have h:a<s.heap.objs.size:=by cases b<;>(obtain⟨o,e,_⟩:=g;exact hL1 e)
 have ne:a≠s.heap.objs.size:=nN1 h;have l:TruthOf X.prog X.w X.A.in1 (λi v=>(bs.map ae).toArray[i]?=Z v) (λi=>bs.getD i M):=λi v s' q p n j=>by
  have f:(bs.map ae)[i]?=Z v:=by simpa using n
  rw[gP1]at f;obtain⟨k,m,rfl⟩:=Pz f;dsimp only at j;rw[bM,m]at j;exact MR j
 have keep:∀(h':dZ),(∀c o,c∉[s.heap.objs.size]->(s.heap.push (gv b a)).get? c=Z o->h'.get? c=Z o) -> ∀c o,s.heap.get? c=Z o->h'.get? c=Z o:=λh' d c o e=>
  d c o (by simpa using nN1 (hL1 e)) (hP1 _ e)
 have hi:(s.heap.push (gv b a)).get? s.heap.objs.size=Z (gv b a):=hS1 _ (by cases b<;>rfl);cases b with
 |true=>
  refine⟨s.heap.objs.size,_,_,_,_,_,_,O,Walks.list (A:=X.A.in1) hc s.heap.objs.size a ne (bs.map ae).toArray,⟨⟨_,hi,O,O⟩,SCo.to (b:=M) g λo e=>hP1 _ e⟩,l,λh' tk d=>?_⟩;have e:(bs.map ae).toArray.size=bs.length:=by simp
  rw[e,pW];exact all h' tk (keep h' d)
 |false=>
  refine⟨s.heap.objs.size,_,_,_,_,_,_,O,Walks.tuple (A:=X.A.in1) hc s.heap.objs.size a ne (bs.map ae).toArray,⟨⟨_,hi,O,O⟩,SCo.to (b:=J) g λo e=>hP1 _ e⟩,l,λh' tk d=>?_⟩;have e:(bs.map ae).toArray.size=bs.length:=by simp
  rw[e,pW];exact all h' tk (keep h' d)
theorem xz(hc:X.calm=M):fi X (.builtin "all") (rN X.K (b1 mU)):=by
 intro ag s σ H xs w Q I r h;obtain⟨x,mu,S,d,v,y,rfl,m,f,c,e⟩:=xX h;obtain⟨⟨b,ys⟩,i,c⟩:=Py c;obtain⟨k,o,c⟩:=Pz c;cases c;obtain⟨a,vs,rfl,q,t⟩:=er m f i;obtain⟨u,rfl,g⟩:=iN r;cases g;obtain⟨n,p,l,_⟩:=fg I q;obtain⟨bs,rfl,rfl⟩:=Ef t p o;exact vd (I.ok.hd hc) l λh' tk j=>⟨.bl _,H,I.kept j,O,e.now (.bl _) f⟩
theorem BK:fi X (.type "int") (rN X.K (b1 ut)):=by
 intro ag s σ H xs f Q I r h;obtain⟨x,mu,S,d,g,j,rfl,e,c,a,hc⟩:=xX h;cases d with
 |int i=>cases a;cases e;exact qu ag s σ H _ f Q I r (.inl ⟨i,O,hc.now (.int _) c⟩)
 |bl b=>cases a;cases e;exact qu ag s σ H _ f Q I r (.inr ⟨b,O,hc.now (.int _) c⟩)
 |_=>cases a
theorem Jx(hc:X.calm=M):fi X (.builtin "max") (rN X.K (b2 D2)):=by
 intro ag s σ H xs g Q I r h;obtain⟨x,y,mu,S,d,e,i,j,rfl,f,r2,c,a,b⟩:=zN h;unfold D2 at a;split at a
 ·cases a;cases f;cases r2;exact yM hc ag s σ H _ g Q I r ⟨_,_,O,b.now (.int _) c⟩
 ·cases a
theorem Jw(hc:X.calm=M):fi X (.builtin "min") (rN X.K (b2 D1)):=by
 intro ag s σ H xs g Q I r h;obtain⟨x,y,mu,S,d,e,i,j,rfl,f,r2,c,a,b⟩:=zN h;unfold D1 at a;split at a
 ·cases a;cases f;cases r2;exact yL hc ag s σ H _ g Q I r ⟨_,_,O,b.now (.int _) c⟩
 ·cases a
open PySem.SeqAt
open PySem.AutoSeq1 (wpAny_loadPart')
open PySem.MeetsSeq PySem.MeetsSeq2 PySem.MeetsSeq3
def BZ(A:dR)(s:dN)(y x:dM)(b:Bool):Prop:=∀(prog:dQ) (w:dS) (E:dM->dN->Prop) (Q:dM->dN->Prop),Q (.bool b) s->dX (MN prog w) A (OB .Lt y x) Q E s
inductive uU (A:dR)(s:dN):List dM->List dM->Bool->Prop
 |nn:uU A s [] [] false
 |nc (y:dM) (ys:List dM):uU A s [] (y::ys) true
 |cn (x:dM) (xs:List dM):uU A s (x::xs) [] false
 |eq {x y:dM} {xs ys:List dM} {k:Bool} (e:EqAt A.in1 s x y true) (t:uU A s xs ys k):uU A s (x::xs) (y::ys) k
 |lt {x y:dM} {xs ys:List dM} {k:Bool} (e:EqAt A.in1 s x y false) (t:BZ A.in1 s x y k):uU A s (x::xs) (y::ys) k
theorem E1(l b:dP)(items items2:Array dM)(n B:Nat)(C q:Option dP)(G p:Array (Option dM))(c:Bool):
  Meets (Builtin.«tuple.__lt__» ⟨[.ref l,.ref b],[]⟩) (fun A R s=>s.heap.get? l=some {cls:=.type "tuple",dict:=C,data:=.seq items n,slots:=G}/\s.heap.get? b=some {cls:=.type "tuple",dict:=q,data:=.seq items2 B,slots:=p} /\
    uU A s items.toList items2.toList c/\R (.ok (.ret (.bool c))) s):=
 .of_wp λprog w A R s h=>by
  obtain⟨u,g,d,tk,v⟩:=s;obtain⟨F,D,H,h⟩:=h;have I:=AutoSeq1.sub_tuple_tuple
  wp_walk using wpAny_loadPart' F,wpAny_loadPart' D,OC _ (λrest b s'=>b.1=Y/\s'=⟨u,g,d,tk,v⟩ /\ ∃vs ws:List dM,rest=vs.zip ws/\uU A ⟨u,g,d,tk,v⟩ vs ws c/\vs.length+items2.size=ws.length+items.size) _
  case turn=>
   rintro⟨y,x⟩ rest b s' ⟨k,rfl,vs,ws,f,m,a⟩;cases m with
   |nn=>cases f
   |nc _ _=>cases f
   |cn _ _=>cases f
   |eq e t=>
    rw[bW]at f;injection f with j i;injection j with r o;subst r o
    simp only[lC1]at a;refine wB1 (e prog w _ _ ?_)
    wp_walk
    exact⟨O,O,_,_,i,t,by lia⟩
   |lt e t=>
    rw[bW]at f;injection f with j i;injection j with r o;subst r o
    refine wB1 (e prog w _ _ ?_);have z:=t prog w
    wp_walk using z
    exact⟨_,O,by simpa using h⟩
  case fin=>
   rintro⟨b1,b2⟩ s' ⟨k,rfl,vs,ws,f,m,a⟩;simp only at k;subst k;have E:c=decide (items.size<items2.size):=by
    cases m with
    |nn=>simp only[bg]at a;exact(ai (by lia)).symm
    |nc _ _=>simp only[bg,lC1]at a;exact(ah (by lia)).symm
    |cn _ _=>simp only[bg,lC1]at a;exact(ai (by lia)).symm
    |eq _ _=>rw[bW]at f;cases f
    |lt _ _=>rw[bW]at f;cases f
   rw[E]at h
   wp_walk
   exact⟨_,O,by simpa[Builtin.Tuple.tupleCompareSizes]using h⟩
  case h=>exact⟨O,O,items.toList,items2.toList,O,H,by simp;lia⟩
theorem AZ(l b:dP)(items items2:Array dM)(n F:Nat)(G x:Option dP)(K v:Array (Option dM))(c:Bool)(k:Nat):
  ∀i:Nat,items.size-i=k->i<=items.size->i<=items2.size->Meets (Builtin.«list.__eq__.loop» ⟨[.ref l,.ref b,Ng i,Ng 0],[]⟩)
   (λA R s=>s.heap.get? l=Z {cls:=.type "list",dict:=G,data:=.seq items n,slots:=K}/\s.heap.get? b=Z {cls:=.type "list",dict:=x,data:=.seq items2 F,slots:=v} /\
    uU A s (items.toList.drop i) (items2.toList.drop i) c/\R (.ok (.ret (.bool c))) s):=by
 induction k with
 |zero=>
  intro i D B z prog w A R s h;obtain⟨C,g,d,tk,H⟩:=s;obtain⟨m,j,a,h⟩:=h
  wp_walk using wpAny_loadPart' m,wpAny_loadPart' j
  have o:items[((i:Nat):Int).toNat]?=Y:=by simp;lia
  have r:items.toList.drop i=[]:=by simp;lia
  rw[r]at a;rw[o]
  wp_walk using wpAny_loadPart' m,wpAny_loadPart' j
  have I:c=decide (items.size<items2.size):=by
   cases h2:items2.toList.drop i with
   |nil=>
    rw[h2]at a;cases a;have:=congrArg List.length h2;simp at this;exact(ai (by lia)).symm
   |cons y ys=>
    rw[h2]at a;cases a;have:=congrArg List.length h2;simp at this;exact(ah (by lia)).symm
  show R (.ok (.ret (.bool (decide (items.size<items2.size))))) _;rw[<- I];exact h
 |succ k ih=>
  intro i D B z prog w A R s h;obtain⟨C,g,d,tk,H⟩:=s;obtain⟨m,j,a,h⟩:=h;have p:i<items.size:=by lia
  have r:items.toList.drop i=items[i]::items.toList.drop (i+1):=by simp[bX,p]
  have o:items[((i:Nat):Int).toNat]?=Z items[i]:=by simp[p]
  have hc:((i:Int)+1)=((i+1:Nat):Int):=by push_cast;rfl
  rw[r]at a;rcases Nat.lt_or_ge i items2.size with f|am
  ·have u:items2.toList.drop i=items2[i]::items2.toList.drop (i+1):=by simp[bX,f]
   have q:items2[((i:Nat):Int).toNat]?=Z items2[i]:=by simp[f]
   rw[u]at a
   wp_walk using wpAny_loadPart' m,wpAny_loadPart' j
   rw[o,q];cases a with
   |eq e t=>
    refine wB1 (e prog w _ _ ?_)
    wp_walk
    rw[hc];exact⟨OD plain_eq_loop _,wD1 entry_eq_loop (by rw[OE plain_eq_loop _];exact ih (i+1) (by lia) (by lia) (by lia) prog w A R _ ⟨m,j,t,h⟩)⟩
   |lt e t=>
    refine wB1 (e prog w _ _ ?_);have E:=t prog w
    wp_walk using wpAny_loadPart' m,wpAny_loadPart' j
    rw[o,q]
    wp_walk using E
    simpa using h
  ·have q:items2[((i:Nat):Int).toNat]?=Y:=by simp;lia
   have u:items2.toList.drop i=[]:=by simp;lia
   rw[u]at a;cases a
   wp_walk using wpAny_loadPart' m,wpAny_loadPart' j
   rw[o,q]
   wp_walk using wpAny_loadPart' m,wpAny_loadPart' j
   show R (.ok (.ret (.bool (decide (items.size<items2.size))))) _;rw[ai (by lia)];exact h
theorem GS(l b:dP)(items items2:Array dM)(n i:Nat)(j e:Option dP)(f a:Array (Option dM))(c:Bool):
  Meets (Builtin.«list.__lt__» ⟨[.ref l,.ref b],[]⟩) (fun A R s=>s.heap.get? l=some {cls:=.type "list",dict:=j,data:=.seq items n,slots:=f}/\s.heap.get? b=some {cls:=.type "list",dict:=e,data:=.seq items2 i,slots:=a} /\
    uU A s items.toList items2.toList c/\R (.ok (.ret (.bool c))) s):=by
 intro prog w A R s h;obtain⟨p,g,d,tk,q⟩:=s;obtain⟨m,k,o,h⟩:=h;have r:=AutoSeq1.sub_list_list
 wp_walk using wpAny_loadPart' m,wpAny_loadPart' k
 exact⟨OD plain_eq_loop _,wD1 entry_eq_loop (by rw[OE plain_eq_loop _];exact AZ l b items items2 n i j e f a c _ 0 O (bj _) (bj _) prog w A R _ ⟨m,k,by simpa using o,h⟩)⟩
theorem Fp{A:dR}{s:dN}{k:Bool}{l b:dP}{xs ys:Array dM}{c:Bool}(B:SCo k s.heap l xs)(y:SCo k s.heap b ys)(z:A.units<Nt)(h:uU A s xs.toList ys.toList c):BZ A s (.ref l) (.ref b) c:=λprog w E Q q=>by
 cases k
 ·obtain⟨⟨v,t,o,r⟩,p,hc,n,m⟩:=id B;obtain⟨⟨j,i,g,f⟩,d,a,u,e⟩:=id y;simp only at hc m a e;subst hc m a e;exact OF (op:=.Lt) ⟨_,p,O⟩ ⟨_,d,O⟩ PySem.F.slot_tuple_lt PySem.F.entry_tuple_lt (PySem.F.args_tuple_lt_2 _ _) (E1 l b xs ys n u t i r f c) ⟨p,d,h,show ae c≠OG/\Q (.bool c) s from⟨(λx=>nomatch x),q⟩⟩ z
 ·obtain⟨⟨v,t,o,r⟩,p,hc,n,m⟩:=id B;obtain⟨⟨j,i,g,f⟩,d,a,u,e⟩:=id y;simp only at hc m a e;subst hc m a e;exact OF (op:=.Lt) ⟨_,p,O⟩ ⟨_,d,O⟩ PySem.F.slot_list_lt PySem.F.entry_list_lt (PySem.F.args_list_lt_2 _ _) (GS l b xs ys n u t i r f c) ⟨p,d,h,show ae c≠OG/\Q (.bool c) s from⟨(λx=>nomatch x),q⟩⟩ z
noncomputable def vH(f g:D->D->Option Bool):List D->List D->Option Bool
 |[],[]=>Z J
 |[],_::_=>Z M
 |_::_,[]=>Z J
 |x::xs,y::ys=>(f x y).bind λb=>if b=M then vH f g xs ys else g x y
noncomputable def J3:D->D->Option Bool
 | .int i,.int j=>Z (decide (i<j))
 | .str x,.str y=>Z (decide (x.cps.toList<y.cps.toList))
 |_,_=>Y
def k4(S:d7):Nat->D->D->Option Bool
 |0,_,_=>Y
 |n+1,d,e=>match J3 d e with
  |some b=>Z b
  |none=>match ei S d,ei S e with
   |some p,Z q=>if p.1=q.1 then vH (hH S n) (k4 S n) p.2 q.2 else Y
   |_,_=>Y
def gLt:G2:=λd e S=>(k4 S eL d e).map λb=>(.bl b,S)
section
variable{ag:List (dP×Obj)}{σ:L2.St}{H:Hp}{s:dN}{mu:List dP}{S:d7}
theorem AW(I:Inv X ag σ H s)(hs:Sim X.K H mu S){n:Nat}{A:dR}(p:A.units+1+n<Nt)(ih:∀ {d e:D} {v w:V} {u z:dM} {b:Bool},fc X.K H mu d v->fc X.K H mu e w->ew v u->ew w z->k4 S n d e=some b->BZ A.in1 s u z b):
  ∀{xs ys:List D} {vs ws:List V} {f zs:List dM} {b:Bool},ej X.K H mu xs vs->ej X.K H mu ys ws->eH vs f->eH ws zs->vH (hH S n) (k4 S n) xs ys=Z b->uU A s f zs b
 :=by
 intro xs
 induction xs with
 |nil=>
  intro ys vs ws f zs b a r2 g c h;cases a;cases g;cases r2 with
  |nil=>cases c;cases h;exact .nn
  |cons _ _=>cases c;cases h;exact .nc _ _
 |cons x xs r=>
  intro ys vs ws f zs b a r2 g c h;cases a with
  |cons a o=>
   cases g with
   |cons i q=>
    cases r2 with
    |nil=>cases c;cases h;exact .cn _ _
    |cons r2 m=>
     cases c with
     |cons j p2=>
      rw[vH]at h;obtain⟨k,l,h⟩:=Py h;have eq:=(k7 I hs n (A:=A.in1) p a r2 i j l).1;cases k with
      |true=>exact .eq eq (r o m q p2 h)
      |false=>exact .lt eq (ih a r2 i j h)
theorem rY(I:Inv X ag σ H s)(hs:Sim X.K H mu S):∀(n:Nat) {A:dR} {d e:D} {v w:V} {u z:dM} {b:Bool},A.units+n<Nt->fc X.K H mu d v->fc X.K H mu e w->ew v u->ew w z->k4 S n d e=Z b->BZ A s u z b
 |0,_,_,_,_,_,_,_,_,_,_,_,_,_,h=>by cases h
 |n + 1,A,d,e,v,w,u,z,b,W,l,r,j,i,h=>by
  rw[k4]at h;split at h
  ·rename_i k c;cases h;unfold J3 at c;split at c
   ·cases c;cases l;cases r;obtain⟨t,rfl⟩:=j;obtain⟨g,rfl⟩:=i;exact λprog w E Q q=>(PyProof.Rows.lt_int q:dX (MN prog w) A (Nl .Lt (.int _ t) (.int _ g)) Q E s)
   ·cases c;cases l;cases r;obtain⟨t,rfl⟩:=j;obtain⟨g,rfl⟩:=i;exact λprog w E Q q=>(PyProof.Rows.lt_str q:dX (MN prog w) A (Nl .Lt (.str _ t) (.str _ g)) Q E s)
   ·cases c
  ·split at h
   ·rename_i p q F L;split at h
    ·rename_i am;obtain⟨G,xs⟩:=p;obtain⟨qb,ys⟩:=q;have m:G=qb:=am;subst m;obtain⟨a,vs,rfl,K,au⟩:=er l hs F;obtain⟨a2,y,rfl,P,ao⟩:=er r hs L;cases j;cases i;obtain⟨R,U,B,_⟩:=fg I K;obtain⟨x,o,f,_⟩:=fg I P;refine Fp B f (by lia) ?_;have:=AW I hs (A:=A) (n:=n) (by lia) (λC r2 N T h=>rY I hs n (A:=A.in1) (by show A.units+1+n<Nt;lia) C r2 N T h) au ao U o h;simpa using this
    ·cases h
   ·cases h
theorem jQ(k:X.A.units+64<Nt):gI X (Nl .Lt) (r2 X.K (b2 gLt)):=by
 intro ag s σ H x y u w Q I j i h;obtain⟨mu,S,d,e,r,l,g,r2,c,a,hc⟩:=uY h;obtain⟨b,f,a⟩:=Pz a;cases a;exact rY I c eL (by show _+60<Nt;lia) g r2 j i f X.prog X.w X.xe _ ⟨.bl b,H,I,O,hc.now (.bl b) c⟩
end
inductive Ty where
 |int|bool|str|tuple|list|dict
 deriving DecidableEq
noncomputable def Ty.nm:Ty->String
 | .int=>"int" | .bool=>"bool" | .str=>"str" | .tuple=>"tuple" | .list=>"list" | .dict=>"dict"
noncomputable def vL (S:d7)(T:Ty):D->Option Bool
 | .non=>some false
 | .bl _=>some (decide (T = .bool)||decide (T = .int))
 | .int _=>some (decide (T = .int))
 | .str _=>some (decide (T = .str))
 | .tup _=>some (decide (T = .tuple))
 | .rol _=>some (decide (T = .list))
 | .ref n=>match S[n]? with
  |some (.lst _)=>some (decide (T = .list))
  |some (.dct _)=>some (decide (T = .dict))
  |some (.dcT _)=>some (decide (T = .dict))
  |_=>none
 | .fn _=>none
def nA(T:Ty)(m:FE):FE:=λr S=>(m r S).bind λp=>(vL p.2 T p.1).map λb=>(.bl b,p.2)
section
variable{ag:List (dP×Obj)}{σ:L2.St}{H:Hp}{s:dN}{mu:List dP}{S:d7}{K:Fg1}
theorem DM(T:Ty):Np K (.type "NoneType") (.type T.nm)=Z J:=by cases T<;>rfl
theorem GY(T:Ty):Np K (.type "bool") (.type T.nm)=Z (decide (T = .bool)||decide (T = .int)):=by cases T<;>rfl
theorem DO(T:Ty):Np K (.type "int") (.type T.nm)=Z (decide (T = .int)):=by cases T<;>rfl
theorem DL(T:Ty):Np K (.type "str") (.type T.nm)=Z (decide (T = .str)):=by cases T<;>rfl
theorem DH(T:Ty):Np K (.type "tuple") (.type T.nm)=Z (decide (T = .tuple)):=by cases T<;>rfl
theorem DN(T:Ty):Np K (.type "list") (.type T.nm)=Z (decide (T = .list)):=by cases T<;>rfl
theorem wX(T:Ty):Np K (.type "dict") (.type T.nm)=Z (decide (T = .dict)):=by cases T<;>rfl
theorem DS{T:Ty}{d:D}{v:V}{u:dM}{b:Bool}{Q:dM->dN->Prop}{E:dM->dN->Prop}(I:Inv X ag σ H s)(hs:Sim X.K H mu S)(r:fc X.K H mu d v)(f:ew v u)(h:vL S T d=some b)(q:∀ tk,Q (.bool b) {s with toks:=tk}):
  dX (MN X.prog X.w) X.A (call (.builtin "isinstance") [u,.type T.nm]) Q E s:=by
 have g:∀{k:Bool} {a:dP} {vs:List V},sJ X.K k H a vs->b=(match k with|true=>decide (T = .list)|false=>decide (T = .tuple))->dX (MN X.prog X.w) X.A (call (.builtin "isinstance") [.ref a,.type T.nm]) Q E s:=λ{k a vs} j w=>by
  obtain⟨B,C,p,_⟩:=fg I j;cases k
  ·obtain⟨o,e,c,_⟩:=p;subst w;exact Nq PySem.W.kitx_tuple I.kIn ⟨o,e,c⟩ (DH T) (λz=>nomatch z) q
  ·obtain⟨o,e,c,_⟩:=p;subst w;exact Nq PySem.W.kitx_list I.kIn ⟨o,e,c⟩ (DN T) (λz=>nomatch z) q
 cases d with
 |non=>cases h;cases r;exact iY I f .non (DM T) q
 |bl k=>cases h;cases r;exact iY I f (.bl k) (GY T) q
 |int i=>cases h;cases r;exact iY I f (.int i) (DO T) q
 |str x=>cases h;cases r;exact iY I f (.str x) (DL T) q
 |tup xs=>
  cases h;obtain⟨a,vs,rfl,j,t⟩:=er (S:=S) r hs O;cases f;exact g j O
 |fn x=>cases h
 |rol xs=>
  cases h;obtain⟨a,vs,rfl,j,t⟩:=er (S:=S) r hs O;cases f;exact g j O
 |ref n=>
  rw[vL]at h;split at h
  ·rename_i xs e;cases h;obtain⟨a,vs,rfl,j,t⟩:=er (S:=S) r hs (by rw[ei,e]);cases f;exact g j O
  ·rename_i ks e;cases h;cases r with
   |ref m=>
    obtain⟨ws,l,_⟩:=hs.dct e m;exact iY I f (.dK l) (wX T) q
  ·rename_i ks e;cases h;cases r with
   | @ref _ a m=>
    cases(show u=Mz a from f);obtain⟨ws,l,_⟩:=hs.dcT e m;obtain⟨⟨_,_,o,_,_,y,A,_⟩,_⟩:=(show fb X.prog X.w H s.heap a (.ext (iM a ws))from I.hok a _ l);exact Nq PySem.W.kitx_dict I.kIn ⟨o,y,A.1⟩ (wX T) (λz=>nomatch z) q
  ·cases h
theorem BI(T:Ty):fi X (.builtin "isinstance") (λxs H Q=>∃x mu S d b,xs=[x,.ty T.nm]/\fc X.K H mu d x/\Sim X.K H mu S/\vL S T d=Z b/\Q (.bl b) H):=by
 intro ag s σ H xs g Q I r h;obtain⟨x,mu,S,d,b,rfl,e,c,f,hc⟩:=h;obtain⟨u,i,rfl,a,rt⟩:=zg r;cases rt;exact DS I c e a f λtk=>⟨.bl b,H,I.tok tk,O,hc⟩
theorem ym (T:Ty){e:Expr}{m:FE}{nm:Str}{p p2 pos:Pos}(hg:Gl X "isinstance")(hm:X.mg "isinstance"=none)(hg2:Gl X nm)(hm2:X.mg nm=none)(hv2:MH nm=some (.type T.nm))(h:ME X e m)
  (hn:autoParam (nm≠"__name__") bu0) (hd:autoParam ((nm == ("__debug__":Str))=J) bu0)
  (hs1:autoParam (dV [e,.Name nm p2] X.env=(J,eval e X.env)::dV [.Name nm p2] X.env) cu0) (hs2:autoParam (dV [.Name nm p2] X.env=(J,eval (.Name nm p2) X.env)::dV [] X.env) cu0)
  (hpl:autoParam ((MP pos (dV [.Name nm p2] X.env)).any (·.1)=J) cu0):ME X (.Call (.Name "isinstance" p) [e,.Name nm p2] [] pos) (nA T m):=
 ff (tL (BI T) hg hm (by decide+kernel) (lU h (lU (C3 (v:=.ty T.nm) hg2 hm2 hv2 O hn hd) rE hs2) hs1) (by decide) (by decide) hs1 hpl) <| by
  rintro σ H Q ⟨r,mu,S,d,n,g,j,hm,hc⟩;obtain⟨⟨c,o⟩,f,hm⟩:=Py hm;obtain⟨b,l,hm⟩:=Pz hm;cases hm;refine⟨r,mu,S,c,_,g,j,f,λv H1 mu1 i k a=>?_⟩;exact⟨v,mu1,_,c,b,O,k,a,l,hc _ H1 mu1 i (.bl b) a⟩
end
abbrev FO:=Ev->d7->Option (Option Int×d7)
noncomputable def LJ(K:Fg1)(m:FO):TO:=fun σ H Q=>∃r mu S o S',fN K H mu r σ/\Sim K H mu S/\m r S=Z (o,S') /\ ∀H' mu',Ext mu mu' H H'->Sim K H' mu' S'->Q o H'
abbrev MO(X:Cx)(e:Option Expr)(m:FO):Prop:=PO X e (LJ X.K m)
def kJ:FO:=λ_ S=>Z (Y,S)
noncomputable def nh(m:FE):FO:=λr S=>(m r S).bind λp=>match p.1 with
 | .int i=>Z (Z i,p.2)
 |_=>Y
def pM(xs:List D)(lo hi:Option Int):List D:=(xs.drop (HT.sIx xs.length 0 lo)).take (HT.sIx xs.length xs.length hi-HT.sIx xs.length 0 lo)
theorem Di:MO X Y kJ:=by
 rintro ag s σ H Q I ⟨r,mu,S,o,d,c,a,b,hc⟩;cases b;exact CS ag s σ H Q I (hc H mu (.refl _ _) a)
theorem Dh{e:Expr}{m:FE}(h:ME X e m):MO X (Z e) (nh m):=by
 rintro ag s σ H Q I ⟨r,mu,S,o,l,c,g,a,hc⟩;obtain⟨⟨d,n⟩,b,a⟩:=Py a;cases d with
 |int i=>
  cases a;refine CQ h ag s σ H Q I ⟨r,mu,S,_,_,c,g,b,λv H1 mu1 f j k=>?_⟩;cases j;exact⟨i,O,hc H1 mu1 f k⟩
 |_=>cases a
theorem xr{K:Fg1}{H:Hp}{mu:List dP}{ds:List D}{vs:List V}(t:ej K H mu ds vs)(lo hi:Option Int):ej K H mu (pM ds lo hi) (uG vs lo hi):=by
 unfold pM uG;rw[<- t.length];exact(t.drop _).take _
def HX(ta:TA):TE:=fun σ H Q=>ta σ H λvs H1=>∃j:Int,vs=[.int j] /\ ∀p,H1 p=Y->Q (.ref p) (upd H1 p (.rng 0 j))
theorem pZ {a:Expr}{ta:TA}{p pos:Pos}(hg:Gl X "range")(hm:X.mg "range"=Y)(ha:PA X [a] ta)(hs:autoParam (dV [a] X.env=[(J,eval a X.env)]) cu0):PE X (.Call (.Name "range" p) [a] [] pos) (HX ta):=by
 intro ag s σ H Q I h;refine Call_ (jT I hg hm boot_range (Ni (ft (ha pos ag s σ H _ I h) λk i ⟨vs,H1,c,f,d⟩=>?_) hs O));obtain⟨j,e,q⟩:=d;subst e;cases f with
 |cons r g=>
  cases g;obtain⟨t,rfl⟩:=r;refine call_range_1 ⟨.ref i.heap.objs.size,_,c.laid (λb o e=>hP1 _ e) (nR1 _) (o:=.rng 0 j) ?_,O,q _ (c.hok.fresh (nR1 _))⟩;exact⟨_,_,_,hS1 _ O⟩
noncomputable def ku(i:Int):Nat->List V
 |0=>[]
 |n+1=>.int i::ku (i+1) n
theorem jD:∀(n:Nat) (i:Int),(ku i n).length=n
 |0,_=>rfl
 |n+1,i=>by rw[ku,lC1,jD n]
theorem ol:∀(n:Nat) (i:Int) (k:Nat) (v:V),(ku i n)[k]?=Z v->v = .int (i+k)
 |0,i,k,v,h=>by simp[ku]at h
 |n+1,i,0,v,h=>by simp[ku]at h;rw[<- h];simp
 |n+1,i,k+1,v,h=>by
  rw[ku,gC1]at h;rw[ol n (i+1) k v h,show i+1+(k:Int)=i+((k+1:Nat):Int) by push_cast;lia]
theorem oj{K:Fg1}{H:Hp}{mu:List dP}:∀(n:Nat) (i:Int),ej K H mu (gb i n) (ku i n)
 |0,_=>.nil
 |n+1,i=>.cons (.int i) (oj n (i+1))
theorem qT:∀{xs:List V} {a:List dM},xs.length=a.length->(∀(i:Nat) x u,xs[i]?=Z x->a[i]?=Z u->ew x u)->eH xs a
 |[],[],_,_=>.nil
 |x::xs,u::a,h,f=>.cons (f 0 x u O O) (qT (by simpa using h) λi y w h1 h2=>f (i+1) y w (by simpa using h1) (by simpa using h2))
 |[],_::_,h,_=>by simp at h
 |_::_,[],h,_=>by simp at h
theorem Ec(hc:X.calm=M):fi X (.type "list") (λxs H Q=>∃p i j,xs=[.ref p]/\H p=Z (.rng i j)/\(-(2^62)<=i/\i<2^62 /\ -(2^62)<=j/\j<2^62)/\(j-i).toNat<=2^20 /\ ∀l,H l=Y->Q (.ref l) (upd H l (.lst (ku i (j-i).toNat)))):=by
 intro ag s σ H xs F Q I r h;obtain⟨p,i,j,rfl,m,⟨h1,h2,z,C⟩,f,q⟩:=h;obtain⟨u,rfl,g⟩:=iN r;cases g;obtain⟨t,u,v,e⟩:=I.hok p _ m;have E:(((j-i).toNat:Nat):Int)=Nh i j 1:=by rw[rangeSize_one];split<;>lia
 refine call_list_range (n:=(j-i).toNat) (I.ok.hd hc) e (small_one h1 h2 z C) E.symm (aC f (by decide)) λh' tk b o w D hi=>?_;obtain⟨d,c⟩:=hi;have a:eH (ku i (j-i).toNat) b.toList:=qT (by rw[jD];simpa using d.symm) λk x u B A=>by
  rw[ol _ _ _ _ B];obtain⟨y,rfl⟩:=c k u (by simpa using A);exact⟨y,by rw[Int.mul_one]⟩
 refine⟨.ref s.heap.objs.size,_,I.laid (t':=tk) w (nR1 _) (show fb X.prog X.w _ h' _ (.lst (ku i (j-i).toNat))from⟨?_,b.toList,o,a,by simpa using D⟩),O,q _ (I.hok.fresh (nR1 _))⟩;rw[jD];exact aC f (by decide)
noncomputable def m6(i j:Int):Bool:=decide (-(2^62)<=i)&&decide (i<2^62)&&decide (-(2^62)<=j)&&decide (j<2^62)&&decide ((j-i).toNat<=2^20)
def AN(m:FA):FE:=λr S=>(m r S).bind λp=>match p.1 with
 |[.int j]=>if m6 0 j=M then Z (.ref p.2.length,p.2++[.lst (gb 0 j.toNat)])else Y
 |_=>Y
theorem lP{i j:Int}(h:m6 i j=M):(-(2^62)<=i/\i<2^62 /\ -(2^62)<=j/\j<2^62)/\(j-i).toNat<=2^20:=by
 unfold m6 at h;simp only[bA1,al]at h;obtain⟨⟨⟨⟨h1,h2⟩,a⟩,b⟩,c⟩:=h;exact⟨⟨h1,h2,a,b⟩,c⟩
theorem GT{K:Fg1}{mu:List dP}{H H1:Hp}{S1:d7}{i j:Int}{Q:VK}{mu1:List dP}(c:Ext mu mu1 H H1)(a:Sim K H1 mu1 S1)(hc:sL K mu H (.ref S1.length) (S1++[.lst (gb i (j-i).toNat)]) Q){p l:dP}(hp:H1 p=none)(b:upd H1 p (.rng i j) l=none):
  Q (.ref l) (upd (upd H1 p (.rng i j)) l (.lst (ku i (j-i).toNat))):=
 hc _ _ (mu1++[l]) ((c.trans (Ext.fresh hp)).trans (Ext.new_ b)) (.ref (gz a.len l)) ((a.fresh hp).newL (oj _ _) b)
theorem yk {a:Expr}{m:FA}{f p2 b c:Pos}(hc:X.calm=true)(hg:Gl X "range")(hm:X.mg "range"=none)(hg2:Gl X "list")(hm2:X.mg "list"=none)(ha:MA X [a] m)(hs:autoParam (dV [a] X.env=[(false,eval a X.env)]) cu0)
  (hs2:autoParam (dV [.Call (.Name "range" f) [a] [] b] X.env=[(J,eval (.Call (.Name "range" f) [a] [] b) X.env)]) cu0):ME X (.Call (.Name "list" p2) [.Call (.Name "range" f) [a] [] b] [] c) (AN m):=
 ff (mJ (Ec hc) hg2 hm2 (by decide+kernel) (lU (pZ hg hm ha hs) rE hs2) (by decide) (by decide) hs2) <| by
  rintro σ H Q ⟨r,mu,S,d,u,k,hs,hm,e⟩;obtain⟨⟨ds,w⟩,i,hm⟩:=Py hm;dsimp only at hm;split at hm
  ·rename_i j;split at hm
   ·rename_i g;cases hm;refine⟨r,mu,S,_,_,k,hs,i,λvs H1 mu1 n o q=>?_⟩;obtain⟨v,rfl,t⟩:=lS o;cases t;refine⟨j,O,λp h=>⟨p,0,j,O,eJ,(lP g).1,(lP g).2,λl s=>GT n q (by rw[Int.sub_zero];exact e) h s⟩⟩
   ·cases hm
  ·cases hm
noncomputable def iC:G2:=λo v S=>match o with
 | .ref n=>match S[n]? with
  |some (.lst xs)=>if xs.length<dW then Z (.non,S.set n (.lst (xs++[v])))else Y
  |_=>Y
 |_=>Y
def vQ:G2:=λo i S=>match o,i with
 | .ref n,.int k=>match S[n]? with
  |some (.lst xs)=>if-(2^63)<=k/\k<2^63 then(vK xs.length k).bind λj=>(xs[j]?).map λy=>(y,S.set n (.lst (xs.eraseIdx j)))else Y
  |_=>Y
 |_,_=>Y
noncomputable def nz (f:FN)(o:FE)(a:FA):FE:=λr S=>(o r S).bind λp=>match p.1 with
 | .ref n=>match p.2[n]? with
  |some (.lst _)=>(a r p.2).bind λq=>f (p.1::q.1) q.2
  |_=>none
 |_=>none
theorem HV:HI X "list.append" (λx xs H Q=>rN X.K (b2 iC) (x::xs) H Q):=by
 intro ag s σ H x xs v i Q I l k h;obtain⟨r,y,mu,S,d,e,p,q,j,g,r2,f,a,hc⟩:=zN h;cases j;cases d with
 |ref n=>
  rw[iC]at a;split at a
  ·rename_i ys o;split at a
   ·rename_i m;cases a;cases g with
    |ref b=>
     obtain⟨vs,c,t⟩:=f.lst o b;refine p7 ag s σ H _ [y] v i Q I l k ⟨_,vs,y,O,O,c,by rw[<- t.length];exact m,?_⟩;exact hc _ _ mu (Ext.put c trivial (gM1 b)) .non (f.putL (t.append (.cons r2 .nil)) b c)
   ·cases a
  ·cases a
 |_=>cases a
theorem zq:HI X "list.pop" (λx xs H Q=>rN X.K (b2 vQ) (x::xs) H Q):=by
 intro ag s σ H x xs v o Q I r q h;obtain⟨F,y,mu,S,d,e,D,E,p,m,r2,g,a,hc⟩:=zN h;cases p;unfold vQ at a;split at a
 ·rename_i n k;split at a
  ·rename_i ys C;split at a
   ·rename_i i;obtain⟨j,A,a⟩:=Py a;obtain⟨z,B,a⟩:=Pz a;cases a;cases m with
    |ref b=>
     cases r2;obtain⟨vs,c,t⟩:=g.lst C b;obtain⟨w,l,f⟩:=t.get B;refine Ay ag s σ H _ [.int k] v o Q I r q ⟨_,vs,k,j,w,O,O,c,i.1,i.2,?_,l,?_⟩
     ·rw[<- t.length];exact(r9 A).1
     ·have x:=Ext.put (u:=.lst (vs.eraseIdx j)) c trivial (gM1 b);exact hc _ _ mu x (f.ext x) (g.putL (t.eraseIdx j) b c)
   ·cases a
  ·cases a
 ·cases a
theorem AG {o e:Expr}{es:List Expr}{m:FE}{a:FA}{f:FN}{name:Str}{apos cpos:Pos}{id:String}(slot:Slot "list" name id)(hty:typeOf (.builtin id)=pure (.type "method_descriptor"))(hm:HI X id (fun x xs H Q=>rN X.K f (x::xs) H Q))(ho:ME X o m)(ha:MA X (e::es) a)
  (hbase:autoParam (NW o name X.env (eval o X.env)=eval o X.env) cu0)
  (hfew:autoParam (((MP cpos (dV (e::es) X.env)).all (λx=> !x.1)&&(backToKw cpos (NX [] X.env)).all (λx=>x.1.isSome)&&decide ((e::es).length+([]:List Nw).length+(if([]:List Nw).isEmpty then 0 else 1)<30))=M) cu0)
  (hline:autoParam ((apos.endLine == cpos.line)=M) cu0) (hs:autoParam (dV (e::es) X.env=(J,eval e X.env)::dV es X.env) cu0) (hplain:autoParam ((MP cpos (dV es X.env)).any (·.1)=J) cu0):
  ME X (.Call (.Attribute o name apos) (e::es) [] cpos) (nz f m a):=
 ff (Iz PySem.F.plainAttrs_list slot hty hm ho ha hbase hfew hline hs hplain) <| by
  rintro σ H Q ⟨r,mu,S,d,w,l,hs,hm,hc⟩;obtain⟨⟨h,k⟩,s,hm⟩:=Py hm;refine⟨r,mu,S,h,k,l,hs,s,λv H1 mu1 p j q=>?_⟩;cases h with
  |ref n=>
   dsimp only at hm;split at hm
   ·rename_i xs D;obtain⟨⟨ds,i⟩,y,hm⟩:=Py hm;refine⟨?_,r,mu1,k,ds,i,l.ext p,q,y,λvs H2 c g r2 z=>?_⟩
    ·cases j with
     |ref u=>
      obtain⟨vs,B,t⟩:=q.lst D u;exact .inl ⟨O,vs,nE.of B⟩
    ·exact⟨c,i,.ref n::ds,d,w,.cons (j.ext g) r2,z,hm,λA C b E=>hc A C b ((p.trans g).trans E)⟩
   ·cases hm
  |_=>cases hm
theorem wC{X:Cx}(hc:X.calm=true){elt tg iter:Expr}{ifs:List Expr}{rest:List Comprehension}{scope:d4}{pos k au:Pos}{y:Str}{i:Nat}{T:List Str}{keep:List Nat}{u:List (Str×dP)}{wi:TI}{g:TG}{ti:TT}{tb:dP->TS}{emit:dM->Env->Sem Unit}(W:MX (.ListComp elt (⟨tg,iter,ifs,0⟩::rest) scope pos) (some (.Name y au)) k.line X.env=pure true)(eq:∀it t j,Oc (.ListComp elt (⟨tg,iter,ifs,0⟩::rest) scope pos) 0 it t j=ln iter.pos tg ifs it j (emit t j) (.compLoop (.ListComp elt (⟨tg,iter,ifs,0⟩::rest) scope pos) 0 it t j))(C:HN X scope T keep)(G:jU X.env.cells scope.names []=some u)(hi:PI X tg iter wi)(hb:∀s H fp p,PG (cxC X scope u T keep s H fp) tg g/\py (cxC X scope u T keep s H fp) ifs ti/\PU (cxC X scope u T keep s H fp) (emit (.ref p) (cxC X scope u T keep s H fp).env) (tb p))(hN:X.N.Nodup)(hy:X.N[i]?=some y)(hx:uV X.env.scope y)(hf:X.fn y=true\/X.env.scope.names.lookup y=some .local)(hs:autoParam (∀x,Nj iter X.env x=pure x) du0):
  PS X (.Assign [.Name y au] (.ListComp elt (⟨tg,iter,ifs,0⟩::rest) scope pos) k) (zx (zw T.length keep wi g ti tb) (xb i)):=by
 intro ag s σ H D I h;rw[exec_Assign_Name_used _ _ _ _ W];refine wB1 (M6 (wB1 ?_));show dX _ X.A (do let _<-comprehension (.ListComp elt (⟨tg,iter,ifs,0⟩::rest) scope pos) scope X.env _ (newList []) J (eval iter X.env) (Z (MY (.Name y au) X.env))) _ _ s;refine wB1 (MQ (wpAny_comprehension_free (use:=Z (MY (.Name y au) X.env)) (Q:=λ_ s'=>SP X ag D .next s') O hs (BD G) C.kind C.names ?_) (λ_ s' hq=>wP1 (wP1 hq)) λ_ _ e=>e);refine ft (hi ag s σ H _ I h) λv s1 h1=>ft h1 λitv a h2=>?_;obtain⟨it,fp,tn,am,H2,rfl,I2,TT,L,f2,q2⟩:=h2;refine wO1 ?_;have n:Inv X ag σ (upd H2 a.heap.objs.size (.lst [])) {a with heap:=a.heap.push {cls:=.type "list",data:=.seq ([]:List dM).toArray}}:=I2.lnew (t':=a.toks) .nil (bj _);have old:∀b∈fp,∃o,a.heap.get? b=Z o:=λb hb=>by
  obtain⟨o,e,_⟩:=TT.obj 0 a.heap L b hb;exact⟨o,e⟩
 have R:∀b∈fp,b≠a.heap.objs.size:=λb hb z=>by
  obtain⟨o,e⟩:=old b hb;have:=hL1 e;rw[z]at this;exact az _ this
 have P:∀b∈fp,kE X ag (upd H2 a.heap.objs.size (.lst [])) b:=λb hb=>⟨by rw[eE (R b hb)];exact(f2 b hb).1,(f2 b hb).2⟩;have o3:∀b∈fp,∃o,({a with heap:=a.heap.push {cls:=.type "list",data:=.seq ([]:List dM).toArray}}:dN).heap.get? b=Z o:=λb hb=>by
  obtain⟨o,e⟩:=old b hb;exact⟨o,hP1 _ e⟩
 have N:=uj n C G P o3;obtain⟨hg,aq,he⟩:=hb {a with heap:=a.heap.push {cls:=.type "list",data:=.seq ([]:List dM).toArray}} (upd H2 a.heap.objs.size (.lst [])) fp a.heap.objs.size;refine kK ?_;have f4:∀b∈fp,kE (cxC X scope u T keep {a with heap:=a.heap.push {cls:=.type "list",data:=.seq ([]:List dM).toArray}} (upd H2 a.heap.objs.size (.lst [])) fp) [] (upd H2 a.heap.objs.size (.lst [])) b:=λb hb=>
  ⟨(P b hb).1,(N.ok.exf b hb).1,N.ok.exfs b hb,.inl hb,(N.ok.exf b hb).2,λp F=>absurd (show p∈([]:List (dP×Obj))from F) (by simp)⟩
 have E:tn 0 (pushCells ((a.heap.push {cls:=.type "list",data:=.seq ([]:List dM).toArray}).push {cls:=.type "dict",data:=.dict #[]}) scope.names):=
  TT.keep 0 a.heap _ L λb hb o e=>Oa scope.names _ b o (hP1 _ (hP1 _ e))
 have l:=mX (X:=cxC X scope u T keep {a with heap:=a.heap.push {cls:=.type "list",data:=.seq ([]:List dM).toArray}} (upd H2 a.heap.objs.size (.lst [])) fp) O hc (eq (.ref it) (.ref a.heap.objs.size) _) TT hg aq he N E f4
  (q2 a.heap.objs.size (I2.hok.fresh (nR1 _)))
 refine Nv (codeAny_compStart_list l (TT.self X.A 0 _ _ _ E l)) λr s' hr=>?_;cases r with
 |error e=>exact hr.elim
 |ok f=>
  obtain⟨σ',H',A,q'⟩:=hr;have J1:Inv X ag σ H' s':=n.call' (s':=s') (ch:=fp) A.os A.base A.hok A.bare λb hb=>(P b hb).2.2.2 |> λz=>⟨z.1,(P b hb).2.1,z.2.1,z.2.2⟩
  -- the block's own dict is kept aside
  obtain⟨m,hn,_⟩:=id A.loc;obtain⟨ao,es,ep,eC,dC,rC⟩:=id hn;have hCz:(a.heap.push {cls:=.type "list",data:=.seq ([]:List dM).toArray}).get? (a.heap.push {cls:=.type "list",data:=.seq ([]:List dM).toArray}).objs.size=Y:=MK (nR1 _);have K:(a.heap.push {cls:=.type "list",data:=.seq ([]:List dM).toArray}).objs.size≠X.env.locals:=λz=>by
   have:=n.lt;rw[<- z]at this;exact az _ this
  have U:H' (a.heap.push {cls:=.type "list",data:=.seq ([]:List dM).toArray}).objs.size=Y:=A.free;have J2:Inv X (ag++[((a.heap.push {cls:=.type "list",data:=.seq ([]:List dM).toArray}).objs.size,ao)]) σ H' s':=J1.pins_of λp F=>by
   rcases aG.mp F with z|z
   ·exact J1.pin p (mA1 _ z)
   ·have z':p=((a.heap.push {cls:=.type "list",data:=.seq ([]:List dM).toArray}).objs.size,ao):=by simpa using z
    subst z';exact⟨eC,U,K,n.nofs (nR1 _),λv q=>by rw[dC]at q;cases q⟩
  refine ft (wE hN hy hx hf _ s' σ H' (.ref a.heap.objs.size) (.ref a.heap.objs.size) D.nx J2 O q') λ_ s5 ⟨B,H5,wq,q5⟩=>?_;obtain⟨e5,n5,_⟩:=wq.pin ((a.heap.push {cls:=.type "list",data:=.seq ([]:List dM).toArray}).objs.size,ao) (mA1 _ (mA1 _ mS1));refine⟨m,⟨ao,es,ep,e5,dC,rC⟩,λh' S=>?_⟩;have J6:Inv X ag B H5 s5:=wq.unpinned;refine⟨B,H5,J6.turned (t':=s5.toks) (λb o hb e=>(S.2 b hb).trans e) n5 K (.inr ?_) (λx c w z=>?_) (λp F z=>?_),q5⟩
  ·exact n.sz
  ·obtain⟨w',zc⟩:=n.cell x c w;have d:=zc.lt;rw[z]at d;exact az _ d
  ·obtain⟨V,_⟩:=n.pin p F;have d:=hL1 V;rw[z]at d;exact az _ d
theorem BP{K:Fg1}{te:TE}{m:FE}{i:Nat}(hm:∀ σ H Q,tM K m σ H Q->te σ H Q){E:jr}{σ:L2.St}{H:Hp}(h:wv K (eG m (gN i)) E σ H):zx te (xb i) E σ H:=by
 obtain⟨r,mu,S,d,k,h1,h2,j,n⟩:=rV h;refine hm _ _ _ ⟨r,mu,S,d,k,h1,h2,j,λv H' mu' f g o=>?_⟩;obtain⟨r2,a,q,t,s,u,b,l,p,c,e⟩:=n v H' mu' f g o;cases c;exact e _ H' a (.refl _ _) (b.set p) l
theorem mv (i:Nat){x:Str}{pos:Pos}(hN:autoParam (X.N[i]? = some x) cu0)(hv:autoParam (Vis X.env.scope x) au0)(hd:autoParam ((x == ("__debug__":Str))=false) bu0)(hcd:autoParam ((x == ("__classdict__":Str))=false) bu0):
  ME X (.Name x pos) (mV i):=GE i hN hv hd hcd
def Own(P:dQ)(w:dS)(K:Fg1)(mg:Str->Option dM)(base:dZ)(k:Nat)(x:Str)(n:Nat)(m:FN):Prop:=
 ∃(f:dP) (fd:d2) (ps:List Str),mY P w K mg base uW k f fd ps (spM K n m)/\j9 K fd ps []/\wK1 K (.ref f)=M/\mg x=Z (.ref f)
theorem GG {X:Cx}{k k' n:Nat}{x:Str}{m:FN}{p pos:Pos}{e:Expr}{es:List Expr}{a:FA}(h:Own X.prog X.w X.K X.mg X.base k x n m)(hr:gl k' X.A)(hk:k<=k')(hg:Gl X x)(ha:MA X (e::es) a)(hdb:autoParam ((x == ("__debug__":Str))=false) bu0)
  (he:autoParam (dV (e::es) X.env=(J,eval e X.env)::dV es X.env) cu0) (hpl:autoParam ((MP pos (dV es X.env)).any (·.1)=J) cu0):ME X (.Call (.Name x p) (e::es) [] pos) (mN (ea n m) a):=by
 obtain⟨f,fd,ps,F,b,c,d⟩:=h;exact Dq F (hr.mono hk) hg d c b ha hdb he hpl
theorem Gb{P:dQ}{w:dS}{K:Fg1}{mg:Str->Option dM}{base:dZ}{x a:Str}{st:d3}{f:dP}{fd:d2}{N ps:List Str}{k n:Nat}{b:FS}(F:xI K x a st f fd)(hb:j9 K fd ps [])(hm:mg x=some (.ref f))(S:gR N ps (eD st))(hn:ps.length=n)(c:∀(e:dM) (A:dR) (d:List Env) (s:dN) (H:Hp) (E:XK),gl k (A.deeper (Ny a (eD st) s.heap.objs.size f e)) ->
   yN (nC uW P w K mg base N a (eD st) f e A d s H E).nox (fK st) b):Own P w K mg base (k+1) x n (iz N.length b):=by
 subst hn;exact⟨f,fd,ps,Jp F S c,hb,F.kp,hm⟩
noncomputable def ge:List Bool->Ev->Ev
 |true::bs,o::r=>o::ge bs r
 |false::bs,_::r=>Y::ge bs r
 |[],_::r=>Y::ge [] r
 |_,[]=>[]
def lD:Ev->Bool
 |[]=>M
 |none::r=>lD r
 |some d::r=>d.und 0&&lD r
noncomputable def p8 (ki ko:List Bool)(b:FS):FS:=fun r S=>if lD (ge ki r)=true then
  (b (ge ki r) []).bind λp=>match p.1 with
   | .rt d=>if d.und 0=true then some (.rt d,[],S)else none
   |f=>if lD (ge ko p.2.1)=true then some (f,ge ko p.2.1,S)else none
 else none
theorem kl:∀(bs:List Bool) (r:Ev),(ge bs r).length=r.length
 |true::bs,o::r=>congrArg (· + 1) (kl bs r)
 |false::bs,o::r=>congrArg (· + 1) (kl bs r)
 |[],o::r=>congrArg (· + 1) (kl [] r)
 |[],[]=>rfl
 |true::_,[]=>rfl
 |false::_,[]=>rfl
theorem km:∀(bs:List Bool) (r:Ev) (i:Nat) (d:D),(ge bs r)[i]?=Z (Z d)->r[i]?=Z (Z d)
 |true::bs,o::r,0,d,h=>h
 |true::bs,o::r,i+1,d,h=>by
  rw[gC1];exact km bs r i d (by rw[ge,gC1]at h;exact h)
 |false::bs,o::r,0,d,h=>by simp[ge]at h
 |false::bs,o::r,i+1,d,h=>by
  rw[gC1];exact km bs r i d (by rw[ge,gC1]at h;exact h)
 |[],o::r,0,d,h=>by simp[ge]at h
 |[],o::r,i+1,d,h=>by
  rw[gC1];exact km [] r i d (by rw[ge,gC1]at h;exact h)
 |[],[],i,d,h=>by simp[ge]at h
 |true::_,[],i,d,h=>by simp[ge]at h
 |false::_,[],i,d,h=>by simp[ge]at h
theorem mH:∀(r:Ev) (i:Nat) (d:D),lD r=M->r[i]?=Z (Z d)->d.und 0=M
 |none::r,0,d,_,h=>by simp at h
 |none::r,i+1,d,hs,h=>mH r i d hs (by simpa using h)
 |some e::r,0,d,hs,h=>by
  rw[lD,bA1]at hs;simp at h;subst h;exact hs.1
 |some e::r,i+1,d,hs,h=>by
  rw[lD,bA1]at hs;exact mH r i d hs.2 (by simpa using h)
theorem fN.mask{K:Fg1}{H:Hp}{mu mu':List dP}{r:Ev}{σ:L2.St}{bs:List Bool}(h:fN K H mu r σ)(hs:lD (ge bs r)=M):fN K H mu' (ge bs r) σ:=
 ⟨by rw[kl];exact h.len,λi d e=>by
  obtain⟨v,b,a⟩:=h.val i d (km bs r i d e);exact⟨v,b,a.cut (n:=0) (λk c=>absurd c (bA _)) (mH _ i d hs e)⟩⟩
theorem AL{K:Fg1}{m w:List Bool}{b:FS}{E:jr}{σ:L2.St}{H:Hp}(h:wv K (p8 m w b) E σ H):wv K b E σ H:=by
 obtain⟨r,mu,S,f,B,C,t,j,c,hc⟩:=h;unfold p8 at c;split at c
 ·rename_i p;obtain⟨⟨l,y,A⟩,q,c⟩:=Py c;refine⟨ge m r,[],[],l,y,A,t.mask p,.nil,q,?_⟩;have back:∀{H':Hp} {mu':List dP},Ext [] mu' H H'->Ext mu mu H H':=λ{H' mu'} x=>⟨bo,λa o e _=>x.old a o e (by simp),x.tup,x.frz,λ_ z=>.inl z⟩;have keep:∀{H':Hp} {mu':List dP},Ext [] mu' H H'->Sim K H' mu S:=λ{H' mu'} x=>⟨j.len,j.nd,λn o a h1 h2=>(j.ob n o a h1 h2).keep (back x) λo e=>x.old a o e (by simp)⟩;cases l with
  |rt d=>
   dsimp only at c;split at c
   ·rename_i i;cases c;exact λv H' mu' x r s=>hc v H' mu (back x) (r.cut (n:=0) (λk u=>absurd u (bA _)) i) (keep x)
   ·cases c
  |nx=>
   dsimp only at c;split at c
   ·rename_i i;cases c;exact λg H' mu' x r s=>hc g H' mu (back x) (r.mask i) (keep x)
   ·cases c
  |bk=>
   dsimp only at c;split at c
   ·rename_i i;cases c;exact λg H' mu' x r s=>hc g H' mu (back x) (r.mask i) (keep x)
   ·cases c
  |ct=>
   dsimp only at c;split at c
   ·rename_i i;cases c;exact λg H' mu' x r s=>hc g H' mu (back x) (r.mask i) (keep x)
   ·cases c
 ·cases c
theorem AA{X:Cx}{sts:List d3}{b:FS}(c a:List Bool)(h:yN X sts b):yN X sts (p8 c a b):=rA h λ_ _ _=>AL
section
variable{K:Fg1}
end
theorem kh{K:Fg1}{H:Hp}{mu:List dP}:∀ns:List Int,ej K H mu (ns.map D.int) (ns.map V.int)
 |[]=>.nil
 |n::ns=>.cons (.int n) (kh ns)
theorem GU{K:Fg1}{m:FN}(hm:∀ ns:List Int,ns.length<=63 -> ∃ S,m [.rol (ns.map D.int)] []=some (.bl true,S))(H:Hp)(a:dP)(ns:List Int)(c:ns.length<=63)(f:Ek H)(d:nE K H a (ns.map V.int)):
  spM K 1 m [.ref a] H (λv _=>v = .bl M) λ_ _ _=>False:=by
 refine⟨O,?_⟩;obtain⟨S,e⟩:=hm ns c;have b:RoL K H a (ns.map V.int):=by
  rcases d with h|h
  ·rcases h with h|h
   ·rcases f a with z|⟨o,xs,z⟩
    ·rw[h]at z;cases z
    ·rw[h]at z;cases z
   ·exact .inl h
  ·exact .inr h
 refine⟨[],[],[.rol (ns.map D.int)],.bl M,S,.cons (.rol b (kh ns)) .nil,.nil,e,λv H' mu' x r s=>?_⟩;cases r;rfl
theorem walk_m{l:PySem.W.OpenLaw}{q:dQ}{b:List Str}{XP:(Str->Option dM)->dZ->Prop}{g:dS->dZ->Prop}{d:DefRec}{K:Params->Fg1}{m:FN}{k:Nat}{x:Str}(hn:l.most=some 63)(c:d.params.defaults=[])(hr:gl k callerA)(i:∀(w:dS) (h:dZ),g w h->(K w.params).In h)(hm:∀ns:List Int,ns.length<=63 -> ∃S,m [.rol (ns.map D.int)] []=some (.bl true,S))(F:∀(w:dS) (mg:Str->Option dM) (e:dP) (h:dZ),(K w.params).In h->h.Ns dU mg->mg d.name=some (.ref e) ->
   ∃fd:d2,(∀(s:dN) (u:dM),BindsTo s fd ⟨[u],[]⟩ [(x,u)]) /\ ∀base:dZ,(K w.params).In base->base.Ns dU mg->mY l.prog w (K w.params) mg base uW k e fd [x] (spM (K w.params) 1 m)):
  PySem.W.WalkO q b XP g l.row.toRowW d [] (λf vs=>PySem.call f vs):=
 L2.Ch (n:=63) (k:=k) (x:=x) (CX:=λ_=>uW) (sp:=λw=>spM (K w.params) 1 m) hn (by decide) c hr i F (λ_ H a ns p j o=>GU hm H a ns p j o) λ_ _ _ _ _ z=>z
structure XE (X:Cx)(e:Expr)(m:FE):Prop where
 h:ME X e m
structure XT (X:Cx)(e:Expr)(m:FT):Prop where
 h:MT X e m
structure XW (X:Cx)(e:Expr)(m:FT):Prop where
 h:MW X e m
structure XA (X:Cx)(e:List Expr)(m:FA):Prop where
 h:MA X e m
structure XS (X:Cx)(e:d3)(m:FS):Prop where
 h:MS X e m
structure v6 (X:Cx)(e:List d3)(m:FS):Prop where
 h:yN X e m
structure XI (X:Cx)(tg e:Expr)(m:FI):Prop where
 h:MI X tg e m
structure XG (X:Cx)(e:Expr)(m:FG):Prop where
 h:MG X e m
structure Ke (X:Cx)(e:List Expr)(m:B0):Prop where
 h:JN X e m
structure XO (X:Cx)(e:Option Expr)(m:FO):Prop where
 h:MO X e m
structure XF (X:Cx)(K:Fg1)(ifs:List Expr)(t:FT):Prop where
 h:py X ifs (zu K t)
theorem eI{X:Cx}:XF X X.K [] fu:=⟨Dl⟩
theorem jt{X:Cx}{c:Expr}{t:FT}(h:XT X c t):XF X X.K [c] t:=⟨Dk h.h⟩
theorem xM{X:Cx}{sts:List d3}{b:FS}(c a:List Bool)(h:v6 X sts b):v6 X sts (p8 c a b):=⟨AA c a h.h⟩
section
variable{pos:Pos}
theorem qK{i:Int}{j}:XE X (.Constant (.int i) j pos) (mC (.int i)):=⟨GL⟩
theorem ju{b:Bool}{j}:XE X (.Constant (.bool b) j pos) (mC (.bl b)):=⟨IU⟩
theorem nG{j}:XE X (.Constant .none j pos) (mC .non):=⟨GJ⟩
end
section
variable{pos:Pos}{e:Expr}{es:List Expr}{m:FE}{n:FA}
theorem qN:XA X [] d6:=⟨GQ⟩
theorem qA(h:XE X e m)(ht:XA X es n)(hs:autoParam (dV (e::es) X.env=(J,eval e X.env)::dV es X.env) cu0):XA X (e::es) (d5 m n):=⟨Dr (h:=h.h) (ht:=ht.h) (hs:=hs)⟩
end
section
variable{K:Fg1}{f:FN}{a b:FE}{σ:L2.St}{H:Hp}{Q:VK}
theorem qI{op:M0}{x y:Expr}{pos:Pos}(ho:gI X (Nk op) (r2 X.K f))(hx:XE X x a)(hy:XE X y b):XE X (.BinOp x op y pos) (m2 f a b):=⟨IR (ho:=ho) (hx:=hx.h) (hy:=hy.h)⟩
theorem yY{op:UnaryOp}{x:Expr}{pos:Pos}(ho:HM X (unaryOp op) (λx H Q=>rN X.K f [x] H Q))(hx:XE X x a):XE X (.UnaryOp op x pos) (m1 f a):=⟨IQ (ho:=ho) (hx:=hx.h)⟩
theorem Ce{op:Nm}{x y:Expr}{pos:Pos}(ho:gI X (Nl op) (r2 X.K f))(hx:XE X x a)(hy:XE X y b)(hm:Nn op y=J):XE X (.Compare x [op] [y] pos) (m2 f a b):=⟨GM (ho:=ho) (hx:=hx.h) (hy:=hy.h) (hm:=hm)⟩
theorem qJ{x y:Expr}{pos:Pos}(ho:EQ X (r2 X.K f))(hx:XE X x a)(hy:XE X y b)(hs:nU y):XE X (.Subscript x y pos) (m2 f a b):=⟨IS (ho:=ho) (hx:=hx.h) (hy:=hy.h) (hs:=hs)⟩
theorem qD {x:Str}{p pos:Pos}{e:Expr}{es:List Expr}{id:String}{a:FA}(hc:fi X (.builtin id) (rN X.K f))(hg:Gl X x)(hm:X.mg x=Y)(hv:MH x=Z (.builtin id))(ha:XA X (e::es) a)(hn:autoParam (x≠"__name__") bu0)(hdb:autoParam ((x == ("__debug__":Str))=J) bu0)(he:autoParam (dV (e::es) X.env=(J,eval e X.env)::dV es X.env) cu0)(hpl:autoParam ((MP pos (dV es X.env)).any (·.1)=J) cu0):XE X (.Call (.Name x p) (e::es) [] pos) (mN f a):=⟨AK (hc:=hc) (hg:=hg) (hm:=hm) (hv:=hv) (ha:=ha.h) (hn:=hn) (hdb:=hdb) (he:=he) (hpl:=hpl)⟩
theorem qE {x:Str}{p pos:Pos}{e:Expr}{es:List Expr}{T:String}{a:FA}(hc:fi X (.type T) (rN X.K f))(hg:Gl X x)(hm:X.mg x=Y)(hv:MH x=Z (.type T))(ha:XA X (e::es) a)(hn:autoParam (x≠"__name__") bu0)(hdb:autoParam ((x == ("__debug__":Str))=J) bu0)(he:autoParam (dV (e::es) X.env=(J,eval e X.env)::dV es X.env) cu0)(hpl:autoParam ((MP pos (dV es X.env)).any (·.1)=J) cu0):XE X (.Call (.Name x p) (e::es) [] pos) (mN f a):=⟨yn (hc:=hc) (hg:=hg) (hm:=hm) (hv:=hv) (ha:=ha.h) (hn:=hn) (hdb:=hdb) (he:=he) (hpl:=hpl)⟩
end
section
variable{x y c:Expr}{rest:List Expr}{pos:Pos}{a b:FT}{f g:FE}
theorem qX{op:Nm}{f:FN}{a b:FE}(ho:gI X (Nl op) (r2 X.K f))(hx:XE X x a)(hy:XE X y b)(hm:Nn op y=J):XT X (.Compare x [op] [y] pos) (mB (m2 f a b)):=⟨Gq (ho:=ho) (hx:=hx.h) (hy:=hy.h) (hm:=hm)⟩
theorem sO(ha:XT X x a):XW X (.BoolOp .And [x] pos) a:=⟨Dd (ha:=ha.h)⟩
theorem qL(ha:XT X x a):XW X (.BoolOp .Or [x] pos) a:=⟨Gn (ha:=ha.h)⟩
theorem qM(ha:XT X x a)(hb:XW X (.BoolOp .And (y::rest) pos) b):XW X (.BoolOp .And (x::y::rest) pos) (rW a b):=⟨Go (ha:=ha.h) (hb:=hb.h)⟩
theorem u7(ha:XT X x a)(hb:XW X (.BoolOp .Or (y::rest) pos) b):XW X (.BoolOp .Or (x::y::rest) pos) (mOr a b):=⟨IM (ha:=ha.h) (hb:=hb.h)⟩
theorem sP(h:XW X x a):XT X x a:=⟨KL (h:=h.h)⟩
theorem nF(ha:XT X x a):XT X (.UnaryOp .Not x pos) (rT a):=⟨Gp (ha:=ha.h)⟩
theorem kb{op}(h:XE X x f):XE X (.BoolOp op [x] pos) f:=⟨GH (h:=h.h)⟩
theorem i4(ha:XE X x f)(hb:XE X (.BoolOp .And (y::rest) pos) g):XE X (.BoolOp .And (x::y::rest) pos) (kM f g):=⟨GO (ha:=ha.h) (hb:=hb.h)⟩
theorem wl(ha:XE X x f):XE X (.UnaryOp .Not x pos) (t8 f):=⟨GI (ha:=ha.h)⟩
theorem za(hc:XT X c a)(hx:XE X x f)(hy:XE X y g):XE X (.IfExp c x y pos) (IW a f g):=⟨IT (hc:=hc.h) (hx:=hx.h) (hy:=hy.h)⟩
end
section
variable{x y z:Expr}{pos:Pos}{f g:FN}{a b c:FE}{op op':Nm}
theorem xO(ho:gI X (Nl op) (r2 X.K f))(ho':gI X (Nl op') (r2 X.K g))(hx:XE X x a)(hy:XE X y b)(hz:XE X z c)(hm:autoParam (lastMarks [op,op'] [y,z]=J) Aj._auto_1):XE X (.Compare x [op,op'] [y,z] pos) (mCh f g a b c):=⟨AH (ho:=ho) (ho':=ho') (hx:=hx.h) (hy:=hy.h) (hz:=hz.h) (hm:=hm)⟩
theorem xL(ho:gI X (Nl op) (r2 X.K f))(ho':gI X (Nl op') (r2 X.K g))(hx:XE X x a)(hy:XE X y b)(hz:XE X z c)(hm:autoParam (lastMarks [op,op'] [y,z]=J) Aj._auto_1):XT X (.Compare x [op,op'] [y,z] pos) (mB (mCh f g a b c)):=⟨Az (ho:=ho) (ho':=ho') (hx:=hx.h) (hy:=hy.h) (hz:=hz.h) (hm:=hm)⟩
end
section
variable{pos:Pos}{e c:Expr}{st:d3}{rest as bs:List d3}{a b:FS}{m:FE}{t:FT}
theorem qQ:v6 X [] ny:=⟨Df⟩
theorem qF(h1:XS X st a)(h2:v6 X rest b):v6 X (st::rest) (eu a b):=⟨AB (h1:=h1.h) (h2:=h2.h)⟩
theorem qG(h1:XS X st a):v6 X [st] a:=⟨De (h1:=h1.h)⟩
theorem yV(h:XE X e m)(hs:autoParam (MX e Y pos.line X.env=pure J) cu0):XS X (.Expr e pos) (fQ m):=⟨Dg (h:=h.h) (hs:=hs)⟩
theorem qU(h:XE X e m):XS X (.Return (Z e) pos) (eX m):=⟨Gs (h:=h.h)⟩
theorem qV(hc:XT X c t)(ha:v6 X as a)(hb:v6 X bs b):XS X (.If c as bs pos) (fV t a b):=⟨IN (hc:=hc.h) (ha:=ha.h) (hb:=hb.h)⟩
end
section
variable{pos:Pos}
theorem qO(i:Nat){x:Str}(hN:X.N.Nodup)(hi:X.N[i]?=Z x)(hx:uV X.env.scope x)(hf:autoParam (X.fn x=M\/X.env.scope.names.lookup x=Z .local) au0):XG X (.Name x pos) (gN i):=⟨Dp (i:=i) (hN:=hN) (hi:=hi) (hx:=hx) (hf:=hf)⟩
theorem yX:Ke X [] jm:=⟨Do⟩
theorem pP{e:Expr}{es:List Expr}{g:FG}{a:B0}(h1:XG X e g)(h2:Ke X es a)(hs:autoParam ((MZ (e::es) X.env).map (·.2)=MY e X.env::(MZ es X.env).map (·.2)) cu0):Ke X (e::es) (fO g a):=⟨AE (h1:=h1.h) (h2:=h2.h) (hs:=hs)⟩
theorem Cc{es:List Expr}{k:Nat}{a:B0}{n:Nat}(hc:X.calm=M)(h:Ke X es a)(hn:autoParam ((MZ es X.env).length=n) cu0)(hst:autoParam ((MZ es X.env).findIdx? (·.1)=Y) cu0):XG X (.Tuple es k pos) (gT n a):=⟨GB (hc:=hc) (h:=h.h) (hn:=hn) (hst:=hst)⟩
theorem iD{o i:Expr}{a b:FE}{f:FN}(ho:XE X o a)(hi:XE X i b)(hs:wd X (rU X.K f))(ha:autoParam (∀ v,MY (.Subscript o i pos) X.env v=(do
   let ov<-M3 [v] (eval o X.env)
   let iv<-M3 [v,ov] (eval i X.env)
   M4 pos
   M3 [v,ov,iv] (setItem ov iv v)
   release [v,ov,iv] [])) du0):XG X (.Subscript o i pos) (gS f a b):=⟨GC (ho:=ho.h) (hi:=hi.h) (hs:=hs) (ha:=ha)⟩
theorem qR{tg e:Expr}{m:FE}{g:FG}(he:XE X e m)(hg:XG X tg g)(hs:autoParam (M7 [tg] e pos.line X.env=pure J) cu0)(hw:autoParam (M8 [tg] e X.env=pure Y) cu0)(h1:autoParam ((MZ [tg] X.env).map (·.2)=[MY tg X.env]) cu0):XS X (.Assign [tg] e pos) (eG m g):=⟨Gw (he:=he.h) (hg:=hg.h) (hs:=hs) (hw:=hw) (h1:=h1)⟩
theorem qY(i:Nat){x:Str}{e:Expr}{m:FE}{pos':Pos}(hN:X.N.Nodup)(hi:X.N[i]?=Z x)(hx:uV X.env.scope x)(he:XE X e m)(hs:autoParam (MX e (Z (.Name x pos')) pos.line X.env=pure J) cu0)(hf:autoParam (X.fn x=M\/X.env.scope.names.lookup x=Z .local) au0):XS X (.Assign [.Name x pos'] e pos) (eG m (gN i)):=⟨Gr (i:=i) (hN:=hN) (hi:=hi) (hx:=hx) (he:=he.h) (hs:=hs) (hf:=hf)⟩
theorem Ca(i:Nat){x:Str}{e:Expr}{m:FE}{op:M0}{f:FN}{pos':Pos}(hN:X.N.Nodup)(hi:X.N[i]?=Z x)(hx:uV X.env.scope x)(he:XE X e m)(ho:Kf X op (r2 X.K f))(hf:autoParam (X.fn x=M\/X.env.scope.names.lookup x=Z .local) au0):XS X (.AugAssign (.Name x pos') op e pos) (Du i f m):=⟨Gv (i:=i) (hN:=hN) (hi:=hi) (hx:=hx) (he:=he.h) (ho:=ho) (hf:=hf)⟩
end
section
theorem ka{X:Cx}{pos:Pos}(n:Nat){c:Expr}{a:List d3}{t:FT}{b:FS}(hp:Na (MN X.prog X.w) X.A X.env X.xe)(hc:XT X c t)(hb:v6 X a b):XS X (.While c a [] pos) (sU t b n):=⟨AC (n:=n) (hp:=hp) (hc:=hc.h) (hb:=hb.h)⟩
theorem qW{X:Cx}{pos:Pos}{tg iter:Expr}{a:List d3}{m:FI}{g:FG}{b:FS}(hp:Na (MN X.prog X.w) X.A X.env X.xe)(hc:X.calm=M)(hi:XI X tg iter m)(hg:XG X tg g)(hb:v6 X a b)(hs:autoParam (∀x,Nj iter X.env x=pure x) du0):XS X (.For tg iter a [] pos) (fz m g b):=⟨Gu (hp:=hp) (hc:=hc) (hi:=hi.h) (hg:=hg.h) (hb:=hb.h) (hs:=hs)⟩
end
section
variable{es:List Expr}{pos:Pos}{a:FA}
theorem eK{x1}(h:XA X es a):XE X (.Tuple es x1 pos) (fw a):=⟨GF (h:=h.h)⟩
theorem fC(h:XA X es a):XE X (.List es pos) (hM a):=⟨GK (h:=h.h)⟩
end
section
variable{tg:Expr}
theorem qd{e:Expr}{m:FE}(h:XE X e m):XI X tg e (gZ m):=⟨GA (h:=h.h)⟩
theorem u8 {a:Expr}{m:FA}{p pos:Pos}(hg:Gl X "range")(hm:X.mg "range"=Y)(ha:XA X [a] m)(hs:autoParam (dV [a] X.env=[(J,eval a X.env)]) cu0):XI X tg (.Call (.Name "range" p) [a] [] pos) (pL m):=⟨yh (hg:=hg) (hm:=hm) (ha:=ha.h) (hs:=hs)⟩
theorem kX {a b:Expr}{m:FA}{p pos:Pos}(hg:Gl X "range")(hm:X.mg "range"=Y)(ha:XA X [a,b] m)(hs:autoParam (dV [a,b] X.env=[(J,eval a X.env),(J,eval b X.env)]) cu0)(hs2:autoParam (dV [b] X.env=[(J,eval b X.env)]) cu0):XI X tg (.Call (.Name "range" p) [a,b] [] pos) (Hb m):=⟨yg (hg:=hg) (hm:=hm) (ha:=ha.h) (hs:=hs) (hs2:=hs2)⟩
end
section
variable{tg:Expr}
variable{elts:List Expr}{k:Nat}{tpos:Pos}
theorem yW {a:Expr}{m:FA}{p pos:Pos}(hg:Gl X "enumerate")(hm:X.mg "enumerate"=Y)(ha:XA X [a] m)(hs:autoParam (dV [a] X.env=[(J,eval a X.env)]) cu0):XI X (.Tuple elts k tpos) (.Call (.Name "enumerate" p) [a] [] pos) (oP m):=⟨Dm (hg:=hg) (hm:=hm) (ha:=ha.h) (hs:=hs)⟩
theorem Cb {a b:Expr}{m:FA}{p pos:Pos}(hg:Gl X "zip")(hm:X.mg "zip"=Y)(ha:XA X [a,b] m)(hs:autoParam (dV [a,b] X.env=[(J,eval a X.env),(J,eval b X.env)]) cu0)(hs2:autoParam (dV [b] X.env=[(J,eval b X.env)]) cu0):XI X (.Tuple elts k tpos) (.Call (.Name "zip" p) [a,b] [] pos) (Jc m):=⟨Gz (hg:=hg) (hm:=hm) (ha:=ha.h) (hs:=hs) (hs2:=hs2)⟩
end
section
variable{ag:List (dP×Obj)}{σ:L2.St}{H:Hp}{s:dN}{mu:List dP}{S:d7}{K:Fg1}
theorem va (T:Ty){e:Expr}{m:FE}{nm:Str}{p p2 pos:Pos}(hg:Gl X "isinstance")(hm:X.mg "isinstance"=Y)(hg2:Gl X nm)(hm2:X.mg nm=Y)(hv2:MH nm=Z (.type T.nm))(h:XE X e m)(hn:autoParam (nm≠"__name__") bu0)(hd:autoParam ((nm == ("__debug__":Str))=J) bu0)(hs1:autoParam (dV [e,.Name nm p2] X.env=(J,eval e X.env)::dV [.Name nm p2] X.env) cu0)(hs2:autoParam (dV [.Name nm p2] X.env=(J,eval (.Name nm p2) X.env)::dV [] X.env) cu0)(hpl:autoParam ((MP pos (dV [.Name nm p2] X.env)).any (·.1)=J) cu0):XE X (.Call (.Name "isinstance" p) [e,.Name nm p2] [] pos) (nA T m):=⟨ym (T:=T) (hg:=hg) (hm:=hm) (hg2:=hg2) (hm2:=hm2) (hv2:=hv2) (h:=h.h) (hn:=hn) (hd:=hd) (hs1:=hs1) (hs2:=hs2) (hpl:=hpl)⟩
end
theorem ll:XO X Y kJ:=⟨Di⟩
theorem lj{e:Expr}{m:FE}(h:XE X e m):XO X (Z e) (nh m):=⟨Dh (h:=h.h)⟩
theorem u9 {a:Expr}{m:FA}{d p2 b c:Pos}(hc:X.calm=M)(hg:Gl X "range")(hm:X.mg "range"=Y)(hg2:Gl X "list")(hm2:X.mg "list"=Y)(ha:XA X [a] m)(hs:autoParam (dV [a] X.env=[(J,eval a X.env)]) cu0)(hs2:autoParam (dV [.Call (.Name "range" d) [a] [] b] X.env=[(J,eval (.Call (.Name "range" d) [a] [] b) X.env)]) cu0):XE X (.Call (.Name "list" p2) [.Call (.Name "range" d) [a] [] b] [] c) (AN m):=⟨yk (hc:=hc) (hg:=hg) (hm:=hm) (hg2:=hg2) (hm2:=hm2) (ha:=ha.h) (hs:=hs) (hs2:=hs2)⟩
theorem qe {o e:Expr}{es:List Expr}{m:FE}{a:FA}{f:FN}{name:Str}{apos cpos:Pos}{id:String}(slot:Slot "list" name id)(hty:typeOf (.builtin id)=pure (.type "method_descriptor"))(hm:HI X id (λx xs H Q=>rN X.K f (x::xs) H Q))(ho:XE X o m)(ha:XA X (e::es) a)(hbase:autoParam (NW o name X.env (eval o X.env)=eval o X.env) cu0)(hfew:autoParam (((MP cpos (dV (e::es) X.env)).all (λx=> !x.1)&&(backToKw cpos (NX [] X.env)).all (λx=>x.1.isSome)&&decide ((e::es).length+([]:List Nw).length+(if([]:List Nw).isEmpty then 0 else 1)<30))=M) cu0)(hline:autoParam ((apos.endLine == cpos.line)=M) cu0)(hs:autoParam (dV (e::es) X.env=(J,eval e X.env)::dV es X.env) cu0)(hplain:autoParam ((MP cpos (dV es X.env)).any (·.1)=J) cu0):XE X (.Call (.Attribute o name apos) (e::es) [] cpos) (nz f m a):=⟨AG (slot:=slot) (hty:=hty) (hm:=hm) (ho:=ho.h) (ha:=ha.h) (hbase:=hbase) (hfew:=hfew) (hline:=hline) (hs:=hs) (hplain:=hplain)⟩
theorem LF (i:Nat){x:Str}{pos:Pos}(hN:autoParam (X.N[i]?=Z x) cu0)(hv:autoParam (Vis X.env.scope x) au0)(hd:autoParam ((x == ("__debug__":Str))=J) bu0)(hcd:autoParam ((x == ("__classdict__":Str))=J) bu0):XE X (.Name x pos) (mV i):=⟨mv (i:=i) (hN:=hN) (hv:=hv) (hd:=hd) (hcd:=hcd)⟩
section
theorem qH {X:Cx}{k k' n:Nat}{x:Str}{m:FN}{p pos:Pos}{e:Expr}{es:List Expr}{a:FA}(h:Own X.prog X.w X.K X.mg X.base k x n m)(hr:gl k' X.A)(hk:k<=k')(hg:Gl X x)(ha:XA X (e::es) a)(hdb:autoParam ((x == ("__debug__":Str))=J) bu0)(he:autoParam (dV (e::es) X.env=(J,eval e X.env)::dV es X.env) cu0)(hpl:autoParam ((MP pos (dV es X.env)).any (·.1)=J) cu0):XE X (.Call (.Name x p) (e::es) [] pos) (mN (ea n m) a):=⟨GG (h:=h) (hr:=hr) (hk:=hk) (hg:=hg) (ha:=ha.h) (hdb:=hdb) (he:=he) (hpl:=hpl)⟩
end
structure K7 (X:Cx)(K:Fg1)(tg:Expr)(ifs:List Expr)(elt:Expr)(g:FG)(t:FT)(e:FE):Prop where
 g:XG X tg g
 t:XF X K ifs t
 e:XE X elt e
structure Mk (X:Cx)(K:Fg1)(tg:Expr)(ifs:List Expr)(tg2 iter2:Expr)(ifs2:List Expr)(elt:Expr)(g:FG)(t:FT)(m2:FI)(g2:FG)(t2:FT)(e:FE):Prop where
 g:XG X tg g
 t:XF X K ifs t
 i2:XI X tg2 iter2 m2
 g2:XG X tg2 g2
 t2:XF X K ifs2 t2
 e:XE X elt e
theorem wj{P:dQ}{w:dS}{K:Fg1}{mg:Str->Option dM}{base:dZ}{x c:Str}{st:d3}{f:dP}{fd:d2}{N ps:List Str}{k n:Nat}{b:FS}(F:xI K x c st f fd)(hb:j9 K fd ps [])(hm:mg x=some (.ref f))(S:gR N ps (eD st))(hn:ps.length=n)(e:∀(d:dM) (A:dR) (a:List Env) (s:dN) (H:Hp) (E:XK),gl k (A.deeper (Ny c (eD st) s.heap.objs.size f d)) ->
   v6 (nC uW P w K mg base N c (eD st) f d A a s H E).nox (fK st) b):Own P w K mg base (k+1) x n (iz N.length b):=
 Gb F hb hm S hn λd A a s H E g=>(e d A a s H E g).h
theorem ER{P:dQ}{w:dS}{K:Fg1}{mg:Str->Option dM}{base:dZ}{x c:Str}{st:d3}{f:dP}{fd:d2}{N ps:List Str}{k n:Nat}{b:FS}(F:xI K x c st f fd)(S:gR N ps (eD st))(hn:ps.length=n)(e:∀(d:dM) (A:dR) (a:List Env) (s:dN) (H:Hp) (E:XK),gl k (A.deeper (Ny c (eD st) s.heap.objs.size f d)) ->
   v6 (nC uW P w K mg base N c (eD st) f d A a s H E).nox (fK st) b):mY P w K mg base uW (k+1) f fd ps (spM K n (iz N.length b)):=by
 subst hn;exact Jp F S λd A a s H E g=>(e d A a s H E g).h
abbrev FV:=Ev->d7->Option (List D×Ev×d7)
noncomputable def fM (c:List (Nat×List D))(g:FG)(t:FT)(b:FV):List D->FV
 |[]=>λr S=>if pA S c=true then some ([],r,S)else none
 |d::ds=>λr S=>if pA S c=true then(g d r S).bind λp=>(t p.1 p.2).bind λk=>if k.1=true then(b p.1 k.2).bind λq=>(fM c g t b ds q.2.1 q.2.2).map λz=>(q.1++z.1,z.2)else fM c g t b ds p.1 k.2 else none
noncomputable def eT (m:FE):FV:=λr S=>(m r S).map λq=>([q.1],r,q.2)
def uy(m:FI)(g:FG)(t:FT)(b:FV):FV:=λr S=>(m r S).bind λp=>fM p.1.chk g t b p.1.items r p.2
noncomputable def e6 (k:Nat)(keep:List Nat)(m:FI)(g:FG)(t:FT)(b:FV):FE:=λr S=>(m r S).bind λp=>
 (fM p.1.chk g t b p.1.items (vN k keep r) p.2).bind λq=>if q.1.length<=dW then some (.ref q.2.2.length,q.2.2++[.lst q.1])else none
section
variable{K:Fg1}{H H' H1:Hp}{mu mu' mu1:List dP}{S:d7}{a:dP}
theorem Ext.aside(x:Ext mu mu' H H'):Ext (a::mu) (a::mu') H H' where
 pre:=bY.mpr ⟨O,x.pre⟩
 old:=λb o h n=>x.old b o h λz=>n (mC1 _ z)
 tup:=x.tup
 frz:=x.frz
 new:=λb h=>by
  rcases aF.mp h with h|h
  ·exact .inl (by rw[h];exact mS1)
  ·rcases x.new b h with q|q
   ·exact .inl (mC1 _ q)
   ·exact .inr q
theorem Ext.inner(x:Ext (a::mu) (a::mu') H H'):sN mu mu' H H':=⟨(bY.mp x.pre).2,x.tup,x.frz⟩
theorem Ext.held{o:HO}(x:Ext mu mu' H H')(ha:H a=Z o)(hn:a∉mu):H' a=Z o/\a∉mu':=by
 refine⟨x.old a o ha hn,λz=>?_⟩;rcases x.new a z with q|q
 ·exact hn q
 ·rw[ha]at q;cases q
theorem fN.exw{r:Ev}{σ:L2.St}(e:sN mu mu' H H')(h:fN K H mu r σ):fN K H' mu' r σ:=⟨h.len,λi d q=>by
 obtain⟨v,b,a⟩:=h.val i d q;exact⟨v,b,a.exw e⟩⟩
theorem nv.exw{b:dP}(e:sN mu mu' H H')(h:∀o,H b=Z o->H' b=Z o):∀{o:Ob},nv K H mu b o->nv K H' mu' b o
 | .lst _,⟨vs,q,r⟩=>⟨vs,h _ q,r.exw e⟩
 | .dct _,⟨ws,q,r⟩=>⟨ws,h _ q,Paired.mapP r λ_ _ z=>⟨z.1,z.2.exw e⟩⟩
 | .dcT _,⟨ws,q,r,l⟩=>⟨ws,h _ q,Paired.mapP r λ_ _ ⟨z,d,k,v,a,r⟩=>⟨z,d,k.exw e,v,a,r.exw e⟩,l⟩
 | .iset _,q=>⟨h _ q.1,q.2⟩
 | .dcF _,⟨ws,⟨o,u,f,c⟩,r,l⟩=>⟨ws,⟨o,u,h _ f,c⟩,Paired.mapP r λ_ _ ⟨z,d,k,v,a,r⟩=>⟨z,d,k.exw e,v,a,r.exw e⟩,l⟩
 | .tst _,⟨ws,q,r⟩=>⟨ws,h _ q,Paired.mapP r λ_ _ ⟨z,d,k,v,a,r⟩=>⟨z,d,k.exw e,v,a,r.exw e⟩⟩
theorem Sim.aside{u:HO}(s:Sim K H mu S)(e:sN mu mu H (upd H a u))(hn:a∉mu):Sim K (upd H a u) mu S:=
 ⟨s.len,s.nd,λk o b h1 h2=>(s.ob k o b h1 h2).exw e λo' q=>by rw[eE (λz=>hn (by rw[<- z];exact gM1 h2))];exact q⟩
end
inductive HK (K:Fg1)(a:dP)(m:FV)(E:jr)(σ:L2.St)(H:Hp):Prop
 |mk (r:Ev) (mu:List dP) (S:d7) (acc:List D) (vs:List V) (xs:List D) (r':Ev) (S':d7):H a=some (.lst vs)->a∉mu->ej K H mu acc vs->fN K H mu r σ->Sim K H mu S->m r S=some (xs,r',S')->vs.length+xs.length<=dW ->
 (∀ σ' H' mu' vs',Ext (a::mu) (a::mu') H H'->H' a=some (.lst vs')->a∉mu'->ej K H' mu' (acc++xs) vs'->fN K H' mu' r' σ'->Sim K H' mu' S'->E.nx σ' H')->HK K a m E σ H
theorem oW{K:Fg1}{a:dP}{m:FE}{E:jr}{σ:L2.St}{H:Hp}(h:HK K a (eT m) E σ H):sZ a (tM K m) E σ H:=by
 obtain⟨r,mu,S,o,vs,xs,u,w,p,f,l,i,n,g,t,hc⟩:=h;obtain⟨⟨d,s⟩,j,g⟩:=Pz g;cases g;refine⟨r,mu,S,d,s,i,n,j,λv H1 mu1 e k q=>?_⟩;obtain⟨b,c⟩:=e.held p f;have put:Ext (a::mu1) (a::mu1) H1 (upd H1 a (.lst (vs++[v]))):=Ext.put b trivial mS1;refine⟨vs,b,t,?_⟩;exact hc σ _ mu1 (vs++[v]) (e.aside.trans put) eJ c (((l.ext e).append (.cons k .nil)).exw put.inner) ((i.ext e).exw put.inner) (q.aside put.inner c)
inductive Ld (K:Fg1)(a:dP)(mu2:List dP)(H:Hp)(c:List (Nat×List D))(g:FG)(t:FT)(b:FV)(r':Ev)(S':d7)(tot:List D)(L:List D)(σ':L2.St)(H':Hp):Prop
 |mk (r3:Ev) (mu3:List dP) (S3:d7) (acc3:List D) (vs3:List V) (xs3:List D):Ext (a::mu2) (a::mu3) H H'->H' a=some (.lst vs3)->a∉mu3->ej K H' mu3 acc3 vs3->fN K H' mu3 r3 σ'->Sim K H' mu3 S3->fM c g t b L r3 S3=some (xs3,r',S')->acc3++xs3=tot->vs3.length+xs3.length<=dW->Ld K a mu2 H c g t b r' S' tot L σ' H'
theorem t9{K:Fg1}{a:dP}{j:It}{am:yO}{g:FG}{t:FT}{b:FV}{tb:TS}{D:jr}(hb:∀ E σ H,HK K a b E σ H->tb E σ H){mu1 e:List dP}{H1 H:Hp}{r L:Ev}{S I:d7}{σ:L2.St}{acc xs:List Mi.D}{vs:List V}(hJ:Le K j am mu1 H1)(x:sN mu1 e H1 H)(ha:H a=Z (.lst vs))(hna:a∉e)(hr:ej K H e acc vs)(he:fN K H e r σ)(hs:Sim K H e S)(hm:fM am.chk g t b am.items r S=Z (xs,L,I))(hl:vs.length+xs.length<=dW)(hc:∀l H' mu' A,Ext (a::e) (a::mu') H H'->H' a=Z (.lst A)->a∉mu'->ej K H' mu' (acc++xs) A->fN K H' mu' L l->Sim K H' mu' I->D.nx l H'):zv j (E9 K g) (zu K t) tb D σ H:=by
 refine⟨λi k l H'=>k=(am.items.drop i).length/\Ld K a e H am.chk g t b L I (acc++xs) (am.items.drop i) l H',
  ⟨_,O,r,e,S,acc,vs,xs,.refl _ _,ha,hna,hr,he,hs,hm,O,hl⟩,?_⟩
 rintro i k σ3 wq ⟨rfl,r3,m,S3,f,vs3,P,ao,w,u,C,s,au,c,n,h⟩;cases hd0:am.items.drop i with
 |nil=>
  left;rw[hd0,fM]at c;dsimp only at c;split at c
  ·rename_i ok;cases c;refine⟨(hJ i wq m _ (x.trans ao.inner) au ok).2 (List.drop_eq_nil_iff.mp hd0),hc σ3 wq m vs3 ao w u ?_ s au⟩;rw[<- n,aP];exact C
  ·cases c
 |cons d ds=>
  right;rw[hd0]at c;obtain⟨hi,hd⟩:=nk hd0;rw[fM]at c;dsimp only at c;split at c
  ·rename_i ok;obtain⟨⟨N,S4⟩,e4,c⟩:=Py c;obtain⟨⟨k5,Q⟩,e5,c⟩:=Py c;obtain⟨go,yl⟩:=(hJ i wq m _ (x.trans ao.inner) au ok).1 d hi;refine⟨go,Ld K a e H am.chk g t b L I (acc++xs) ds,?_,λy H4 yy=>?_⟩
   ·intro l H' h6;exact⟨ds.length,bE _,(congrArg List.length hd).symm,hd.symm ▸ h6⟩
   ·obtain⟨G,s4,q4⟩:=yl y H4 yy;obtain⟨ha4,hn4⟩:=G.held w u;refine⟨r3,m,S3,d,N,S4,s.ext G,s4,q4,e4,fun σ5 H5 T x5 o s5=>?_⟩;obtain⟨ha5,W⟩:=x5.held ha4 hn4;refine⟨N,T,S4,k5,Q,o,s5,e5,λH6 q z s6=>?_⟩;obtain⟨v,B⟩:=z.held ha5 W;have xx:=((ao.trans G.aside).trans x5.aside).trans z.aside;have p:ej K H6 q f vs3:=((C.ext G).ext x5).ext z;cases k5 with
    |true=>
     obtain⟨⟨q1,r7,S7⟩,e7,c⟩:=Py c;obtain⟨⟨z1,r8,S8⟩,e8,c⟩:=Pz c;cases c;refine hb _ _ _ ⟨N,q,Q,f,vs3,q1,r7,S7,v,B,p,o.ext z,s6,e7,?_,fun σ8 H8 X R x8 aq hn8 F U s8=>⟨r7,X,S7,f++q1,R,z1,xx.trans x8,aq,hn8,F,U,s8,e8,?_,?_⟩⟩
     ·rw[lA1]at h;dsimp only at h;lia
     ·rw[<- n,bJ]
     ·have:=F.length;have h3:=p.length;rw[lA1]at this h;dsimp only at h;lia
    |false=>exact⟨N,q,Q,f,vs3,P,xx,v,B,p,o.ext z,s6,c,n,h⟩
  ·cases c
theorem Aw{K:Fg1}{a:dP}{m:FI}{g:FG}{t:FT}{b:FV}{tb:TS}(hb:∀E σ H,HK K a b E σ H->tb E σ H){E:jr}{σ:L2.St}{H:Hp}(h:HK K a (uy m g t b) E σ H):zt (H9 K m) (E9 K g) (zu K t) tb E σ H:=by
 obtain⟨r,mu,S,p,vs,xs,B,A,s,f,u,n,w,l,v,hc⟩:=h;obtain⟨⟨am,q⟩,o,l⟩:=Py l;refine⟨r,mu,S,am,q,n,w,o,λj H1 mu1 c x y=>?_⟩;obtain⟨d,k⟩:=c.held s f;exact t9 hb x (Ext.refl _ _).w d k (u.ext c) (n.ext c) y l v λi H' mu' e z=>hc i H' mu' e (c.aside.trans z)
theorem o4{K:Fg1}{k:Nat}{keep:List Nat}{m:FI}{g:FG}{t:FT}{b:FV}{tb:dP->TS}(hb:∀ a E σ H,HK K a b E σ H->tb a E σ H){σ:L2.St}{H:Hp}{Q:VK}(h:tM K (e6 k keep m g t b) σ H Q):
  zw k keep (H9 K m) (E9 K g) (zu K t) tb σ H Q:=by
 obtain⟨r,mu,S,d,aq,I,V,f,hc⟩:=h;obtain⟨⟨am,T⟩,au,f⟩:=Py f;obtain⟨⟨xs,r2,F⟩,P,f⟩:=Py f;dsimp only at f;split at f
 ·rename_i U;cases f;refine ⟨r,mu,S,am,T,I,V,au,fun j H1 mu1 L X N p i=>?_⟩;have w:Ext mu1 mu1 H1 (upd H1 p (.lst [])):=Ext.fresh i;refine t9 (hb p) X w.w eJ (N.notin i) .nil ((Jb k keep (I.ext L)).ext w) (N.fresh i) P (by simpa using U) fun W H' mu' l v x D B R s'=>?_;have y:Ext mu1 (mu'++[p]) H1 H':=by
   refine⟨((bY.mp v.pre).2).trans (bw _ _),λb o e n=>?_,λb ys e=>v.tup b ys (w.tup b ys e),λb o u e=>v.frz b o u (w.frz b o u e),λb C=>?_⟩
   ·have ao:b≠p:=eO e i;exact v.old b o (by rw [eE ao];exact e) fun z=>by
     rcases aF.mp z with z|z
     ·exact ao z
     ·exact n z
   ·rcases aG.mp C with z|z
    ·rcases v.new b (mC1 _ z)with q|q
     ·rcases aF.mp q with q|q
      ·exact .inr (by rw[q];exact i)
      ·exact .inl q
     ·by_cases s:b=p
      ·exact .inr (by rw[s];exact i)
      ·rw[eE s]at q;exact .inr q
    ·have:b=p:=by simpa using z
     exact .inr (by rw[this];exact i)
  refine hc _ H' (mu'++[p]) (L.trans y) (.ref (gz s'.len p)) ⟨by rw[lA1,lA1,s'.len];rfl,?_,λn o b h1 h2=>?_⟩
  ·rw[bB];refine⟨s'.nd,by simp,λb hb c hc e=>?_⟩;have:c=p:=by simpa using hc
   subst this;subst e;exact D hb
  ·by_cases G:n<F.length
   ·rw[gL1 G]at h1;rw[gL1 (by rw[s'.len];exact G)]at h2;exact(s'.ob n o b h1 h2).mor [p]
   ·have A:n=F.length:=by
     have:=(Px h1).1;rw[lA1]at this;simp at this;lia
    subst A;rw[gR1 (nR1 _)]at h1;rw[<- s'.len,gR1 (nR1 _)]at h2;simp at h1 h2;subst h1;subst h2;exact⟨l,x,(by simpa using B:ej K H' mu' xs l).mor [p]⟩
 ·cases f
theorem qZ{elt tg iter:Expr}{ifs:List Expr}{scope:d4}{pos:Pos}{T:List Str}{keep:List Nat}{f:List (Str×dP)}{m:FI}{g:FG}{t:FT}{e:FE}(hc:X.calm=M)(C:HN X scope T keep)(c:jU X.env.cells scope.names []=Z f)(hi:XI X tg iter m)(hb:∀s H fp,K7 (cxC X scope f T keep s H fp) X.K tg ifs elt g t e)(hs:autoParam (∀x,Nj iter X.env x=pure x) du0):XE X (.ListComp elt [⟨tg,iter,ifs,0⟩] scope pos) (e6 T.length keep m g t (eT e)):=
 ⟨ff (C0 (emit:=oX elt) (tb:=λp=>sZ p (tM X.K e)) hc (λit d b=>zl elt tg iter ifs scope pos it d b) C c hi.h (λs H fp p=>⟨(hb s H fp).g.h,(hb s H fp).t.h,rr (hb s H fp).e.h p⟩) hs)
  fun σ H Q h=>o4 (λa E σ H q=>oW q) h⟩
theorem kd{elt tg iter:Expr}{ifs:List Expr}{scope:d4}{pos b k:Pos}{y:Str}(i:Nat){T:List Str}{keep:List Nat}{l:List (Str×dP)}{m:FI}{g:FG}{t:FT}{e:FE}(hc:X.calm=M)(C:HN X scope T keep)(c:jU X.env.cells scope.names []=Z l)(hi:XI X tg iter m)(hb:∀s H fp,K7 (cxC X scope l T keep s H fp) X.K tg ifs elt g t e)(hN:X.N.Nodup)(hy:X.N[i]?=Z y)(hx:uV X.env.scope y)(f:autoParam (MX (.ListComp elt [⟨tg,iter,ifs,0⟩] scope pos) (Z (.Name y k)) b.line X.env=pure M) cu0)(hf:autoParam (X.fn y=M\/X.env.scope.names.lookup y=Z .local) au0)(hs:autoParam (∀x,Nj iter X.env x=pure x) du0):XS X (.Assign [.Name y k] (.ListComp elt [⟨tg,iter,ifs,0⟩] scope pos) b) (eG (e6 T.length keep m g t (eT e)) (gN i)):=
 ⟨ij (wC (emit:=oX elt) (tb:=λp=>sZ p (tM X.K e)) hc f (λit d j=>zl elt tg iter ifs scope pos it d j) C c hi.h (λs H fp p=>⟨(hb s H fp).g.h,(hb s H fp).t.h,rr (hb s H fp).e.h p⟩) hN hy hx hf hs)
  λE σ H h=>BP (fun σ H Q q=>o4 (λa E σ H q=>oW q) q) h⟩
theorem xP{elt tg iter tg2 iter2:Expr}{ifs ifs2:List Expr}{scope:d4}{pos b o:Pos}{y:Str}(i:Nat){T:List Str}{keep:List Nat}{n:List (Str×dP)}{m m2:FI}{g l:FG}{t f:FT}{e:FE}(hc:X.calm=true)(C:HN X scope T keep)(d:jU X.env.cells scope.names []=some n)(hi:XI X tg iter m)(hb:∀s H fp,Mk (cxC X scope n T keep s H fp) X.K tg ifs tg2 iter2 ifs2 elt g t m2 l f e)(hN:X.N.Nodup)(hy:X.N[i]?=some y)(hx:uV X.env.scope y)(k:autoParam (MX (.ListComp elt [⟨tg,iter,ifs,0⟩,⟨tg2,iter2,ifs2,0⟩] scope pos) (some (.Name y o)) b.line X.env=pure true) cu0)(hf:autoParam (X.fn y=true\/X.env.scope.names.lookup y=some .local) au0)(hs:autoParam (∀x,Nj iter X.env x=pure x) du0)(hs2:∀c x,Nj iter2 c x=pure x:=by intro _ _;rfl):
  XS X (.Assign [.Name y o] (.ListComp elt [⟨tg,iter,ifs,0⟩,⟨tg2,iter2,ifs2,0⟩] scope pos) b) (eG (e6 T.length keep m g t (uy m2 l f (eT e))) (gN i)):=
 ⟨ij (wC (emit:=qp (.ListComp elt [⟨tg,iter,ifs,0⟩,⟨tg2,iter2,ifs2,0⟩] scope pos) iter2) (tb:=fun p=>zt (H9 X.K m2) (E9 X.K l) (zu X.K f) (sZ p (tM X.K e))) hc k (fun it j c=>EZ elt tg iter tg2 iter2 ifs ifs2 scope pos it j c) C d hi.h
   (λs H fp p=>⟨(hb s H fp).g.h,(hb s H fp).t.h,CG (X:=cxC X scope n T keep s H fp) O hc (hb s H fp).i2.h (hb s H fp).g2.h (hb s H fp).t2.h (rr (hb s H fp).e.h p) (hs2 _)⟩) hN hy hx hf hs)
  λE σ H h=>BP (fun σ H Q q=>o4 (λa E σ H q=>Aw (λ_ _ _ z=>oW z) q) q) h⟩
noncomputable def ky:D->Option Key
 | .int i=>Z (.inl i)
 | .str x=>Z (.inr x)
 |_=>Y
noncomputable def eg{κ:Type}[DecidableEq κ](kvs:List (κ×D))(k:κ):Option D:=(kvs.find? λp=>decide (p.1=k)).map (·.2)
noncomputable def fT{κ:Type}[DecidableEq κ](kvs:List (κ×D))(k:κ)(d:D):List (κ×D):=
 if(kvs.any λp=>decide (p.1=k))=M then kvs.map (λp=>if p.1=k then(p.1,d)else p)else kvs++[(k,d)]
section
variable{K:Fg1}{H:Hp}{mu:List dP}
theorem kn{d:D}{v:V}{k:Key}(r:fc K H mu d v)(h:ky d=Z k):v=kV k:=by
 cases r with
 |int i=>cases h;rfl
 |str x=>cases h;rfl
 |_=>cases h
end
section
variable{κ:Type} [DecidableEq κ] {K:Fg1}{H:Hp}{mu:List dP}
theorem KR.length:∀{ks:List (κ×D)} {ws:List (κ×V)},KR K H mu ks ws->ks.length=ws.length:=λh=>Paired.length h
theorem KR.look{k:κ}:∀ {ks:List (κ×D)} {ws:List (κ×V)},KR K H mu ks ws ->
  (∀d,eg ks k=Z d -> ∃v,hA ws k=Z v/\fc K H mu d v)/\(eg ks k=Y->hA ws k=Y):=by
 intro ks ws h
 induction h with
 |nil=>exact⟨λd h=>by simp[eg]at h,λ_=>rfl⟩
 | @cons p q ks ws r t ih=>
  obtain⟨a,f⟩:=p;obtain⟨j,c⟩:=q;obtain⟨e,r⟩:=r;dsimp only at e r;subst e;obtain⟨h1,h2⟩:=ih;by_cases b:a=k
  ·subst b;refine⟨λd h=>?_,λh=>?_⟩
   ·have:f=d:=by simpa[eg]using h
    subst this;exact⟨c,by simp[hA],r⟩
   ·simp[eg]at h
  ·have g:eg ((a,f)::ks) k=eg ks k:=by simp[eg,bd,b]
   have i:hA ((a,c)::ws) k=hA ws k:=by simp[hA,bd,b]
   rw[g,i];exact⟨h1,h2⟩
theorem KR.any{k:κ}:∀{ks:List (κ×D)} {ws:List (κ×V)},KR K H mu ks ws->(ks.any λp=>decide (p.1=k))=ws.any λp=>decide (p.1=k):=by
 intro ks ws h
 induction h with
 |nil=>rfl
 |cons r t ih=>rw[bf,bf,ih,r.1]
theorem KR.repl{k:κ}{d:D}{v:V}(q:fc K H mu d v):∀ {ks:List (κ×D)} {ws:List (κ×V)},KR K H mu ks ws ->
  KR K H mu (ks.map λp=>if p.1=k then(p.1,d)else p) (ws.map λp=>if p.1=k then(p.1,v)else p):=by
 intro ks ws h
 induction h with
 |nil=>exact .nil
 | @cons a b ks ws r t ih=>
  refine .cons ?_ ih;obtain⟨e,r⟩:=r;dsimp only;by_cases h:a.1=k
  ·rw[ak h,ak (e ▸ h)];exact⟨e,q⟩
  ·rw[aj h,aj (e ▸ h)];exact⟨e,r⟩
theorem KR.snoc{k:κ}{d:D}{v:V}(q:fc K H mu d v):∀{ks:List (κ×D)} {ws:List (κ×V)},KR K H mu ks ws->KR K H mu (ks++[(k,d)]) (ws++[(k,v)]):=by
 intro ks ws h
 induction h with
 |nil=>exact .cons ⟨O,q⟩ .nil
 |cons r t ih=>exact .cons r ih
theorem KR.put{k:κ}{d:D}{v:V}(q:fc K H mu d v){ks:List (κ×D)}{ws:List (κ×V)}(h:KR K H mu ks ws):KR K H mu (fT ks k d) (hL ws k v):=by
 unfold fT hL;rw[h.any];split
 ·exact h.repl q
 ·exact h.snoc q
end
def Jl:G2:=λd e S=>match e with
 | .ref n=>match S[n]? with
  |some (.dct kvs)=>(ky d).map λk=>(.bl (eg kvs k).isSome,S)
  |_=>Ls d e S
 |_=>Ls d e S
def iI:G2:=λd e S=>match e with
 | .ref n=>match S[n]? with
  |some (.dct kvs)=>(ky d).map λk=>(.bl (!(eg kvs k).isSome),S)
  |_=>mS d e S
 |_=>mS d e S
def me:G2:=λd e S=>match d with
 | .ref n=>match S[n]? with
  |some (.dct kvs)=>(ky e).bind λk=>(eg kvs k).map λx=>(x,S)
  |_=>xg d e S
 |_=>xg d e S
def jl:G3:=λo i v S=>match o with
 | .ref n=>match S[n]? with
  |some (.dct kvs)=>(ky i).bind λk=>if kvs.length<dW then Z (.non,S.set n (.dct (fT kvs k v)))else Y
  |_=>k6 o i v S
 |_=>k6 o i v S
theorem oG{K:Fg1}{H:Hp}{mu:List dP}{S:d7}(hs:Sim K H mu S){n:Nat}{a:dP}{kvs:List (Key×D)}{k:Key}{y:V}(hn:mu[n]? = some a)(he:S[n]? = some (.dct kvs))(hy:y=kV k):
  ∃o:Option V,pz H a y o/\(∀d,eg kvs k=Z d -> ∃v,o=Z v/\fc K H mu d v)/\(eg kvs k=Y->o=Y)/\o.isSome=(eg kvs k).isSome:=by
 obtain⟨ws,f,c⟩:=hs.dct he hn;subst hy;obtain⟨h1,h2⟩:=c.look (k:=k);refine⟨hA ws k,pz.k f,h1,h2,?_⟩;cases e:eg kvs k with
 |none=>rw[h2 e];rfl
 |some d=>obtain⟨v,b,_⟩:=h1 d e;rw[b];rfl
theorem Ar(m:X.A.units+64<Nt):gI X (Nl .NotIn) (r2 X.K (b2 iI)):=by
 intro ag s σ H x y u w Q I l i h;obtain⟨mu,S,d,e,r,j,f,b,c,a,hc⟩:=uY h;have back:mS d e S=Z (r,j)->dX (MN X.prog X.w) X.A (Nl .NotIn u w) (EP X ag σ Q) X.xe s:=λa=>C8 m ag s σ H x y u w Q I l i ⟨mu,S,[d,e],r,j,.cons f (.cons b .nil),c,a,hc⟩;unfold iI at a;split at a
 ·rename_i n;split at a
  ·rename_i kvs v;obtain⟨k,q,a⟩:=Pz a;cases a;cases b with
   |ref t=>
    cases i;obtain⟨o,g,_,_,hi⟩:=oG c t v (kn f q);exact D8 (by lia) I g l λs' p=>⟨.bl (!o.isSome),H,p,O,by rw[hi];exact hc.now (.bl _) c⟩
  ·exact back a
 ·exact back a
theorem HP(P:X.A.units+64<Nt):EQ X (r2 X.K (b2 me)):=by
 intro value b ag s σ H x y v u Q I C B h j;obtain⟨mu,S,d,e,r,t,A,l,p,c,hc⟩:=uY h;have back:xg d e S=Z (r,t)->dX (MN X.prog X.w) X.A (NS value b v u) (EP X ag σ Q) X.xe s:=λc=>Ki value b ag s σ H x y v u Q I C B ⟨mu,S,[d,e],r,t,.cons A (.cons l .nil),p,c,hc⟩ j;unfold me at c;split at c
 ·rename_i n;split at c
  ·rename_i kvs N;obtain⟨k,G,c⟩:=Py c;obtain⟨z,ao,c⟩:=Pz c;cases c;cases A with
   | @ref _ a K=>
    cases C;obtain⟨o,g,h1,_,_⟩:=oG p K N (kn l G);obtain⟨F,am,au⟩:=h1 _ ao;subst am;have w:=uE I g;unfold NS;refine wB1 ?_;rw[getitemInPython_of_ne w.not_modules];refine wB1 (OH w PySem.F.slot_dict_getitem.lookup ?_);have i:dX (MN X.prog X.w) X.A (subscripted b J (.ref a) u) (λr f=>dX (MN X.prog X.w) X.A (letTemporaryGo value (.ref a) r >>= λ_=>pure r) (EP X ag σ Q) X.xe f) X.xe s:=by
     rw[j];exact wpAny_operating (MQ (yE (by lia) I g B λL E D q=>(⟨F,H,D,q,hc.now au p⟩:EP X ag σ Q L E)) (λr f m=>wB1 (wpAny_letTemporaryGo (wP1 m))) λ_ _ x=>x)
    first
     |exact wP1 (wB1 i)
     |exact wB1 i
     |exact i
  ·exact back c
 ·exact back c
theorem Fs(L:X.A.units+64<Nt):wd X (rU X.K (b3 jl)):=by
 intro ag s σ H o i v y t u Q I x j z h;obtain⟨mu,S,ds,d,g,E,e,a,hc⟩:=id h;cases E with
 |cons r am=>cases am with
  |cons w G=>cases G with
   |cons q A=>
    cases A;rename_i l p f;dsimp only[b3]at a;have back:k6 l p f S=Z (d,g)->dX (MN X.prog X.w) X.A (setItem y t u) (λ_ s'=>∃H',Inv X ag σ H' s'/\Q H') X.xe s:=λa=>Ii ag s σ H o i v y t u Q I x j z ⟨mu,S,[l,p,f],d,g,.cons r (.cons w (.cons q .nil)),e,a,hc⟩;unfold jl at a;split at a
    ·rename_i n;split at a
     ·rename_i kvs F;obtain⟨k,C,a⟩:=Py a;split at a
      ·rename_i D;cases a;cases r with
       |ref c=>
        cases x;obtain⟨ws,b,m⟩:=e.dct F c;have B:=kn w C;subst B;refine yD (by lia) I (yP.k b (by rw[<- m.length];exact D)) j z λs' K=>⟨_,K,?_⟩;have put:Ext mu mu H (upd H _ (.dK (hL ws k v))):=Ext.put b trivial (gM1 c);exact hc _ mu put (e.put c b trivial ⟨_,eJ,(m.put q).ext put⟩)
      ·cases a
     ·exact back a
    ·exact back a
def Hh:G2:=λd e S=>match e with
 | .non=>Z (.bl (wZ d),S)
 | .bl b=>match d with
  | .bl c=>Z (.bl (c == b),S)
  |_=>Y
 |_=>Y
theorem IH:gI X (Nl .Is) (r2 X.K (b2 Hh)):=by
 intro ag s σ H x y u w Q I k i h;obtain⟨mu,S,d,e,r,l,j,a,g,f,hc⟩:=uY h;cases e with
 |non=>exact II ag s σ H x y u w Q I k i ⟨mu,S,[d,.non],r,l,.cons j (.cons a .nil),g,f,hc⟩
 |bl b=>
  cases d with
  |bl c=>
   cases f;cases j;cases a;cases k;cases i;exact is_bool ⟨.bl (c == b),H,I,O,hc.now (.bl _) g⟩
  |_=>cases f
 |_=>cases f
def l6:FE:=λ_ S=>Z (.ref S.length,S++[.dct []])
theorem lm{pos:Pos}:XE X (.Dict [] [] pos) l6:=⟨ff Ah <| by
 rintro σ H Q ⟨r,mu,S,d,f,e,b,c,hc⟩ p a;cases c;exact hc _ _ (mu++[p]) (Ext.new_ a) (.ref (gz b.len p)) (b.new a ⟨[],eJ,.nil⟩)⟩
noncomputable def GR:List (FE×FE)->Ev->d7->Option (List (D×D)×d7)
 |[],_,S=>Z ([],S)
 |(a,b)::l,r,S=>(a r S).bind λp=>(b r p.2).bind λq=>(GR l r q.2).map λt=>((p.1,q.1)::t.1,t.2)
def A7:List (D×D)->Option (List (Key×D))
 |[]=>Z []
 |(k,d)::l=>(ky k).bind λk=>(A7 l).map λt=>(k,d)::t
def wP(l:List (FE×FE)):FE:=λr S=>(GR l r S).bind λp=>(A7 p.1).bind λkvs=>if kvs.length<=15 then Z (.ref p.2.length,p.2++[.dct (kvs.foldl (λacc kv=>fT acc kv.1 kv.2) [])])else Y
structure XP (X:Cx)(pos:Pos)(ks:List (Option Expr))(vs:List Expr)(l:List (FE×FE)):Prop where
 h:JL X pos ks vs (l.map λp=>(tM X.K p.1,tM X.K p.2))
theorem wk{pos:Pos}:XP X pos [] [] []:=⟨CO⟩
theorem sQ{pos:Pos}{k v:Expr}{ks:List (Option Expr)}{vs:List Expr}{a b:FE}{l:List (FE×FE)}(hk:XE X k a)(hv:XE X v b)(t:XP X pos ks vs l):XP X pos (Z k::ks) (v::vs) ((a,b)::l):=⟨zW hk.h hv.h t.h⟩
theorem zV{K:Fg1}{σ:L2.St}:∀ {l:List (FE×FE)} {r:Ev} {mu:List dP} {H:Hp} {S e:d7} {ps:List (D×D)} {Q:List (V×V)->Hp->Prop},fN K H mu r σ->Sim K H mu S->GR l r S=some (ps,e) ->
  (∀vs H' mu',Ext mu mu' H H'->Paired (λ(p:D×D) (q:V×V)=>fc K H' mu' p.1 q.1/\fc K H' mu' p.2 q.2) ps vs->Sim K H' mu' e->Q vs H')->re (l.map λp=>(tM K p.1,tM K p.2)) σ H Q
 |[],r,mu,H,S,e,ps,Q,he,hs,c,hc=>by cases c;exact hc [] H mu (.refl _ _) .nil hs
 |(a,b)::l,r,mu,H,S,e,ps,Q,he,hs,c,hc=>by
  obtain⟨⟨d,j⟩,k,c⟩:=Py c;obtain⟨⟨x,o⟩,n,c⟩:=Py c;obtain⟨⟨t,C⟩,u,c⟩:=Pz c;cases c;refine⟨r,mu,S,d,j,he,hs,k,λv H1 mu1 h w B=>⟨r,mu1,j,x,o,he.ext h,B,n,λE H2 A f r2 s=>?_⟩⟩;refine zV ((he.ext h).ext f) s u λvs z g i y m=>hc _ z g ((h.trans f).trans i) (.cons ⟨(w.ext f).ext i,r2.ext i⟩ y) m
theorem A6{K:Fg1}{H:Hp}{mu:List dP}:∀ {ps:List (D×D)} {vs:List (V×V)} {kvs:List (Key×D)},Paired (fun (p:D×D) (q:V×V)=>fc K H mu p.1 q.1/\fc K H mu p.2 q.2) ps vs->A7 ps=some kvs ->
  ∃ws:List (Key×V),vs=ws.map (λc=>(kV c.1,c.2))/\KR K H mu kvs ws:=by
 intro ps vs kvs l h
 induction l generalizing kvs with
 |nil=>cases h;exact⟨[],O,.nil⟩
 | @cons a b ps vs q t ih=>
  obtain⟨k,d⟩:=a;obtain⟨m,f⟩:=b;obtain⟨j,i,h⟩:=Py h;obtain⟨rest,g,h⟩:=Pz h;cases h;obtain⟨ws,e,r⟩:=ih g;have:=kn q.1 i;dsimp only at this;subst this;exact⟨(j,f)::ws,by rw[mP1,<- e],.cons ⟨O,q.2⟩ r⟩
theorem AF{K:Fg1}{H:Hp}{mu:List dP}:∀{kvs:List (Key×D)} {ws:List (Key×V)} {acc:List (Key×D)} {acw:List (Key×V)},KR K H mu kvs ws->KR K H mu acc acw->KR K H mu (kvs.foldl (λacc c=>fT acc c.1 c.2) acc) (jc acw ws):=by
 intro kvs ws acc acw f h
 induction f generalizing acc acw with
 |nil=>exact h
 | @cons a b kvs ws r t ih=>
  obtain⟨k,d⟩:=a;obtain⟨g,v⟩:=b;obtain⟨e,r⟩:=r;dsimp only at e r;subst e;show KR K H mu (kvs.foldl _ (fT acc k d)) (jc (hL acw k v) ws);exact ih (h.put r)
theorem sR{pos:Pos}{ks:List (Option Expr)}{vs:List Expr}{l:List (FE×FE)}(h:XP X pos ks vs l)(m:autoParam (ks.all (·.isSome)=M) cu0)(R:autoParam (ks.length=vs.length) cu0)(P:ks≠[]:=by(intro z;cases z))(w:autoParam (ks.length<=15) bu0):XE X (.Dict ks vs pos) (wP l):=
 ⟨ff (CZ h.h m R P w) <| by
  rintro σ H Q ⟨r,mu,S,d,T,au,F,f,hc⟩ p g;obtain⟨⟨ps,E⟩,I,f⟩:=Py f;obtain⟨kvs,am,f⟩:=Py f;dsimp only at f;split at f
  ·rename_i s;cases f;have x:Ext mu mu H (upd H p (.dK [])):=Ext.fresh g;refine zV (au.ext x) (F.fresh g) I fun vs H1 mu1 i N j=>?_;obtain ⟨k,v⟩:=i.held (a:=p) (o:=.dK []) eJ (F.notin g);obtain ⟨ws,L,rk⟩:=A6 N am;refine ⟨k,ws,L,by rw [<- rk.length];exact s,?_⟩;have put:Ext (p::mu1) (p::mu1) H1 (upd H1 p (.dK (jc [] ws))):=Ext.put k trivial mS1;have K:=j.aside put.inner v;have y:Ext mu (mu1++[p]) H (upd H1 p (.dK (jc [] ws))):=by
    refine⟨i.pre.trans (bw _ _),λb o e n=>?_,λb ys e=>put.tup b ys (i.tup b ys (x.tup b ys e)),λb o u e=>put.frz b o u (i.frz b o u (x.frz b o u e)),λb B=>?_⟩
    ·have G:b≠p:=eO e g;rw[eE G];exact i.old b o (by rw[eE G];exact e) n
    ·rcases aG.mp B with z|z
     ·rcases i.new b z with q|q
      ·exact .inl q
      ·by_cases t:b=p
       ·exact .inr (by rw[t];exact g)
       ·rw[eE t]at q;exact .inr q
     ·have:b=p:=by simpa using z
      exact .inr (by rw[this];exact g)
   have C:=AF rk (acc:=[]) (acw:=[]) .nil;refine hc _ _ (mu1++[p]) y (.ref (gz j.len p)) ⟨by rw[lA1,lA1,j.len];rfl,?_,λn o b h1 h2=>?_⟩
   ·rw[bB];refine⟨j.nd,by simp,λb ao c hc e=>?_⟩;have:c=p:=by simpa using hc
    subst this;subst e;exact v ao
   ·by_cases D:n<E.length
    ·rw[gL1 D]at h1;rw[gL1 (by rw[j.len];exact D)]at h2;exact(K.ob n o b h1 h2).mor [p]
    ·have A:n=E.length:=by
      have:=(Px h1).1;rw[lA1]at this;simp at this;lia
     subst A;rw[gR1 (nR1 _)]at h1;rw[<- j.len,gR1 (nR1 _)]at h2;simp at h1 h2;subst h1;subst h2;exact⟨_,eJ,KR.mor [p] (Paired.mapP C λ_ _ z=>⟨z.1,z.2.exw put.inner⟩)⟩
  ·cases f⟩
def AO(m a:FE):FE:=λr S=>(m r S).bind λp=>match p.1 with
 | .ref n=>match p.2[n]? with
  |some (.dct _)=>(a r p.2).bind λq=>match q.2[n]? with
   |some (.dct kvs)=>(ky q.1).map λk=>((eg kvs k).getD .non,q.2)
   |_=>Y
  |_=>Y
 |_=>Y
theorem Bc{K:Fg1}{H:Hp}{mu:List dP}{S:d7}(hs:Sim K H mu S){n:Nat}{a:dP}{kvs:List (Key×D)}(hn:mu[n]?=Z a)(he:S[n]?=Z (.dct kvs)):Kg H a:=by
 obtain⟨ws,b,_⟩:=hs.dct he hn;exact .inl ⟨ws,.inl b⟩
theorem xN {o e:Expr}{apos cpos:Pos}{m a:FE}(I:X.A.units+64<Nt)(ho:XE X o m)(he:XE X e a)(hm:M1 X o "get" apos e cpos:=by exact⟨O,O,O,O⟩):XE X (.Call (.Attribute o "get" apos) [e] [] cpos) (AO m a):=
 ⟨ff (Ai (by lia) ho.h he.h hm) <| by
  rintro σ H Q ⟨r,mu,S,d,G,he,D,hm,hc⟩;obtain⟨⟨s,j⟩,q,hm⟩:=Py hm;refine⟨r,mu,S,s,j,he,D,q,λam H1 mu1 i w p=>?_⟩;dsimp only at hm;split at hm
  ·rename_i n;split at hm
   ·rename_i x h;cases w with
    |ref l=>
     refine⟨_,O,Bc p l h,?_⟩;obtain⟨⟨y,u⟩,t,hm⟩:=Py hm;refine⟨r,mu1,j,y,u,he.ext i,p,t,λK H2 b c r2 f=>?_⟩;dsimp only at hm;split at hm
     ·rename_i kvs C;obtain⟨k,A,hm⟩:=Pz hm;cases hm;obtain⟨E,g,h1,h2,_⟩:=oG f (c.at l) C (kn r2 A);refine⟨E,g,?_⟩;cases e:eg kvs k with
      |none=>rw[h2 e];rw[e]at hc;exact hc _ H2 b (i.trans c) .non f
      |some z=>obtain⟨v,B,F⟩:=h1 z e;subst B;rw[e]at hc;exact hc _ H2 b (i.trans c) F f
     ·cases hm
   ·cases hm
  ·cases hm⟩
section
variable{K:Fg1}{H H':Hp}{mu mu':List dP}{S:d7}
end
theorem Al{P:dQ}{w:dS}{K:Fg1}{mg:Str->Option dM}{base:dZ}{x a:Str}{st:d3}{f:dP}{fd:d2}{ps:List Str}{k n:Nat}(F:xI K x a st f fd)(hb:j9 K fd ps [])(hm:mg x=Z (.ref f)):Own P w K mg base k x n (λ_ _=>Y):=by
 have c:∀vs H Q E,¬ spM K n (λ_ _=>Y) vs H Q E:=λvs H Q E h=>by
  obtain⟨_,mu,S,ds,d,j,_,_,e,_⟩:=h;cases e
 exact⟨f,fd,ps,⟨λvs H Q E h=>absurd h (c vs H Q E),λA b s H g i vs Q E _ _ _ _ h=>absurd h (c vs H Q E)⟩,hb,F.kp,hm⟩
theorem lh{X:Cx}(i j:Nat){x y:Str}{a b:Expr}{m:FA}{l k pt pos:Pos}{kt k2 pt2}(hc:X.calm=true)(hN:X.N.Nodup)(hi:X.N[i]? = some x)(q:X.N[j]? = some y)(n:i≠j)(hx:X.env.scope.names.lookup x=some .local)(hy:X.env.scope.names.lookup y=some .local)(ha:XA X [a,b] m)(hw:autoParam (M8 [.Tuple [.Name x l,.Name y k] kt pt] (.Tuple [a,b] k2 pt2) X.env=pure (some [x,y])) cu0)(hs:autoParam (M7 [.Tuple [.Name x l,.Name y k] kt pt] (.Tuple [a,b] k2 pt2) pos.line X.env=pure false) cu0):
  XS X (.Assign [.Tuple [.Name x l,.Name y k] kt pt] (.Tuple [a,b] k2 pt2) pos) (eG (fw m) (gT 2 (fO (gN i) (fO (gN j) jm)))):=
 ⟨ij (FL hc hN hi q n hx hy ha.h hw hs) <| by
  rintro E σ H ⟨r,mu,S,f,C,w,o,hs,h,hc⟩;obtain⟨⟨d,A⟩,e,h⟩:=Py h;obtain⟨⟨r2,z⟩,c,h⟩:=Py h;cases h;obtain⟨⟨ds,B⟩,s,e⟩:=Py e;dsimp only at e;split at e
  ·cases e;refine⟨r,mu,S,ds,_,o,hs,s,λvs H1 mu1 p g v=>?_⟩;dsimp only at c;rw[gT]at c;split at c
   ·cases g with
    |nil=>cases c
    |cons t g=>cases g with
     |nil=>cases c
     |cons u g=>cases g with
      |nil=>
       cases c;exact⟨_,_,O,hc _ H1 mu1 p (((o.ext p).set t).set u) v⟩
      |cons _ _=>cases c
   ·cases c
  ·cases e⟩
noncomputable def Br:G2:=λd e S=>match d,e with
 | .int i,.int j=>Z (.int (i+j),S)
 |_,_=>Y
theorem DT{X:Cx}:Kf X .Add (r2 X.K (b2 Br)):=by
 intro ag s σ H x y v u Q I k f h;obtain⟨mu,S,d,e,r,l,g,b,c,a,hc⟩:=uY h;unfold Br at a;split at a
 ·rename_i i j;cases a;cases g;cases b;exact DU ag s σ H _ _ v u Q I k f ⟨i,j,O,O,hc.now (.int _) c⟩
 ·cases a
end Mi
namespace HT
open PySem PySem.Spec PyProof.Rows
variable{prog:dQ}{w:dS}{A:dR}{E:dM->dN->Prop}{s:dN}
theorem kA{t c:dP}{items:Array dM}{g f:dM}{lo hi:Option Int}{Q:dM->dN->Prop}(ht:MD s.heap t items)(hs:s.heap.IsSliceOf c g f .none)(pl:NK g lo)(i:NK f hi)(hw:sIx items.size 0 lo=0/\sIx items.size items.size hi=items.size)(h:Q (.ref t) s):dX (MN prog w) A (getItem (.ref t) (.ref c)) Q E s:=by
 obtain⟨j,b,d,k⟩:=id hs;have e:s.TypeIs (.ref c) "slice":=⟨j,b,d⟩;unfold getItem
 try with_reducible refine M5 ?_
 first|refine wB1 (wP1 ?_)|skip
 refine wB1 (wpAny_sequenceKey ht.typeIs (by decide) ?_);refine wB1 (NM (name:=NN "__getitem__") ht.typeIs NO
  (wE1 NO ht.typeIs entry_tuple_getitem ?_ (args_tuple_getitem _ _)))
 show dX _ _ (NP (.ref t) >>= _) _ _ s;refine wB1 (tupleItemsOf_ ht ?_);refine wB1 (NQ e ?_);rw[ak (by decide)];refine wB1 (iQ hs pl i ?_);have a:((((sIx items.size 0 lo:Nat):Int) == 0&&(1:Int) == 1&&(sIx items.size items.size hi-sIx items.size 0 lo) == items.size)=M):=by
  rw[hw.1,hw.2];simp
 show dX _ _ (if(((sIx items.size 0 lo:Nat):Int) == 0&&(1:Int) == 1&&(sIx items.size items.size hi-sIx items.size 0 lo) == items.size)=M then _ else _) _ _ s;rw[ak a];refine wB1 ?_;unfold Builtin.Tuple.tupleIsExact;refine wB1 (NQ ht.typeIs (wP1 ?_));rw[ak (by decide)]
 first
  |exact wB1 (M9 (wP1 ⟨_,rfl,wP1 h⟩))
  |exact wB1 (M9 (wB1 (wP1 ⟨_,rfl,wP1 h⟩)))
end HT
namespace Mi
open PySem PySem.Spec PyProof.Rows L2
def KC(K:Fg1):V->Option Int->Option Int->Hp->VK->Prop:=λx lo hi H Q=>∃a xs,x = .ref a/\kC K H a xs/\(HT.sIx xs.length 0 lo=0/\HT.sIx xs.length xs.length hi=xs.length)/\Q (.ref a) H
variable{X:Cx}
theorem Cv:B5 X (KC X.K):=by
 intro ag s σ H x v l k lo hi m Q I j g pl e h;obtain⟨a,xs,rfl,i,f,q⟩:=h;cases j;obtain⟨c,r,d,n⟩:=I.tuple i;have b:c.toArray.size=xs.length:=by rw[sT1];exact r.length.symm
 refine⟨"tuple",_,PyProof.Rows.slot_tuple_getitem.lookup,d.typeIs,?_⟩;exact HT.kA d g pl e (by rw[b];exact f) ⟨.ref a,H,I,O,q⟩
def vm(S:d7)(d:D)(lo hi:Option Int):Option (D×d7):=(ei S d).map λp=>if p.1=M then(.ref S.length,S++[.lst (Mi.pM p.2 lo hi)])else(.tup (Mi.pM p.2 lo hi),S)
def oC(m:FE)(lo hi:FO):FE:=λr S=>(m r S).bind λp=>(lo r p.2).bind λa=>(hi r a.2).bind λb=>vm b.2 p.1 a.1 b.1
theorem yF{xs:List D}{lo hi:Option Int}(h:HT.sIx xs.length 0 lo=0/\HT.sIx xs.length xs.length hi=xs.length):Mi.pM xs lo hi=xs:=by
 unfold Mi.pM;rw[h.1,h.2,bZ,Nat.sub_zero,b4]
theorem i3{e:Expr}{lo hi:Option Expr}{m:FE}{a b:FO}{pos p2:Pos}(h:XE X e m)(L:XO X lo a)(au:XO X hi b):XE X (.Subscript e (.Slice lo hi Y p2) pos) (oC m a b):=
 ⟨ff (Af (B5.or Cv (B5.or Fj Cw)) h.h L.h au.h) <| by
  rintro σ H Q ⟨r,mu,S,d,P,s,ao,f,hc⟩;obtain⟨⟨D,A⟩,C,f⟩:=Py f;obtain⟨⟨l,z⟩,E,f⟩:=Py f;obtain⟨⟨n,am⟩,G,f⟩:=Py f;refine⟨r,mu,S,D,A,s,ao,C,λv H1 mu1 y I N=>?_⟩;refine⟨r,mu1,A,l,z,s.ext y,N,E,λH2 w o F=>?_⟩;refine⟨r,w,z,n,am,(s.ext y).ext o,F,G,λR g B j=>?_⟩;obtain⟨⟨k,xs⟩,K,f⟩:=Pz f;have x:=(y.trans o).trans B;obtain⟨c,vs,rfl,q,t⟩:=er ((I.ext o).ext B) j K;cases k with
  |true=>
   cases f;right;right;exact⟨c,vs,O,q,λp i=>hc _ _ (g++[p]) (x.trans (Ext.new_ i)) (.ref (gz j.len p)) (j.newL (xr t l n) i)⟩
  |false=>
   simp only[bF1,NH]at f;cases f;by_cases u:HT.sIx xs.length 0 l=0/\HT.sIx xs.length xs.length n=xs.length
   ·left;rw[yF u]at hc;exact⟨c,vs,O,q,by rw[<- t.length];exact u,hc _ _ g x (.tup q t) j⟩
   ·right;left;exact⟨c,vs,O,q,by rw[<- t.length];exact u,λp i=>hc _ _ g (x.trans (Ext.fresh i)) (.tup (kC.of eJ) ((xr t l n).ext (Ext.fresh i))) (j.fresh i)⟩⟩
mutual
inductive iB (h:dZ):TK->dM->Prop
 |non:iB h .non .none
 |int (i t):iB h (.int i) (.int i t)
 |tup {a o items n xs}:h.get? a=some o->o.cls = .type "tuple"->o.data = .seq items n->gJ h xs items.toList->iB h (.tup xs) (.ref a)
inductive gJ (h:dZ):List TK->List dM->Prop
 |nil:gJ h [] []
 |cons {k v ks vs}:iB h k v->gJ h ks vs->gJ h (k::ks) (v::vs)
end
section
variable{prog:dQ}{w:dS}{A:dR}{E:dM->dN->Prop}{s:dN}
theorem tG{Q:Int->dN->Prop}(h:Q 0xFCA86420 {s with toks:=s.toks+1}):dX (MN prog w) A (pyHash .none) Q E s:=by
 have a:s.TypeIs .none "NoneType":=rfl;unfold pyHash
 first|unfold pyHashByItsType|skip
 have b:[ab].any Value.onHeap=J:=rfl;refine wB1 ?_;rw[cRoomFor,aj (by rw[b];exact aL)];refine wP1 ?_;refine wB1 (OH a F.slot_NoneType_hash.lookup ?_);show dX _ _ (if(Z (Value.builtin "NoneType.__hash__") == Z ab)=M then _ else _) Q E s;rw[aj (by rw[beq_builtin_none];exact aL)];refine wB1 (OH a F.slot_NoneType_hash.lookup ?_);show dX _ _ (callSpecialIfBoundUnlessNone? .none "__hash__" _ >>= _) Q E s;refine wB1 (OI a F.slot_NoneType_hash (wE1 F.slot_NoneType_hash a F.entry_NoneType_hash (show dX _ _ (retInt 0xFCA86420) _ _ s from wpAny_ret_mkInt ?_) (F.args_NoneType_hash_1 _)));exact wP1 h
def sK(prog:dQ)(w:dS)(k:TK):Prop:=∀{A:dR} {E:dM->dN->Prop} {s:dN} {v:dM} {Q:Int->dN->Prop},A.units+k.dep<Nt->iB s.heap k v->Q k.hash {s with toks:=s.toks+k.draws}->dX (MN prog w) A (pyHash v) Q E s
theorem gJ.split{h:dZ}:∀{ks:List TK} {vs:List dM},gJ h ks vs->ks.length=vs.length:=λa=>a.rec (motive_1:=λ_ _ _=>True) (motive_2:=λks vs _=>ks.length=vs.length) trivial (λ_ _=>trivial) (λ_ _ _ _ _=>trivial) O (λ_ _ _ ih=>congrArg (· + 1) ih)
theorem Bl{xs:List TK}(all:∀k∈xs,sK prog w k):sK prog w (.tup xs):=by
 intro A E s v Q t r h;cases r with
 | @tup a o m n _ p hc u hi=>
  have j:s.TypeIs (.ref a) "tuple":=⟨o,p,hc⟩;rw[TK.dep]at t;unfold pyHash
  first|unfold pyHashByItsType|skip
  first|refine wB1 (wpAny_cRoomFor_or (.inr (by lia)) ?_)|skip
  refine wB1 (OH j F.slot_tuple_hash.lookup ?_);show dX _ _ (if(Z (Value.builtin "tuple.__hash__") == Z ab)=M then _ else _) Q E s;rw[aj (by rw[beq_builtin_none];exact aL)];refine wB1 (OH j F.slot_tuple_hash.lookup ?_);show dX _ _ (callSpecialIfBoundUnlessNone? (.ref a) "__hash__" _ >>= _) Q E s;refine wB1 (OI j F.slot_tuple_hash (wE1 F.slot_tuple_hash j F.entry_tuple_hash ?_ (F.args_tuple_hash_1 _)));show dX _ _ (NP (.ref a) >>= _) _ _ s;refine wB1 (wpAny_tupleItemsOf p u ?_);refine wB1 ?_;rw[<- Array.forIn_toList];refine OC _
   (λrest (b:Array Int) s'=>∃done c,xs=done++c/\gJ s.heap c rest/\b.toList=TK.hashes done/\s'={s with toks:=s.toks+TK.drawsAll done})
   _ ?_ ?_ _ _ ⟨[],xs,O,hi,O,O⟩
  ·rintro x rest b s' ⟨done,c,e,l,i,rfl⟩;cases l with
   | @cons k _ d _ h1 f=>
    have q:k∈xs:=by rw[e];simp
    refine wB1 (all k q (show A.in1.units+k.dep<Nt by have:=TK.dep_mem q;rw[show A.in1.units=A.units+1 from rfl];lia) h1 ?_)
    first
     |exact wP1 ⟨done++[k],d,by simp[e],f,by rw[TK.hashes_app];simp[i,TK.hashes],by rw[TK.draws_app];simp[TK.drawsAll,bn]⟩
     |exact wB1 (wP1 (wP1 ⟨done++[k],d,by simp[e],f,by rw[TK.hashes_app];simp[i,TK.hashes],by rw[TK.draws_app];simp[TK.drawsAll,bn]⟩))
  ·rintro b s' ⟨done,c,e,l,i,rfl⟩;cases l;rw[aP]at e;subst e;show dX _ _ (retInt (N6 b.toList)) _ _ _;rw[i];refine wpAny_ret_mkInt ?_;show dX _ _ (if(decide (-(2:Int)^63<=N6 (TK.hashes xs))&&decide (N6 (TK.hashes xs)<2^63))=M then _ else _) Q E _;rw[TK.hash,TK.draws]at h;unfold reduceHash at h;by_cases g:(decide (-(2:Int)^63<=N6 (TK.hashes xs))&&decide (N6 (TK.hashes xs)<2^63))=M
   ·rw[ak g];rw[ak g]at h;exact wP1 (by simpa[bn]using h)
   ·rw[aj g];rw[aj g]at h;exact wB1 (M9 (wP1 (by simpa[bn]using h)))
mutual
theorem w8:∀k:TK,sK prog w k
 | .non=>λb a h=>by cases a;exact tG h
 | .int i=>λb a h=>by cases a;exact wpAny_pyHash_int h
 | .tup xs=>Bl (uo xs)
theorem uo:∀ks:List TK,∀k∈ks,sK prog w k
 |[],k,h=>by simp at h
 |x::xs,k,h=>by
  by_cases e:k=x
  ·rw[e];exact w8 x
  ·exact uo xs k ((aF.mp h).resolve_left e)
end
end
theorem iB.inj{h:dZ}:∀ {k k':TK} {v:dM},iB h k v->iB h k' v->k=k':=fun f=>f.rec (motive_1:=fun k v _=>∀ k',iB h k' v->k=k') (motive_2:=fun k v _=>∀ k',gJ h k' v->k=k')
  (λk' g=>by cases g;rfl) (λ_ _ k' g=>by cases g;rfl)
  (λe n j m ih k' g=>by
   cases g with
   |tup d l c i=>
    rw[e]at d;cases d;rw[j]at c;cases c;rw[ih _ i])
  (λk' g=>by cases g;rfl) (λ_ _ a b k' g=>by cases g with|cons r' t'=>rw[a _ r',b _ t']) _
theorem gJ.inj{h:dZ}:∀ {k k':List TK} {v:List dM},gJ h k v->gJ h k' v->k=k':=fun c=>c.rec (motive_1:=fun _ _ _=>True) (motive_2:=fun k v _=>∀ k',gJ h k' v->k=k') trivial (fun _ _=>trivial) (fun _ _ _ _ _=>trivial)
  (λk' g=>by cases g;rfl) (λa _ _ b k' g=>by cases g with|cons r' t'=>rw[iB.inj a r',b _ t']) _
theorem iB.keeps{h h':dZ}{d:dP}{o:Obj}{es ep}(ho:h.get? d=some o)(hd:o.data = .dict es ep)(hs:MM d h h'):∀ {k:TK} {v:dM},iB h k v->iB h' k v:=fun f=>f.rec (motive_1:=fun k v _=>iB h' k v) (motive_2:=fun k v _=>gJ h' k v) .non .int
  (λ{a} _ _ _ _ c g e _ ih=>.tup ((hs.2 a (λz=>by subst z;rw[c]at ho;cases ho;rw[e]at hd;cases hd)).trans c) g e ih) .nil (λ_ _ a b=>.cons a b)
theorem gJ.at{h:dZ}:∀{ks:List TK} {vs:List dM} (j:Nat) (h1:j<ks.length) (h2:j<vs.length),gJ h ks vs->iB h ks[j] vs[j]
 |_::_,_::_,0,_,_,.cons r _=>r
 |_::ks,_::vs,j+1,h1,h2,.cons _ t=>gJ.at j (by simpa using h1) (by simpa using h2) t
theorem BR{xs ys:List TK}(b:xs.length=ys.length):((af (min xs.length ys.length)).all λj=>decide (xs[j]?=ys[j]?))=decide (xs=ys):=by
 by_cases h:xs=ys
 ·subst h;simp
 ·rw[ai h,List.all_eq_false];have:∃j,xs[j]? ≠ ys[j]?:=OJ λz=>h (b5 λj=>OJ λq=>z ⟨j,q⟩);obtain⟨j,a⟩:=this;refine⟨j,?_,by simpa using a⟩;rw[aB,b,Nat.min_self];apply OJ;intro c;exact a (by rw[b6 (by lia),b6 (by lia)])
theorem Jr:∀(n:Nat) {k k':TK} {A:dR} {s:dN} {u v:dM},k.dep<=n->A.units+n<Nt->iB s.heap k u->iB s.heap k' v->NV A s u v (decide (k=k')):=by
 intro n
 induction n with
 |zero=>
  intro k k' A s u v D Q r g;cases r with
  |tup _ _ _ _=>simp[TK.dep]at D
  |non=>
   cases g with
   |non=>simpa using SeqAt.EqAt.same (A:=A) (s:=s) ab
   |int i t=>simpa[uZ]using k8 (A:=A) (s:=s) (y:=.non) (x:=.int i) O ⟨t,O⟩ O O
   |tup e c d t=>simpa using(fG (A:=A) (s:=s) (b:=J) (v:=.non) (u:=.none) ⟨_,e,c,_,d⟩ O O (by lia)).2.1
  |int i t=>
   cases g with
   |non=>simpa[uZ]using k8 (A:=A) (s:=s) (y:=.int i) (x:=.non) ⟨t,O⟩ O O O
   |int j C=>
    have:=k8 (A:=A) (s:=s) (y:=.int i) (x:=.int j) ⟨t,O⟩ ⟨C,O⟩ O O;have e:uZ (.int i) (.int j)=decide (TK.int i=TK.int j):=by
     by_cases h:i=j
     ·subst h;simp[uZ]
     ·rw[ai (λz=>h (by injection z))];simp[uZ,h]
    rw[e]at this;exact this
   |tup e c d q=>simpa using(fG (A:=A) (s:=s) (b:=J) (v:=.int i) (u:=.int i t) ⟨_,e,c,_,d⟩ ⟨t,O⟩ O (by lia)).2.1
 |succ n ih=>
  intro k k' A s u v D Q r g;cases r with
  |non=>
   cases g with
   |non=>simpa using SeqAt.EqAt.same (A:=A) (s:=s) ab
   |int i t=>simpa[uZ]using k8 (A:=A) (s:=s) (y:=.non) (x:=.int i) O ⟨t,O⟩ O O
   |tup e c d t=>simpa using(fG (A:=A) (s:=s) (b:=J) (v:=.non) (u:=.none) ⟨_,e,c,_,d⟩ O O (by lia)).2.1
  |int i t=>
   cases g with
   |non=>simpa[uZ]using k8 (A:=A) (s:=s) (y:=.int i) (x:=.non) ⟨t,O⟩ O O O
   |int j C=>
    have:=k8 (A:=A) (s:=s) (y:=.int i) (x:=.int j) ⟨t,O⟩ ⟨C,O⟩ O O;have e:uZ (.int i) (.int j)=decide (TK.int i=TK.int j):=by
     by_cases h:i=j
     ·subst h;simp[uZ]
     ·rw[ai (λz=>h (by injection z))];simp[uZ,h]
    rw[e]at this;exact this
   |tup e c d q=>simpa using(fG (A:=A) (s:=s) (b:=J) (v:=.int i) (u:=.int i t) ⟨_,e,c,_,d⟩ ⟨t,O⟩ O (by lia)).2.1
  | @tup a o f m xs l w p H=>
   cases g with
   |non=>simpa using(fG (A:=A) (s:=s) (b:=J) (v:=.non) (u:=.none) ⟨_,l,w,_,p⟩ O O (by lia)).1
   |int i t=>simpa using(fG (A:=A) (s:=s) (b:=J) (v:=.int i) (u:=.int i t) ⟨_,l,w,_,p⟩ ⟨t,O⟩ O (by lia)).1
   | @tup a2 U items2 m2 ys ao am au G=>
    by_cases P:a=a2
    ·subst P;have:TK.tup xs=TK.tup ys:=iB.inj (.tup l w p H) (.tup ao am au G);rw[ah this];exact .same _
    ·refine .of_refs P ?_;have K:=H.split;have N:=G.split;have E:=SeqAt.RcAt.tuples (A:=A) (s:=s) (e:=fun j=>decide (xs[j]? = ys[j]?)) ⟨o,l,w,m,p⟩ ⟨U,ao,am,m2,au⟩ (by lia) (fun j h1 h2=>by
      have F:j<xs.length:=by rw[K];simpa using h1
      have L:j<ys.length:=by rw[N];simpa using h2
      rw[TK.dep]at D;have V:=TK.dep_mem (bV F);have q:=ih (k:=xs[j]) (k':=ys[j]) (A:=A.in1) (s:=s) (by lia) (by show A.units+1+n<Nt;lia) (H.at j F (by simpa using h1)) (G.at j L (by simpa using h2));have e:decide (xs[j]?=ys[j]?)=decide (xs[j]=ys[j]):=by
       rw[gG1 F,gG1 L];simp
      rw[e];simpa using q)
     have S:f.size=xs.length:=by rw[K];simp
     have T:items2.size=ys.length:=by rw[N];simp
     rw[S,T]at E;have I:((af (min xs.length ys.length)).all (λj=>decide (xs[j]?=ys[j]?))&&xs.length == ys.length)=decide (TK.tup xs=TK.tup ys):=by
      by_cases B:xs.length=ys.length
      ·rw[BR B,B,Oz,bP];by_cases h:xs=ys
       ·subst h;simp
       ·rw[ai h,ai (λz=>h (by injection z))]
      ·have R:(xs.length == ys.length)=J:=by simpa using B
       rw[R,Bool.and_false,ai (λz=>B (by injection z with z;rw[z]))]
     rw[I]at E;exact E
theorem zP{prog:dQ}{w:dS}:∀(n:Nat) {k:TK} {A:dR} {E:dM->dN->Prop} {s:dN} {v:dM} {Q:Bool->dN->Prop},k.dep<=n->iB s.heap k v->Q M s->dX (MN prog w) A (eqIsQuiet n v) Q E s:=by
 intro n
 induction n with
 |zero=>
  intro k A E s v Q d r h;cases r with
  |non=>rw[OK 0 O];exact wP1 h
  |int i t=>rw[OK 0 O];exact wP1 h
  |tup _ _ _ _=>simp[TK.dep]at d
 |succ n ih=>
  intro k A E s v Q d r h;cases r with
  |non=>rw[OK _ O];exact wP1 h
  |int i t=>rw[OK _ O];exact wP1 h
  | @tup a o b m xs f u z q=>
   have g:s.TypeIs (.ref a) "tuple":=⟨o,f,u⟩;rw[TK.dep]at d;unfold eqIsQuiet;refine wB1 (OH g F.slot_tuple_eq.lookup ?_);show dX _ _ (isInstance (.ref a) (.type "tuple") >>= _) _ _ s;refine wB1 (Os g isSubtype_tuple_tuple ?_);simp only[b7,bF1,NH];refine wB1 (Oh f z ?_);refine wB1 ?_;show dX _ _ (forIn b _ _) _ _ s;rw[<- Array.forIn_toList];refine OC _ (λrest r s'=>r.1=Y/\s'=s /\ ∃ks,gJ s.heap ks rest/\TK.depAll ks<=n) _ ?_ ?_ _ _ ⟨O,O,xs,q,by lia⟩
   ·rintro v rest r s' ⟨e,rfl,ks,p,x⟩;cases p with
    | @cons l _ c _ j y=>
     rw[TK.depAll]at x;refine wB1 (ih (k:=l) (by lia) j ?_);simp only[b7,bF1,NH];exact wP1 ⟨O,O,c,y,by lia⟩
   ·rintro⟨B,r2⟩ s' ⟨e,rfl,_⟩;simp only at e;subst e;exact wP1 h
noncomputable def jv(prog:dQ)(w:dS):HeapKind prog w TK where
 is:=λh k a=>iB h k (.ref a)/\k.dep<=8
 hash:=TK.hash
 draws:=TK.draws
 room:=λA=>A.units+8<Nt
 inj:=λhx hy=>hx.1.inj hy.1
 keeps:=λx ho hd hs=>⟨x.1.keeps ho hd hs,x.2⟩
 pyHash:=λhu hk h=>w8 _ (by have:=hk.2;omega) hk.1 h
 eqBool:=λhu hx hy h=>Jr 8 hx.2 hu hx.1 hy.1 _ _ _ _ h
 quiet:=λhk h=>zP 8 hk.2 hk.1 h
noncomputable def Md:G2:=λo v S=>match o,v with
 | .ref n,.ref b=>match S[n]?,S[b]? with
  |some (.lst xs),Z (.lst ys)=>if xs.length+ys.length<=dW then Z (.non,S.set n (.lst (xs++ys)))else Y
  |_,_=>Y
 |_,_=>Y
noncomputable def I9(n:Nat)(k:Int):Nat:=if k<0 then(k+(n:Int)).toNat else min k.toNat n
def Mb:G3:=λo i v S=>match o,i with
 | .ref n,.int k=>match S[n]? with
  |some (.lst xs)=>if-(2^63)<=k/\k<2^63/\xs.length<dW then Z (.non,S.set n (.lst (xs.take (I9 xs.length k)++v::xs.drop (I9 xs.length k))))else Y
  |_=>Y
 |_,_=>Y
noncomputable def yA(f:D->D->Option Bool)(x:D):List D->Option (List Bool)
 |[]=>Z []
 |y::ys=>(f y x).bind λb=>(yA f x ys).map (b :: ·)
def Bq:G2:=λo x S=>match o with
 | .ref n=>match S[n]? with
  |some (.lst ys)=>(yA (hH S eL) x ys).bind λbs=>if bs.length<2^62 then(bs.findIdx? id).map λj=>(.int (j:Nat),S)else Y
  |_=>Y
 |_=>Y
theorem xl(f:D->D->Option Bool)(x:D):∀{ys:List D} {bs:List Bool},yA f x ys=Z bs->bs.length=ys.length /\ ∀(j:Nat) (y:D) (k:Bool),ys[j]?=Z y->bs[j]?=Z k->f y x=Z k
 |[],bs,h=>by cases h;exact⟨O,λj y k h=>by simp at h⟩
 |y::ys,bs,h=>by
  rw[yA]at h;obtain⟨b,c,h⟩:=Py h;obtain⟨bt,e,h⟩:=Pz h;obtain⟨d,a1⟩:=xl f x e;subst h;refine⟨by simp[d],λj=>?_⟩;cases j with
  |zero=>intro a k h1 h2;simp at h1 h2;subst h1;subst h2;exact c
  |succ j=>intro a k h1 h2;exact a1 j a k (by simpa using h1) (by simpa using h2)
section
open PySem.MeetsSeq PySem.MeetsSeq2 PySem.MeetsSeq3 PySem.SeqRoads2
theorem um{l:dP}{its:Array dM}{n:Nat}{x:dM}{e:Nat->Bool}{top:Int}{j:Nat}(f:j<its.size)(ht:(j:Int)<top)(c:e j=true):∀ (k i:Nat),i+k=j->(∀ m,i<=m->m<j->e m=false) ->
  Meets (Builtin.«list.index.loop» ⟨[.ref l,x,Ng i,Ng top],[]⟩)
   (λA R s=>s.heap.get? l=Z {cls:=.type "list",data:=.seq its n}/\(∀m (h:m<its.size),NV A.in1 s its[m] x (e m))/\R (.ok (.ret (.int j s.toks))) {s with toks:=s.toks+1})
 |0,i,hk,hno,prog,w,A,R,⟨hp,g,d,tk,os⟩,⟨hl,he,h⟩=>by
  have o:i=j:=by lia
  subst o
  wp_walk using OL hl
  rw[show(if(i:Int)<top then its[((i:Nat):Int).toNat]? else Y)=Z its[i] by simp[ht,f]];refine wB1 (he i f prog w _ _ ?_);rw[c]
  wp_walk
  exact h
 |k+1,i,hk,hno,prog,w,A,R,⟨hp,g,d,tk,os⟩,⟨hl,he,h⟩=>by
  have h1:i<its.size:=by lia
  have h2:(i:Int)<top:=by lia
  wp_walk using OL hl
  rw[show(if(i:Int)<top then its[((i:Nat):Int).toNat]? else Y)=Z its[i] by simp[h1,h2]];refine wB1 (he i h1 prog w _ _ ?_);rw[hno i (nR1 i) (by lia)]
  wp_walk
  rw[show((i:Int)+1)=((i+1:Nat):Int) by push_cast;rfl];have z:=um (l:=l) (n:=n) (x:=x) f ht c k (i+1) (by lia) (λm a b=>hno m (by lia) b) prog w A R _ ⟨hl,he,h⟩;exact⟨OD OM _,wD1 entry_index_loop (by rw[OE OM _];exact z)⟩
theorem Bj{l:dP}{its:Array dM}{n:Nat}{x:dM}{e:Nat->Bool}{j:Nat}(k:j<its.size)(ht:(j:Int)<2^63-1)(c:e j=true)(a:∀ m,m<j->e m=false):
  Meets (Builtin.«list.index» ⟨[.ref l,x],[]⟩)
   (λA R s=>s.heap.get? l=Z {cls:=.type "list",data:=.seq its n}/\(∀m (h:m<its.size),NV A.in1 s its[m] x (e m))/\R (.ok (.ret (.int j s.toks))) {s with toks:=s.toks+1}):=by
 intro prog w A R ⟨p,g,d,tk,q⟩ ⟨f,o,h⟩
 wp_walk using OL f
 rw[show((λi:Int=>if i<0 then max 0 (i+(its.size:Int))else i) ((Y:Option Int).getD 0))=((0:Nat):Int) by simp,show((λi:Int=>if i<0 then max 0 (i+(its.size:Int))else i) ((Y:Option Int).getD (2^63-1)))=2^63-1 by simp];have z:=um (l:=l) (n:=n) (x:=x) k ht c j 0 (by lia) (λm _ b=>a m b) prog w A R _ ⟨f,o,h⟩;exact⟨OD OM _,wD1 entry_index_loop (by rw[OE OM _];exact z)⟩
end
theorem HU(wq:X.A.units+64<Nt):HI X "list.index" (λx xs H Q=>rN X.K (b2 Bq) (x::xs) H Q):=by
 intro ag s σ H x xs v us Q I T U h;obtain⟨x',y,mu,S,d,e,r',W,P,D,r2,o,a,hc⟩:=zN h;cases P;unfold Bq at a;split at a
 ·rename_i n;split at a
  ·rename_i ys au;obtain⟨bs,C,a⟩:=Py a;split at a
   ·rename_i r;obtain⟨j,q,a⟩:=Pz a;cases a;cases D with
    |ref B=>
     obtain⟨vs,am,t⟩:=o.lst au B;cases T;obtain⟨u,rfl,K⟩:=U.one;obtain⟨z,b,N,c,hl,e⟩:=I.lstM am;obtain⟨V,f⟩:=xl _ _ C;have aq:=t.length;have l3:=c.length;rw[b8]at q;obtain⟨w,k,l⟩:=q;have g:∀m (a:m<b.toArray.size),NV X.A.in1 s b.toArray[m] u (bs[m]?.getD J):=λm a=>by
      have m1:m<b.length:=by simpa using a
      obtain⟨ao,E,L⟩:=t.getV (i:=m) (v:=vs[m]'(by lia)) (gG1 (by lia));obtain⟨w',p,R⟩:=c.get (i:=m) (x:=vs[m]'(by lia)) (gG1 (by lia));have m2:m<bs.length:=by lia
      have G:b.toArray[m]=w':=by
       have:=gG1 m1;rw[this]at p;simpa using p
      rw[G,gG1 m2];exact(k7 I o eL (A:=X.A.in1) (by show X.A.units+1+60<Nt;lia) L r2 R K (f m ao bs[m] E (gG1 m2))).1
     refine call_meets F.slot_list_index ⟨_,e,O⟩ F.entry_list_index (F.args_list_index_2 _ _)
      (Bj (n:=N) (e:=λm=>bs[m]?.getD J) (j:=j) (by simp;lia) (by lia) ?_ ?_) ⟨e,g,?_⟩
     ·simp only[gG1 w,b9];simpa using k
     ·intro m a;have m2:m<bs.length:=by lia
      have:=l m a;simp only[gG1 m2,b9];simpa using this
     ·exact⟨.int j,H,I.tok _,⟨_,O⟩,hc.now (.int _) o⟩
   ·cases a
  ·cases a
 ·cases a
mutual
noncomputable def kD:D->Option TK
 | .non=>Z .non
 | .int i=>Z (.int i)
 | .tup xs=>(G8 xs).map .tup
 |_=>Y
noncomputable def G8:List D->Option (List TK)
 |[]=>Z []
 |x::xs=>(kD x).bind λk=>(G8 xs).map (k :: ·)
end
def kx:D->Option TK
 | .tup xs=>(G8 xs).bind λks=>if(TK.tup ks).dep<=8 then Z (.tup ks)else Y
 |_=>Y
mutual
theorem I3:∀{d:D} {k:TK},kD d=Z k->lz k=d
 | .non,k,h=>by cases h;rfl
 | .int i,k,h=>by cases h;rfl
 | .tup xs,k,h=>by
  rw[kD]at h;obtain⟨ks,e,h⟩:=Pz h;subst h;rw[lz,vJ e]
 | .bl _,k,h=>by simp[kD]at h
 | .str _,k,h=>by simp[kD]at h
 | .rol _,k,h=>by simp[kD]at h
 | .fn _,k,h=>by simp[kD]at h
 | .ref _,k,h=>by simp[kD]at h
theorem vJ:∀{ds:List D} {ks:List TK},G8 ds=Z ks->lw ks=ds
 |[],ks,h=>by cases h;rfl
 |x::xs,ks,h=>by
  rw[G8]at h;obtain⟨k,b,h⟩:=Py h;obtain⟨t,a,h⟩:=Pz h;subst h;rw[lw,I3 b,vJ a]
end
theorem wY{d:D}{k:TK}(h:kx d=Z k):lz k=d/\k.dep<=8 /\ ∃xs,k = .tup xs:=by
 cases d with
 |tup xs=>
  rw[kx]at h;obtain⟨ks,e,h⟩:=Py h;split at h
  ·rename_i a;cases h;exact⟨by rw[lz,vJ e],a,ks,O⟩
  ·cases h
 |_=>cases h
section
variable{ag:List (dP×Obj)}{σ:L2.St}{H:Hp}{s:dN}{mu:List dP}
mutual
theorem wt(I:Inv X ag σ H s):∀(k:TK) {v:V} {u:dM},fc X.K H mu (lz k) v->ew v u->iB s.heap k u
 | .non,v,u,r,q=>by
  rw[lz]at r;cases r;cases q;exact .non
 | .int i,v,u,r,q=>by
  rw[lz]at r;cases r;obtain⟨t,rfl⟩:=q;exact .int i t
 | .tup xs,v,u,r,q=>by
  rw[lz]at r;cases r with
  |tup h t=>
   cases q;obtain⟨c,e,⟨o,a,d,n,b⟩,_⟩:=I.tuple h;exact .tup a d b (by simpa using zn I xs t e)
theorem zn(I:Inv X ag σ H s):∀(ks:List TK) {vs:List V} {a:List dM},ej X.K H mu (lw ks) vs->eH vs a->gJ s.heap ks a
 |[],vs,a,r,q=>by rw[lw]at r;cases r;cases q;exact .nil
 |k::ks,vs,a,r,q=>by
  rw[lw]at r;cases r with
  |cons r t=>cases q with
   |cons q p=>exact .cons (wt I k r q) (zn I ks t p)
end
theorem vt{α β γ δ:Type}{F:α->β->Prop}{G:γ->δ->Prop}{f:α->γ}{g:β->δ}:∀{c:List α} {d:List β},Paired F c d->(∀a b,F a b->G (f a) (g b))->Paired G (c.map f) (d.map g):=by
 intro a b h g
 induction h with
 |nil=>exact .nil
 |cons r t ih=>exact .cons (g _ _ r) ih
theorem vv{α β:Type}{F:α->β->Prop}:∀{e j:List α} {i f:List β},Paired F e i->Paired F j f->Paired F (e++j) (i++f):=by
 intro a b c d h g
 induction h with
 |nil=>exact g
 |cons r t ih=>exact .cons r ih
theorem KT.length{K:Fg1}:∀{ks:List (TK×D)} {ws:List (TK×dP×dM)},KT K H mu ks ws->ks.length=ws.length:=λh=>Paired.length h
theorem KT.mem{K:Fg1}:∀{ks:List (TK×D)} {ws:List (TK×dP×dM)},KT K H mu ks ws -> ∀x∈ws,x.1.dep<=8/\fc K H mu (lz x.1) (.ref x.2.1):=by
 intro ks ws a x h
 induction a with
 |nil=>cases h
 |cons r t ih=>
  rcases aF.mp h with e|e
  ·subst e;rw[<- r.1];exact⟨r.2.1,r.2.2.1⟩
  ·exact ih e
theorem KT.look{K:Fg1}{k:TK}:∀ {ks:List (TK×D)} {ws:List (TK×dP×dM)},KT K H mu ks ws ->
  (∀d,eg ks k=Z d -> ∃p v,N3 ws k=Z p/\ew v p.2/\fc K H mu d v)/\(N3 ws k).isSome=(eg ks k).isSome:=by
 intro ks ws h
 induction h with
 |nil=>exact⟨λd h=>by simp[eg]at h,O⟩
 | @cons p g ks ws r t ih=>
  obtain⟨a,e⟩:=p;obtain⟨l,a2,c⟩:=g;obtain⟨z,d,q,v,f,r⟩:=r;dsimp only at z q f r;subst z;obtain⟨h1,h2⟩:=ih;by_cases b:a=k
  ·subst b;refine⟨λd h=>?_,by simp[N3,eg]⟩;have:e=d:=by simpa[eg]using h
   subst this;exact⟨(a2,c),v,by simp[N3],f,r⟩
  ·have i:eg ((a,e)::ks) k=eg ks k:=by simp[eg,bd,b]
   have j:N3 ((a,a2,c)::ws) k=N3 ws k:=by simp[N3,bd,b]
   rw[i,j];exact⟨h1,h2⟩
theorem KT.put{K:Fg1}{k:TK}{d:D}{v:V}{a:dP}{u:dM}(hk:k.dep<=8)(m:fc K H mu (lz k) (.ref a))(g:ew v u)(q:fc K H mu d v){ks:List (TK×D)}{ws:List (TK×dP×dM)}(h:KT K H mu ks ws):KT K H mu (fT ks k d) (storedH ws k a u):=by
 unfold fT storedH;have e:(ks.any λp=>decide (p.1=k))=(N3 ws k).isSome:=by
  rw[h.look.2];unfold eg;rw[bh,bT,List.find?_isSome,bU]
 rw[e];split
 ·clear e;refine vt h λp w ⟨z,f,i,j,c,l⟩=>?_;unfold putAt;by_cases b:p.1=k
  ·rw[ak b,ak (by rw[<- z];exact b)];exact⟨z,f,i,v,g,q⟩
  ·rw[aj b,aj (by rw[<- z];exact b)];exact⟨z,f,i,j,c,l⟩
 ·exact vv h (.cons ⟨O,hk,m,v,g,q⟩ .nil)
theorem BA(I:Inv X ag σ H s){a:dP}{xs:List (TK×dP×dM)}{kvs:List (TK×D)}(e:H a=Z (.ext (iM a xs)))(h:KT X.K H mu kvs xs):(a == MF)=J/\s.heap.DictOfH (jv X.prog X.w) a xs:=by
 obtain⟨⟨h1,h2,o,es,ep,c,d,f,g⟩,_⟩:=(show fb X.prog X.w H s.heap a (.ext (iM a xs))from I.hok a _ e);exact⟨h1,o,es,ep,c,d,f,g,λx b=>⟨wt I _ (h.mem x b).2 O,(h.mem x b).1⟩,h2⟩
theorem xi{h:dZ}{a:dP}{xs:List (TK×dP×dM)}(hd:(a == MF)=J)(hm:h.DictOfH (jv X.prog X.w) a xs):fb X.prog X.w H h a (.ext (iM a xs)):=by
 obtain⟨o,es,ep,d,g,j,l,p,f⟩:=hm;refine⟨⟨hd,f,o,es,ep,d,g,j,l⟩,⟨o,d⟩,λm n ⟨a1,a2,o',b,c,b3,e,i,k⟩ st=>⟨a1,a2,o',b,c,st _ b3,e,i,k⟩⟩
end
def Mc:G2:=λd e S=>match e with
 | .ref n=>match S[n]? with
  |some (.dcT kvs)=>(kx d).map λk=>(.bl (eg kvs k).isSome,S)
  |_=>Jl d e S
 |_=>Jl d e S
def fX:G2:=λd e S=>match e with
 | .ref n=>match S[n]? with
  |some (.dcT kvs)=>(kx d).map λk=>(.bl (!(eg kvs k).isSome),S)
  |_=>iI d e S
 |_=>iI d e S
def eA:G2:=λd e S=>match d with
 | .ref n=>match S[n]? with
  |some (.dcT kvs)=>(kx e).bind λk=>(eg kvs k).map λx=>(x,S)
  |some (.dcF kvs)=>(kx e).bind λk=>(eg kvs k).map λx=>(x,S)
  |_=>me d e S
 |_=>me d e S
def f0:G3:=λo i v S=>match o with
 | .ref n=>match S[n]? with
  |some (.dcT kvs)=>(kx i).bind λk=>if kvs.length<dW then Z (.non,S.set n (.dcT (fT kvs k v)))else Y
  |some (.dct [])=>match kx i with
   |some k=>Z (.non,S.set n (.dcT [(k,v)]))
   |none=>jl o i v S
  |_=>jl o i v S
 |_=>jl o i v S
theorem ub{κ:Type}[DecidableEq κ](kvs:List (κ×D))(k:κ)(d:D):(fT kvs k d).length<=kvs.length+1:=by
 unfold fT;split
 ·rw[lM1];lia
 ·simp
theorem uC{h:dZ}{a:dP}(f:h.DictOf (fe X.prog X.w) a []):h.DictOfH (jv X.prog X.w) a []:=by
 obtain⟨o,es,ep,h1,h2,d,_,b,_⟩:=f;have e:es.toList=[]:=by
  generalize es.toList=l at b;cases b;rfl
 exact⟨o,es,ep,h1,h2,d,e,(λx c=>by simp at c),bp⟩
theorem nK{A:dR}(a:A.units+64<Nt):(jv X.prog X.w).room A.in1:=by
 show A.units+1+8<Nt;lia
theorem r6{ag:List (dP×Obj)}{σ:L2.St}{H:Hp}{s:dN}{mu:List dP}(I:Inv X ag σ H s){d:D}{v:V}{u:dM}{k:TK}(r:fc X.K H mu d v)(q:ew v u)(h:kx d=some k):
  ∃a,u = .ref a/\v = .ref a/\fc X.K H mu (lz k) (.ref a)/\k.dep<=8/\(jv X.prog X.w).is s.heap k a:=by
 obtain⟨e,b,xs,ex⟩:=wY h;subst e;have is:=wt I k r q;subst ex;cases id is with
 | @tup a _ _ _ _ _ _ _ _=>
  rw[lz]at r;cases r with
  |tup h1 h2=>
   cases q;exact⟨a,O,O,by rw[lz];exact .tup h1 h2,b,is,b⟩
theorem lX(j:X.A.units+64<Nt):gI X (Nl .NotIn) (r2 X.K (b2 fX)):=by
 intro ag s σ H x y u w Q I o l h;obtain⟨mu,S,d,e,r,m,i,c,f,b,hc⟩:=uY h;have back:iI d e S=Z (r,m)->dX (MN X.prog X.w) X.A (Nl .NotIn u w) (EP X ag σ Q) X.xe s:=λb=>Ar j ag s σ H x y u w Q I o l ⟨mu,S,[d,e],r,m,.cons i (.cons c .nil),f,b,hc⟩;unfold fX at b;split at b
 ·rename_i n;split at b
  ·rename_i kvs A;obtain⟨k,t,b⟩:=Pz b;cases b;cases c with
   |ref z=>
    cases l;obtain⟨xs,v,g,_⟩:=f.dcT A z;obtain⟨q,p⟩:=BA I v g;obtain⟨a,rfl,rfl,_,_,hi⟩:=r6 I i o t;refine wpAny_notIn_heap (nK j) hi q p ?_;exact⟨.bl (!(N3 xs k).isSome),H,I.tok _,O,by rw[g.look.2];exact hc.now (.bl _) f⟩
  ·exact back b
 ·exact back b
theorem Hk{ag:List (dP×Obj)}{σ:L2.St}{H:Hp}{s:dN}{mu:List dP}(I:Inv X ag σ H s){a:dP}{xs:List (TK×dP×dM)}{kvs:List (TK×D)}(e:∃o u,H a=Z (.frz o u)/\B2 a xs o)(h:KT X.K H mu kvs xs):(a == MF)=J/\s.heap.DictOfH (jv X.prog X.w) a xs:=by
 obtain⟨o,u,e,h1,h2,d,es,ep,f,g⟩:=e;obtain⟨c,_⟩:=(show fb X.prog X.w H s.heap a (.frz o u)from I.hok a _ e);exact⟨h1,o,es,ep,c,d,f,g,λx b=>⟨wt I _ (h.mem x b).2 O,(h.mem x b).1⟩,h2⟩
theorem qP(am:X.A.units+64<Nt):EQ X (r2 X.K (b2 eA)):=by
 intro value c ag s σ H x y v u Q I E K h m;obtain⟨mu,S,d,e,r,w,A,o,t,f,hc⟩:=uY h;have back:me d e S=Z (r,w)->dX (MN X.prog X.w) X.A (NS value c v u) (EP X ag σ Q) X.xe s:=λf=>HP am value c ag s σ H x y v u Q I E K ⟨mu,S,[d,e],r,w,.cons A (.cons o .nil),t,f,hc⟩ m;have i:∀kvs a xs,v = .ref a->KT X.K H mu kvs xs->s.heap.DictOfH (jv X.prog X.w) a xs->((kx e).bind λk=>(eg kvs k).map λx=>(x,S))=Z (r,w)->dX (MN X.prog X.w) X.A (NS value c v u) (EP X ag σ Q) X.xe s:=λkvs a xs N j G f=>by
  obtain⟨k,ao,f⟩:=Py f;obtain⟨z,P,f⟩:=Pz f;cases f;subst N;obtain⟨b,rfl,rfl,_,_,hi⟩:=r6 I o K ao;obtain⟨p,L,ep,R,au⟩:=j.look.1 _ P;have F:=G.typeIs;unfold NS;refine wB1 ?_;rw[getitemInPython_of_ne F.not_modules];refine wB1 (OH F PySem.F.slot_dict_getitem.lookup ?_);have l:dX (MN X.prog X.w) X.A (subscripted c J (.ref a) (.ref b)) (λr g=>dX (MN X.prog X.w) X.A (letTemporaryGo value (.ref a) r >>= λ_=>pure r) (EP X ag σ Q) X.xe g) X.xe s:=by
   rw[m];exact wpAny_operating (MQ (wpAny_getItem_heap (nK am) hi G ep (show EP X ag σ Q p.2 _ from⟨L,H,I.tok _,R,hc.now au t⟩)) (λr g q=>wB1 (wpAny_letTemporaryGo (wP1 q))) λ_ _ x=>x)
  first
   |exact wP1 (wB1 l)
   |exact wB1 l
   |exact l
 unfold eA at f;split at f
 ·rename_i n;split at f
  ·rename_i kvs D;cases A with
   | @ref _ a C=>
    cases E;obtain⟨xs,B,j,_⟩:=t.dcT D C;exact i kvs a xs O j (BA I B j).2 f
  ·rename_i kvs D;cases A with
   | @ref _ a C=>
    cases E;obtain⟨xs,B,j,_⟩:=(show nv X.K H mu a (.dcF kvs)from t.ob n _ a D C);exact i kvs a xs O j (Hk I B j).2 f
  ·exact back f
 ·exact back f
theorem jB(D:X.A.units+64<Nt):wd X (rU X.K (b3 f0)):=by
 intro ag s σ H o i v T R u Q I ao A x h;obtain⟨mu,S,ds,d,N,W,m,a,hc⟩:=id h;cases W with
 |cons am wq=>cases wq with
  |cons L aq=>cases aq with
   |cons t V=>
    cases V;rename_i au P y;dsimp only[b3]at a;have back:jl au P y S=Z (d,N)->dX (MN X.prog X.w) X.A (setItem T R u) (λ_ s'=>∃H',Inv X ag σ H' s'/\Q H') X.xe s:=λa=>Fs D ag s σ H o i v T R u Q I ao A x ⟨mu,S,[au,P,y],d,N,.cons am (.cons L (.cons t .nil)),m,a,hc⟩;unfold f0 at a;split at a
    ·rename_i n;split at a
     ·rename_i kvs K;obtain⟨k,F,a⟩:=Py a;split at a
      ·rename_i hl;cases a;cases am with
       | @ref _ l f=>
        cases ao;obtain⟨xs,r,j,U⟩:=m.dcT K f;obtain⟨E,C⟩:=BA I r j;obtain⟨b,rfl,rfl,rk,p,hi⟩:=r6 I L A F;refine wpAny_setItem_heap (hsz:=U) (nK D) hi C λh' e c=>?_;have g:∃q,h'.get? _=Z q:=let ⟨q,_,_,g,_⟩:=e;⟨q,g⟩
        have put:Ext mu mu H (upd H l (.ext (iM l (storedH xs k b u)))):=Ext.put r trivial (gM1 f);refine⟨_,kq I (by rw[r];exact Nr) c g (xi E e),hc _ mu put (m.put f r trivial ⟨_,eJ,((j.put p rk x t).ext put),?_⟩)⟩;rw[<- (j.put p rk x t).length];have:=ub kvs k y;lia
      ·cases a
     ·rename_i K;split at a
      ·rename_i k F;cases a;cases am with
       | @ref _ l f=>
        cases ao;obtain⟨ws,w,j⟩:=m.dct K f;cases j;obtain⟨z,E,vs,B,C⟩:=xp I.hok w;cases B;obtain⟨b,rfl,rfl,rk,p,hi⟩:=r6 I L A F;have G:s.heap.DictOfH (jv X.prog X.w) _ []:=uC C;refine wpAny_setItem_heap (hsz:=bj _) (nK D) hi G λh' e c=>?_;have g:∃q,h'.get? _=Z q:=let ⟨q,_,_,g,_⟩:=e;⟨q,g⟩
        have put:Ext mu mu H (upd H l (.ext (iM l (storedH [] k b u)))):=Ext.put w trivial (gM1 f);exact⟨_,kq I (by rw[w];exact Nr) c g (xi E e),hc _ mu put (m.put f w trivial ⟨_,eJ,KT.ext put (.cons ⟨O,p,rk,v,x,t⟩ .nil),(show 1<=dW by decide)⟩)⟩
      ·exact back a
     ·exact back a
    ·exact back a
def mF(S:d7)(d:D):Option Bool:=match d with
 | .non=>Z J
 | .bl b=>Z b
 | .int i=>Z (i != 0)
 | .str y=>if y.length<=dW then Z ((y.length:Int) != 0)else Y
 | .ref n=>match S[n]? with
  |some (.dct kvs)=>Z (!kvs.isEmpty)
  |_=>(ei S d).map λp=> !p.2.isEmpty
 |_=>(ei S d).map λp=> !p.2.isEmpty
noncomputable def mTr (m:FE):FT:=λr S=>(m r S).bind λp=>(mF p.2 p.1).map λb=>(b,p.2)
section
variable{K:Fg1}{H:Hp}{mu:List dP}{S:d7}
theorem rm{d:D}{v:V}{b:Bool}(r:fc K H mu d v)(s:Sim K H mu S)(h:((ei S d).map λp=> !p.2.isEmpty)=Z b):Ei K v H b:=by
 obtain⟨⟨k,xs⟩,e,h⟩:=Pz h;obtain⟨a,vs,rfl,q,t⟩:=er r s e;have z:(!xs.isEmpty) = !vs.isEmpty:=by cases t<;>rfl
 dsimp only at h;rw[z]at h;cases k
 ·exact .inr (.inl ⟨vs,q,h.symm⟩)
 ·exact .inl ⟨vs,q,h.symm⟩
theorem E5{d:D}{v:V}{b:Bool}(r:fc K H mu d v)(s:Sim K H mu S)(h:mF S d=Z b):Ei K v H b:=by
 cases d with
 |non=>cases r;cases h;rfl
 |bl k=>cases r;cases h;rfl
 |int i=>cases r;cases h;rfl
 |str y=>
  rw[mF]at h;split at h
  ·rename_i f;cases r;cases h;exact⟨f,O⟩
  ·cases h
 |tup xs=>exact rm r s h
 |rol xs=>exact rm r s h
 |fn x=>cases h
 |ref n=>
  rw[mF]at h;split at h
  ·rename_i kvs g;cases h;cases r with
   |ref e=>
    obtain⟨ws,c,a⟩:=s.dct g e;refine .inr (.inr ⟨ws,c,?_⟩);cases a<;>rfl
  ·exact rm r s h
end
theorem hK{X:Cx}{x:Expr}{f:FE}(h:XE X x f)(he:autoParam (∀a,isTrue x X.env a=(do let v<-a;M4 x.pos;M3 [v] (truthy v))) du0):XT X x (mTr f):=
 ⟨rz (zR h.h he) <| by
  rintro σ H Q ⟨r,mu,S,b,l,he,i,c,hc⟩;obtain⟨⟨m,n⟩,e,c⟩:=Py c;obtain⟨b1,k,c⟩:=Pz c;cases c;exact⟨r,mu,S,_,_,he,i,e,λv H1 mu1 g j d=>⟨_,E5 j d k,hc H1 mu1 g d⟩⟩⟩
section
variable{ag:List (dP×Obj)}{σ:L2.St}{H:Hp}{s:dN}{mu:List dP}
end
noncomputable def mQ:List D->Option (List Int)
 |[]=>Z []
 | .int i::ds=>(mQ ds).map λis=>i::is
 |_=>Y
def ddI(ns:List Int):List Int:=ns.foldl ON []
theorem oZ:∀(ns acc:List Int),acc.Nodup->(ns.foldl ON acc).Nodup
 |[],acc,h=>h
 |n::ns,acc,h=>by
  rw[ca];refine oZ ns _ ?_;unfold ON;split
  ·exact h
  ·rename_i d;rw[bB];refine⟨h,by simp,λa f b c e=>?_⟩;simp at c;apply d;rw[bU];exact⟨a,f,by simp[e,c]⟩
theorem uF(ns:List Int):firstMet (λi=>ns.getD i 0) ns.length=ddI ns:=by
 unfold firstMet ddI
 congr 1
 apply List.ext_getElem
 ·simp
 ·intro i h1 h2;simp at h1 ⊢;rw[gG1 (by omega)];rfl
theorem qj{K:Fg1}{H:Hp}{mu:List dP}:∀{ds:List D} {vs:List V} {b:List dM} {ns:List Int},ej K H mu ds vs->eH vs b->mQ ds=Z ns->N0 b ns/\ns.length=ds.length:=by
 intro ds vs b ns f a h
 induction f using ej.ind generalizing b ns with
 |hn=>cases h;cases a;exact⟨.nil,O⟩
 | @hc d v ds vs r t ih=>
  cases d with
  |int i=>
   obtain⟨c,e,h⟩:=Pz h;cases h;cases r;cases a with
   |cons r a=>
    obtain⟨g,j⟩:=ih a e;obtain⟨tk,rfl⟩:=r;exact⟨.cons _ _ g,by rw[lC1,lC1,j]⟩
  |_=>cases h
theorem mD(l:List Int):(λk'=>l.any (· == k'))=λk'=>l.contains k':=by
 funext k
 induction l with
 |nil=>rfl
 |cons x xs ih=>rw[bf,List.contains_cons,ih,show(x == k)=(k == x)from Bool.beq_comm]
def sj:G1:=λd S=>match ei S d with
 |some (M,xs)=>(mQ xs).bind λns=>if ns.length+1<OO then Z (.ref S.length,S++[.iset (ddI ns)])else Y
 |_=>Y
theorem Jv{k:Nat}(hr:gl k X.A):fi X (.type "set") (rN X.K (b1 sj)):=by
 intro ag s σ H xs am Q I r h;obtain⟨x,mu,S,d,K,G,rfl,A,l,c,hc⟩:=xX h;unfold sj at c;split at c
 ·rename_i ys v;obtain⟨ns,e,c⟩:=Py c;split at c
  ·rename_i E;cases c;obtain⟨a,vs,rfl,q,t⟩:=er A l v;cases r with
   |cons F rt=>
    cases rt;cases F;obtain⟨g,p,⟨o,n,C,i,D,B⟩,_⟩:=I.list q;obtain⟨hi,m⟩:=qj t p e;have f:g.toArray.size=ns.length:=by rw[sT1,hi.length]
    refine PySem.call_set_list (items:=g.toArray) (ns:=ns) hr.hd ⟨o,C,i,⟨n,B⟩⟩ (by simpa using hi) (by rw[f];exact E) λh' tk j y=>?_;rw[f,uF]at j;have nd:(ddI ns).Nodup:=oZ ns [] bp;have w:=mD (ddI ns);rw[w]at j;refine⟨.ref s.heap.objs.size,upd H s.heap.objs.size (.set (λk=>(ddI ns).contains k) (ddI ns).length),I.laid (λb u z=>y b u (hL1 z) z) (nR1 _) j,O,?_⟩;exact hc _ _ (mu++[s.heap.objs.size]) (Ext.new_ I.fresh) (.ref (gz l.len _)) (l.new I.fresh ⟨eJ,nd⟩)
  ·cases c
 ·cases c
def oQ:G1:=λd S=>match d with
 | .ref n=>match S[n]? with
  |some (.iset xs)=>Z (.int xs.length,S)
  |_=>eR d S
 |_=>eR d S
theorem BH:fi X (.builtin "len") (rN X.K (b1 oQ)):=by
 intro ag s σ H xs k Q I r h;obtain⟨x,mu,S,d,l,m,g,f,b,a,hc⟩:=xX h;have u:=a;unfold oQ at a;split at a
 ·rename_i n;split at a
  ·rename_i ys e;cases a;subst g;cases f with
   |ref i=>
    obtain⟨w,nd⟩:=b.iset e i;cases r with
    |cons z rt=>
     cases rt;cases z;have v:=I.hok _ _ w;obtain⟨o,es,ep,t,y,j,q,_,_,c,p,i⟩:=v;refine PySem.call_len_set y j q p (by unfold OO at c;lia) ?_;refine⟨.int es.size,H,I.tok _,⟨_,O⟩,?_⟩;rw[i];exact hc.now (.int _) b
  ·exact eU ag s σ H xs k Q I r (by subst g;exact⟨mu,S,[_],l,m,.cons f .nil,b,(show b1 eR [_] S=_ from a),hc⟩)
 ·exact eU ag s σ H xs k Q I r (by subst g;exact⟨mu,S,[_],l,m,.cons f .nil,b,(show b1 eR [_] S=_ from a),hc⟩)
@[elab_as_elim] theorem L9 {P:List dM->Prop}{us:List dM}(l:us.length=0)(f:P []):P us:=by
 cases us with
 |nil=>exact f
 |cons _ _=>cases l
@[elab_as_elim] theorem Lr {P:List dM->Prop}{us:List dM}(l:us.length=1)(f:∀a,P [a]):P us:=by
 cases us with
 |nil=>cases l
 |cons a us=>exact L9 (P:=λus=>P (a::us)) (Nat.succ.inj l) (f a)
@[elab_as_elim] theorem KN {P:List dM->Prop}{us:List dM}(l:us.length=2)(f:∀a b,P [a,b]):P us:=by
 cases us with
 |nil=>cases l
 |cons a us=>exact Lr (P:=λus=>P (a::us)) (Nat.succ.inj l) (f a)
@[elab_as_elim] theorem Lq {P:List dM->Prop}{us:List dM}(l:us.length=3)(f:∀a b c,P [a,b,c]):P us:=by
 cases us with
 |nil=>cases l
 |cons a us=>exact KN (P:=λus=>P (a::us)) (Nat.succ.inj l) (f a)
@[elab_as_elim] theorem L8 {P:List dM->Prop}{us:List dM}(l:us.length=4)(f:∀a b c d,P [a,b,c,d]):P us:=by
 cases us with
 |nil=>cases l
 |cons a us=>exact Lq (P:=λus=>P (a::us)) (Nat.succ.inj l) (f a)
end Mi
namespace HT
open PySem PySem.Spec PyProof.Rows
variable{prog:dQ}{w:dS}{A:dR}{E:dM->dN->Prop}{s:dN}
end HT
namespace Mi
open PySem PySem.Spec PyProof.Rows L2
section
variable{X:Cx}
end
end Mi
namespace HT
open PySem PySem.Spec PyProof.Rows
section
variable{prog:dQ}{w:dS}{A:dR}{R:Result->dN->Prop}{I ax L:dP}{xs:Array dM}
abbrev Kp(I L:dP)(h h':dZ):Prop:=∀p u,p≠I->p≠L->h.get? p=Z u->h'.get? p=Z u
end
section
variable{prog:dQ}{w:dS}{A:dR}{E:dM->dN->Prop}{s:dN}
end
end HT
namespace Mi
open PySem PySem.Spec PyProof.Rows L2
variable{X:Cx}
section
variable{elt tg iter tg2 iter2 tg3 iter3:Expr}{ifs ifs2 ifs3:List Expr}{scope:d4}{pos:Pos}
end
noncomputable def yv(a:Int):List Int->List Int
 |[]=>[a]
 |b::l=>if a<=b then a::b::l else b::yv a l
def jz:List Int->List Int
 |[]=>[]
 |a::l=>yv a (jz l)
theorem mR(a:Int):∀l:List Int,(yv a l).Perm (a::l)
 |[]=>.refl _
 |b::l=>by
  rw[yv];split
  ·exact .refl _
  ·exact((mR a l).cons b).trans (.swap _ _ _)
theorem fI:∀l:List Int,(jz l).Perm l
 |[]=>.refl _
 |a::l=>(mR a _).trans ((fI l).cons a)
theorem w5{a:Int}:∀{l:List Int},l.Pairwise (· <= ·)->(yv a l).Pairwise (· <= ·)
 |[],_=>cb _ _
 |b::l,h=>by
  rw[cc]at h;rw[yv];split
  ·rename_i d;rw [cc,cc];exact ⟨fun x c=>by
    rcases aF.mp c with z|z
    ·lia
    ·have:=h.1 x z;lia,h.1,h.2⟩
  ·rename_i d;rw[cc];refine⟨λx c=>?_,w5 h.2⟩;rcases aF.mp ((mR a l).mem_iff.mp c)with z|z
   ·lia
   ·exact h.1 x z
theorem iP:∀l:List Int,(jz l).Pairwise (· <= ·)
 |[]=>.nil
 |a::l=>w5 (iP l)
theorem nL:∀{a b:List Int},a.Perm b->a.Pairwise (· <= ·)->b.Pairwise (· <= ·)->a=b
 |[],b,p,_,_=>(List.nil_perm.mp p).symm
 |x::a,[],p,_,_=>absurd p.length_eq (by simp)
 |x::a,y::b,p,h1,h2=>by
  rw[cc]at h1 h2;have e:x=y:=by
   have d:=p.mem_iff.mp (mS1 (a:=x) (l:=a));have f:=p.mem_iff.mpr (mS1 (a:=y) (l:=b));rcases aF.mp d with z|z
   ·exact z
   ·rcases aF.mp f with c|c
    ·exact c.symm
    ·have:=h2.1 x z;have:=h1.1 y c;lia
  subst e;rw[nL (List.perm_cons x |>.mp p) h1.2 h2.2]
noncomputable def nj:List D->Option (List Int)
 |[]=>Z []
 | .int i::l=>(nj l).map λt=>i::t
 |_=>Y
theorem qh{K:Fg1}{H:Hp}{mu:List dP}:∀{ds:List D} {vs:List V} {a:List dM} {ns:List Int},ej K H mu ds vs->eH vs a->nj ds=Z ns->N0 a ns:=by
 intro ds
 induction ds with
 |nil=>intro vs a ns r v h;cases r;cases v;cases h;exact .nil
 |cons d ds ih=>
  intro vs a ns r v h;cases r with
  |cons c t=>
   cases v with
   |cons b f=>
    cases c
    case int i=>
     obtain⟨m,e,h⟩:=Pz h;subst h;obtain⟨tk,rfl⟩:=b;exact .cons i tk (ih t f e)
    all_goals cases h
theorem qi:∀{us:List dM} {ns:List Int},N0 us ns->eH (ns.map V.int) us:=by
 intro us ns h
 induction h with
 |nil=>exact .nil
 |cons i t _ ih=>exact .cons ⟨t,O⟩ ih
theorem qk:∀{ds:List D} {ns:List Int},nj ds=Z ns->ns.length=ds.length:=by
 intro ds
 induction ds with
 |nil=>intro ns h;cases h;rfl
 |cons d ds ih=>
  intro ns h;cases d with
  |int i=>
   obtain⟨m,e,h⟩:=Pz h;subst h;rw[lC1,lC1,ih e]
  |_=>cases h
theorem mE(n:Nat):∀ns:List Int,D.unds n (ns.map D.int)=M
 |[]=>rfl
 |_::ns=>by rw[mP1,D.unds,mE n ns];rfl
theorem DZ{n:Nat}{d:D}{S:d7}(h:S.length=n):gc n (d,S)=(d,S):=by
 unfold gc;split
 ·rw[show(d,S).2=S from rfl,<- h,b4]
 ·rfl
theorem qr{n:Nat}{f:FN}{ds:List D}{S S1:d7}{d:D}(h:f ds []=Z (d,S1))(hn:ds.length=n)(a:D.unds 0 ds=M)(hd:d.und 0=M):ea n f ds S=Z (d,S):=by
 unfold ea qv;rw[ak hn,ak a,h,oP1,ak hd]
theorem uL{n:Nat}{f:FN}{ds:List D}{S S1:d7}{d:D}(h:f ds []=Z (d,S1))(hn:ds.length=n)(a:D.unds 0 ds=M)(hd:d.und 0=J):ea n f ds S=Z (d.sh S.length,S++S1.map (Ob.sh S.length)):=by
 unfold ea qv;rw[ak hn,ak a,h,oP1,aj (by dsimp only;rw[hd];decide)]
theorem qt{n:Nat}{f:FN}{ds:List D}{S S1:d7}{d:D}(h:f ds S=Z (d,S1))(hn:ds.length=n)(a:D.unds 0 ds=J):ea n f ds S=Z (gc S.length (d,S1)):=by
 unfold ea qv;rw[ak hn,aj (by rw[a];decide),h,oP1]
theorem yK{n:Nat}{f:FN}{ds:List D}{S S1:d7}{d:D}(h:f ds S=Z (d,S1))(hn:ds.length=n)(b:D.unds 0 ds=J)(a:S1.length=S.length):ea n f ds S=Z (d,S1):=by
 rw[qt h hn b,DZ a]
theorem t3{i j:Int}(h1: -(2^64)<i)(h2:i<2^64):fr i j=M:=by
 unfold fr;simp only[bR,bA1,al];exact .inl (.inl ⟨h1,h2⟩)
theorem wN{i j:Int}(h1: -(2^64)<j)(h2:j<2^64):fr i j=M:=by
 unfold fr;simp only[bR,bA1,al];exact .inl (.inr ⟨h1,h2⟩)
theorem fq{S:d7}{n:Nat}{xs:List D}(h:S[n]?=Z (.lst xs)):pA S [(n,xs)]=M:=by
 rw[pA,h];simp[D.sames_refl,pA]
noncomputable def kw(n:Nat):Nat->List D
 |0=>[]
 |k+1=>.ref n::kw (n+1) k
theorem t6:∀{n:Nat} {lo:Int} {d:D},d∈gb lo n -> ∃k:Int,d = .int k/\lo<=k/\k<lo+n
 |0,lo,d,h=>by simp[gb]at h
 |n+1,lo,d,h=>by
  rw[gb]at h;rcases aF.mp h with h|h
  ·exact⟨lo,h,Int.le_refl _,by lia⟩
  ·obtain⟨k,e,h1,h2⟩:=t6 h;exact⟨k,e,by lia,by lia⟩
theorem gU{n:Nat}:∀{xs:List D} {x:D},D.unds n xs=M->x∈xs->x.und n=M
 |y::ys,x,h,hx=>by
  rw[D.unds,bA1]at h;rcases aF.mp hx with e|e
  ·rw[e];exact h.1
  ·exact gU h.2 e
theorem kf{S:d7}{d:D}(h:d.und 0=M):ei S d=ei [] d:=by
 cases d with
 |ref n=>simp[D.und]at h
 |_=>rfl
theorem i6{S:d7}{d:D}(h:d.und 0=M){p:Bool×List D}(e:ei S d=Z p):D.unds 0 p.2=M:=by
 cases d with
 |ref n=>simp[D.und]at h
 |tup xs=>cases e;simpa[D.und]using h
 |rol xs=>cases e;simpa[D.und]using h
 |_=>cases e
theorem qm{f f':D->D->Option Bool}:∀{xs ys:List D},(∀x∈xs,∀y∈ys,f x y=f' x y)->xn f xs ys=xn f' xs ys
 |[],[],_=>rfl
 |[],_::_,_=>rfl
 |_::_,[],_=>rfl
 |x::xs,y::ys,h=>by
  rw[xn,xn,h x mS1 y mS1,qm λa c b d=>h a (mC1 _ c) b (mC1 _ d)]
theorem xm{S:d7}:∀{n:Nat} {d e:D},d.und 0=M->e.und 0=M->hH S n d e=hH [] n d e
 |0,_,_,_,_=>rfl
 |n+1,d,e,hd,he=>by
  rw[hH,hH,kf hd,kf he];cases h1:ei [] d with
  |none=>cases ei [] e<;>rfl
  |some p=>
   cases h2:ei [] e with
   |none=>rfl
   |some q=>
    dsimp only;have a:=i6 hd h1;have g:=i6 he h2;rw[qm (f:=hH S n) (f':=hH [] n) λx c y b=>xm (gU a c) (gU g b)]
theorem p9{f f' g g':D->D->Option Bool}:∀{xs ys:List D},(∀x∈xs,∀y∈ys,f x y=f' x y)->(∀x∈xs,∀y∈ys,g x y=g' x y)->vH f g xs ys=vH f' g' xs ys
 |[],[],_,_=>rfl
 |[],_::_,_,_=>rfl
 |_::_,[],_,_=>rfl
 |x::xs,y::ys,h,k=>by
  rw[vH,vH,h x mS1 y mS1,k x mS1 y mS1,p9 (λa c b d=>h a (mC1 _ c) b (mC1 _ d)) λa c b d=>k a (mC1 _ c) b (mC1 _ d)]
theorem wS{S:d7}:∀{n:Nat} {d e:D},d.und 0=M->e.und 0=M->k4 S n d e=k4 [] n d e
 |0,_,_,_,_=>rfl
 |n + 1,d,e,k,h=>by
  rw[k4,k4,kf k,kf h];cases J3 d e with
  |some b=>rfl
  |none=>
   cases h1:ei [] d with
   |none=>rfl
   |some p=>
    cases h2:ei [] e with
    |none=>rfl
    |some q=>
     dsimp only;have j:=i6 k h1;have i:=i6 h h2;rw[p9 (f:=hH S n) (f':=hH [] n) (g:=k4 S n) (g':=k4 [] n) (λx a y c=>xm (gU j a) (gU i c)) λx a y c=>wS (gU j a) (gU i c)]
open Classical in
noncomputable def rkV(ws:List dM)(x:dM):Nat:=ws.findIdx λy=>decide (y=x)
theorem zO{ws:List dM}{x:dM}(h:x∈ws):ws[rkV ws x]?=Z x:=by
 have a:rkV ws x<ws.length:=List.findIdx_lt_length_of_exists ⟨x,h,by simp⟩;rw[gG1 a];have:=List.findIdx_getElem (w:=a);have e:ws[rkV ws x]=x:=N7 this;rw[e]
def kR(ws:List dM)(xs:Array OP)(i:Nat):Nat:=(xs[i]?.map λp=>rkV ws p.1).getD 0
theorem gX{ws:List dM}{xs ys:Array OP}{i j:Nat}(h:xs[i]?=ys[j]?):kR ws xs i=kR ws ys j:=by unfold kR;rw[h]
def Up(ws:List dM)(xs:Array OP)(k:Nat):Prop:=∀i j,i<j->j<k->kR ws xs i<kR ws xs j
def Dn(ws:List dM)(xs:Array OP)(k:Nat):Prop:=∀i j,i<j->j<k->kR ws xs j<kR ws xs i
structure SoB (κ:OQ)(a₀:Array OP)(st:OR):Prop where
 perm:(OS st).Perm a₀
 kind:kindOf st=κ
 failed:OT st=none
 pend:OU st = #[]
theorem SoB.arr{κ:OQ}{a₀:Array OP}{st:OR}(b:SoB κ a₀ st){xs:Array OP}(p:xs.Perm (OS st)):SoB κ a₀ (setArr st xs):=⟨p.trans b.perm,b.kind,b.failed,b.pend⟩
structure js (prog:dQ)(w:dS)(A:dR)(s:dN)(κ:OQ)(ws:List dM)(a₀:Array OP):Prop where
 nd:ws.Nodup
 keys:(a₀.toList.map (·.1)).Perm ws
 lt:∀(x y:dM) (i j:Nat),ws[i]?=some x->ws[j]?=some y->i≠j -> ∀(E:dM->dN->Prop) (Q:Bool->dN->Prop),Q (decide (i<j)) s->dX (MN prog w) A (keyLt' κ x y) Q E s
variable{prog:dQ}{w:dS}{A:dR}{E:dM->dN->Prop}{s:dN}
section
variable{κ:OQ}{ws:List dM}{a₀:Array OP}
theorem js.at_(C:js prog w A s κ ws a₀){xs:Array OP}(p:xs.Perm a₀){i:Nat}(hi:i<a₀.size):∃x q,xs[i]?=Z (x,q)/\ws[kR ws xs i]?=Z x:=by
 have a:i<xs.size:=by rw[p.size_eq];exact hi
 refine⟨xs[i].1,xs[i].2,aG1 a,?_⟩;have b:xs[i]∈a₀.toList:=(cf.mp p).mem_iff.mp (by simp);have:=zO (C.keys.mem_iff.mp (cg.mpr ⟨_,b,O⟩));unfold kR;rw[aG1 a];exact this
theorem js.inj(C:js prog w A s κ ws a₀){xs:Array OP}(p:xs.Perm a₀){i j:Nat}(hi:i<a₀.size)(c:j<a₀.size)(h:kR ws xs i=kR ws xs j):i=j:=by
 obtain⟨x,q,d,a⟩:=C.at_ p hi;obtain⟨y,r,g,f⟩:=C.at_ p c;rw[h,f]at a;cases a;have nd:(xs.toList.map (·.1)).Nodup:=(((cf.mp p).map (·.1)).trans C.keys).nodup_iff.mpr C.nd;have b:(xs.toList.map (·.1))[i]?=Z x:=by rw[gP1,aT1,d];rfl
 have e:(xs.toList.map (·.1))[j]?=Z x:=by rw[gP1,aT1,g];rfl
 exact(List.getElem?_inj (Px b).1 nd).mp (b.trans e.symm)
theorem js.cmp(C:js prog w A s κ ws a₀){st:OR}{i j:Nat}{Q:Option Bool->OR->Prop}(b:SoB κ a₀ st)(hi:i<a₀.size)(d:j<a₀.size)(c:i≠j)(h:Q (Z (decide (kR ws (OS st) i<kR ws (OS st) j))) st):wpS (MN prog w) A E s (ltAt' i j) Q st:=by
 obtain⟨x,q,f,e⟩:=C.at_ b.perm hi;obtain⟨y,r,k,g⟩:=C.at_ b.perm d;have a:kR ws (OS st) i≠kR ws (OS st) j:=λz=>c (C.inj b.perm hi d z);rw[ltAt'_eq];refine OV (OW ?_);show wpS _ _ _ _ (do let x<-elem' (OS st) i;let y<-elem' (OS st) j;lt' x y) Q st;rw[elem'_eq,elem'_eq,f,k];refine OV (OX (OV (OX ?_)));rw[lt'_eq];refine OV (OW ?_);rw[b.kind];exact OV (OY (Ol (C.lt x y _ _ e g a _ _ ⟨O,OX h⟩)))
theorem Up.one{xs:Array OP}:Up ws xs 1:=λi j h1 h2=>by lia
theorem Up.snoc{xs:Array OP}{n:Nat}(u:Up ws xs n)(h:n=0\/kR ws xs (n-1)<kR ws xs n):Up ws xs (n+1):=λi j h1 h2=>by
 by_cases z:j<n
 ·exact u i j h1 z
 ·have a:j=n:=by lia
  subst a;rcases h with h|h
  ·lia
  ·by_cases b:i=j-1
   ·rw[b];exact h
   ·exact bi (u i (j-1) (by lia) (by lia)) h
theorem Dn.snoc{xs:Array OP}{n:Nat}(u:Dn ws xs n)(h:kR ws xs n<kR ws xs (n-1)):Dn ws xs (n+1):=λi j h1 h2=>by
 by_cases z:j<n
 ·exact u i j h1 z
 ·have a:j=n:=by lia
  subst a;by_cases b:i=j-1
  ·rw[b];exact h
  ·exact bi h (u i (j-1) (by lia) (by lia))
theorem zE(C:js prog w A s κ ws a₀){st:OR}{a d:Nat}{Q:AscSt->OR->Prop}(hn:d<=a₀.size)(ha:1<=a)(f:a<=d)(b:SoB κ a₀ st)(u:Up ws (OS st) a)(h:∀n,a<=n->n<=d->Up ws (OS st) n->(n=d\/kR ws (OS st) n<kR ws (OS st) (n-1))->Q (Y,n) st):wpS (MN prog w) A E s (ascLoop a d) Q st:=by
 unfold ascLoop;refine OZ (λx c st'=>st'=st/\c=(Y,x)/\Up ws (OS st) x) ?_ ?_ ⟨O,O,u⟩
 ·rintro x c st' h1 h2 ⟨rfl,rfl,g⟩;refine OV (C.cmp b (by lia) (by lia) (by lia) ?_);by_cases z:kR ws (OS st') x<kR ws (OS st') (x-1)
  ·simp only[z,O0,NJ];exact OX (h x h1 (by lia) g (.inr z))
  ·simp only[z,O1,bF1,NH];have:kR ws (OS st') x≠kR ws (OS st') (x-1):=λe=>by have:=C.inj b.perm (by lia) (by lia) e;lia
   exact OX ⟨O,O,g.snoc (.inr (by lia))⟩
 ·rintro c st' ⟨rfl,rfl,g⟩;rw[ci f]at g ⊢;exact h d f (nR1 _) g (.inl O)
theorem Cs(C:js prog w A s κ ws a₀){st:OR}{n a:Nat}{Q:Option Nat->OR->Prop}(hn:a<=a₀.size)(h1:1<=n)(c:n<=a)(b:SoB κ a₀ st)(d:Dn ws (OS st) n)(h:∀m st',SoB κ a₀ st'->m<=a->Up ws (OS st') m->Q (Z m) st'):wpS (MN prog w) A E s (tail3 n a) Q st:=by
 unfold tail3;have e:n<=(OS st).size:=by rw[b.perm.size_eq];lia
 have l:SoB κ a₀ (setArr st (mirror (OS st) 0 n ((n-0)/2))):=b.arr (mirror_perm _ _ _ _);refine OV (wpS_reverse (OV (zE C hn h1 c l (λi j o f=>?_) λm o f u _=>OX (h m _ l f u))));have g:∀k,k<n->kR ws (mirror (OS st) 0 n ((n-0)/2)) k=kR ws (OS st) (n-1-k):=λk p=>gX (by
  rw[getElem?_mirror_all e,ak (by lia)]
  congr 1;lia)
 show kR ws (mirror (OS st) 0 n ((n-0)/2)) i<kR ws (mirror (OS st) 0 n ((n-0)/2)) j;rw[g i (by lia),g j f];exact d _ _ (by lia) (by lia)
theorem Cu(C:js prog w A s κ ws a₀){st:OR}{n a:Nat}{Q:DescSt->OR->Prop}(hn:a<=a₀.size)(h1:1<=n)(g:n<=a)(b:SoB κ a₀ st)(d:Dn ws (OS st) n)(h:∀m,n<=m->m<=a->Dn ws (OS st) m->Q (Y,m,0) st):wpS (MN prog w) A E s (descLoop n a) Q st:=by
 unfold descLoop;refine OZ (λx c st'=>st'=st/\c=(Y,x,0)/\Dn ws (OS st) x) ?_ ?_ ⟨O,O,d⟩
 ·rintro x c st' h2 j ⟨rfl,rfl,f⟩;dsimp only;refine OV (C.cmp b (by lia) (by lia) (by lia) ?_);by_cases z:kR ws (OS st') x<kR ws (OS st') (x-1)
  ·simp only[z,O0,NJ];exact OX ⟨O,O,f.snoc z⟩
  ·simp only [z,O1,bF1,NH];have i:kR ws (OS st') (x-1)<kR ws (OS st') x:=by
    have:kR ws (OS st') x≠kR ws (OS st') (x-1):=λe=>by have:=C.inj b.perm (by lia) (by lia) e;lia
    lia
   refine OV (C.cmp b (by lia) (by lia) (by lia) ?_);simp only[i,O0,NJ];exact OX (h x h2 (by lia) f)
 ·rintro c st' ⟨rfl,rfl,f⟩;rw[ci g]at f ⊢;exact h a g (nR1 _) f
theorem Fg(C:js prog w A s κ ws a₀){st:OR}{a:Nat}{Q:Option Nat->OR->Prop}(hn:a<=a₀.size)(h1:1<=a)(b:SoB κ a₀ st)(h:∀m st',SoB κ a₀ st'->m<=a->Up ws (OS st') m->Q (Z m) st'):wpS (MN prog w) A E s (countRun' 0 a) Q st:=by
 rw[countRun0_eq];refine OV (zE C hn (nR1 1) h1 b .one λn h2 g u or=>?_);dsimp only;by_cases z:n=a
 ·rw[ak (by simpa using z)];exact OX (h n st b g u)
 ·rw[aj (by simpa using z)];have p:=or.resolve_left z;by_cases c:n>1
  ·rw[ak c];have:=u 0 (n-1) (by lia) (by lia);refine OV (C.cmp b (by lia) (by lia) (by lia) ?_);simp only[this,O0,NJ];exact OX (h n st b g u)
  ·rw[aj c];have e:n=1:=by lia
   subst e;unfold descPart;refine OV (OY (M9 ⟨O,?_⟩));refine OV (Cu C hn (by lia) (by lia) b (λi j k f=>?_) λm k f d=>?_)
   ·have o:i=0:=by lia
    have l:j=1:=by lia
    subst o;subst l;exact p
   ·dsimp only;rw[aj (by lia)];exact Cs C hn (by lia) f b d h
theorem Fh(C:js prog w A s κ ws a₀){st:OR}{n ok:Nat}{Q:Bool->OR->Prop}(hn:n<=a₀.size)(F:ok<=n)(b:SoB κ a₀ st)(u:Up ws (OS st) ok)(h:∀st',SoB κ a₀ st'->Up ws (OS st') n->Q M st'):wpS (MN prog w) A E s (binarySort' 0 n ok) Q st:=by
 rw[binarySort'_eq];simp only[bQ];refine OV (O2 (OZ (λk c st'=>c=(Y,())/\SoB κ a₀ st'/\Up ws (OS st') (min k n)) (Q:=λc st'=>c=(Y,())/\SoB κ a₀ st'/\Up ws (OS st') n) ?_ ?_ ⟨O,b,λi j h1 h2=>?_⟩) ?_)
 ·rintro k c st' G D ⟨rfl,f,d⟩;rw[bC (by lia)]at d;have v:k<(OS st').size:=by rw[f.perm.size_eq];lia
  refine OV (O2 (OZ (λx c a=>a=st' /\ ∃l r,c=(Y,l,r)/\l<=r/\r<=k/\r-l<=k-x/\(∀i,i<l->kR ws (OS st') i<kR ws (OS st') k) /\ ∀i,r<=i->i<k->kR ws (OS st') k<kR ws (OS st') i)
   (Q:=λc a=>a=st' /\ ∃l r,c=(Y,l,r)/\l<=k/\(∀i,i<l->kR ws (OS st') i<kR ws (OS st') k) /\ ∀i,l<=i->i<k->kR ws (OS st') k<kR ws (OS st') i) ?_ ?_ ⟨O,0,k,O,by lia,by lia,by lia,λi h1=>by lia,λi h1 h2=>by lia⟩) ?_)
  ·rintro x c a _ am ⟨rfl,l,r,rfl,h1,h2,t,o,p⟩;dsimp only;by_cases z:l>=r
   ·rw[ak z];have e:l=r:=by lia
    subst e;exact OX ⟨O,l,l,O,h2,o,p⟩
   ·rw[aj z];refine OV (C.cmp f (by lia) (by lia) (by lia) ?_);by_cases m:kR ws (OS a) k<kR ws (OS a) ((l+r)/2)
    ·simp only[m,O0,NJ];refine OX ⟨O,l,(l+r)/2,O,by lia,by lia,by lia,o,λi I H=>?_⟩;by_cases q:(l+r)/2=i
     ·rw[<- q];exact m
     ·exact bi m (d _ i (by lia) H)
    ·simp only [m,O1,bF1,NH];refine OX ⟨rfl,(l+r)/2+1,r,rfl,by lia,by lia,by lia,fun i I=>?_,p⟩;have y:kR ws (OS a) ((l+r)/2)<kR ws (OS a) k:=by
      have:kR ws (OS a) k≠kR ws (OS a) ((l+r)/2):=λe=>by have:=C.inj f.perm (by lia) (by lia) e;lia
      lia
     by_cases q:i=(l+r)/2
     ·rw[q];exact y
     ·exact bi (d i _ (by lia) (by lia)) y
  ·rintro c a ⟨rfl,l,r,rfl,h1,h2,t,o,p⟩;have e:l=r:=by lia
   subst e;exact⟨O,l,l,O,h2,o,p⟩
  ·rintro c a ⟨rfl,l,r,rfl,h1,h2,t⟩;show wpS _ _ _ _ (do moveDown' k l;pure (Od (none,()))) _ _;rw [moveDown'_eq];refine OV (O3 (OX ⟨rfl,f.arr (bubble_perm _ _ _),?_⟩));rw [bC (by lia)];have g:∀ i,kR ws (bubble (OS a) k (k-l)) i=if i=l then kR ws (OS a) k else if l<i/\i<=k then kR ws (OS a) (i-1) else kR ws (OS a) i:=fun i=>by
    have e:=getElem?_bubble v (k-l) (by lia) i;rw[show k-(k-l)=l by lia]at e;by_cases B:i=l
    ·rw[ak B]at e ⊢;exact gX e
    ·rw[aj B]at e ⊢;by_cases m:l<i/\i<=k
     ·rw[ak m]at e ⊢;exact gX e
     ·rw[aj m]at e ⊢;exact gX e
   intro i j o p;show kR ws (bubble (OS a) k (k-l)) i<kR ws (bubble (OS a) k (k-l)) j;rw[g,g]
   repeat' split
   all_goals first
    |(exfalso;lia)
    |exact h2 _ (by lia)
    |exact t _ (by lia) (by lia)
    |exact d _ _ (by lia) (by lia)
 ·rintro c st' ⟨hc,f,d⟩;refine⟨hc,f,?_⟩
  rwa [show min (max (max ok 1) n) n=n by lia]at d
 ·by_cases z:ok=0
  ·lia
  ·exact u i j h1 (by lia)
 ·rintro c st' ⟨rfl,f,d⟩;exact OX (h st' f d)
theorem Fi(C:js prog w A s κ ws a₀){st:OR}{Q:Unit->OR->Prop}(b:SoB κ a₀ st)(h2:2<=a₀.size)(j:a₀.size<64)(h:∀st',(OS st').Perm a₀->OT st'=Y->Up ws (OS st') a₀.size->Q () st'):wpS (MN prog w) A E s sortRuns' Q st:=by
 rw[sortRuns'_eq];refine OV (OW ?_);dsimp only;have g:minRun' a₀.size a₀.size 0=a₀.size:=by
  generalize t:a₀.size=z at *
  cases z with
  |zero=>lia
  |succ f=>rw[minRun'_succ,ak j]
 simp only[b.perm.size_eq,g];have done:∀st',SoB κ a₀ st'->Up ws (OS st') a₀.size->(OS (setPending st' ((OU st').push (0,a₀.size,0)))).Perm a₀/\OT (setPending st' ((OU st').push (0,a₀.size,0)))=Y/\OU (setPending st' ((OU st').push (0,a₀.size,0))) = #[(0,a₀.size,0)]/\Up ws (OS (setPending st' ((OU st').push (0,a₀.size,0)))) a₀.size:=λst' d p=>
  ⟨d.perm,d.failed,by show(OU st').push _=_;rw[d.pend];rfl,p⟩
 refine OV (O2 (OZ
  (λx c st'=>(x=0/\c=(Y,0)/\SoB κ a₀ st')\/(1<=x/\c=(Y,a₀.size)/\(OS st').Perm a₀/\OT st'=Y/\OU st' = #[(0,a₀.size,0)]/\Up ws (OS st') a₀.size))
  (Q:=λc st'=>c=(Y,a₀.size)/\(OS st').Perm a₀/\OT st'=Y/\OU st' = #[(0,a₀.size,0)]/\Up ws (OS st') a₀.size) ?_ ?_ (.inl ⟨O,O,b⟩)) ?_)
 ·rintro x c st' _ o (⟨rfl,rfl,d⟩|⟨l,rfl,D⟩)
  ·dsimp only;rw[aj (by lia)];simp only[Nat.sub_zero,Nat.min_self,bQ];refine OV (Fg C (nR1 _) (by lia) d λm a b2 r k=>?_);dsimp only;by_cases z:m<a₀.size
   ·rw[ak z];refine OV (OY (M9 ⟨O,?_⟩));refine OV (Fh C (nR1 _) r b2 k λi b3 n=>?_);simp only[b7,bF1,NH];refine OV (OW ?_);rw[b3.pend];exact OV (O3 (OX (.inr ⟨by lia,O,done i b3 n⟩)))
   ·rw[aj z];have e:m=a₀.size:=by lia
    subst e;refine OV (OW ?_);rw[b2.pend];exact OV (O3 (OX (.inr ⟨by lia,O,done a b2 k⟩)))
  ·dsimp only;rw[ak (nR1 _)];exact OX ⟨O,D⟩
 ·rintro c st' (⟨o,_⟩|⟨_,hc,D⟩)
  ·lia
  ·exact⟨hc,D⟩
 ·rintro c st' ⟨rfl,D⟩;dsimp only;refine OV (O2 (OZ (λ_ c a=>a=st'/\c=(Y,())) (Q:=λc a=>a=st'/\c=(Y,())) ?_ (λ_ _ q=>q) ⟨O,O⟩) ?_)
  ·rintro x c a _ _ ⟨rfl,rfl⟩;refine OV (OW ?_);rw[ak (by rw[D.2.2.1];exact nR1 1)];exact OX ⟨O,O⟩
  ·rintro c a ⟨rfl,rfl⟩;exact OX (h _ D.1 D.2.1 D.2.2.2)
theorem zD(C:js prog w A s κ ws (O4 vs)){xs:Array OP}(p:xs.Perm (O4 vs))(u:Up ws xs (O4 vs).size):xs.map (·.2)=ws.toArray:=by
 have m:ws.length=(O4 vs).size:=by rw[<- C.keys.length_eq,lM1];simp
 have a:∀i,i<(O4 vs).size->i<=kR ws xs i:=by
  intro i
  induction i with
  |zero=>intro _;lia
  |succ i ih=>intro h;have:=ih (by lia);have:=u i (i+1) (by lia) h;lia
 have b:∀d i,i+d+1=(O4 vs).size->kR ws xs i<=i:=by
  intro d
  induction d with
  |zero=>
   intro i h;obtain⟨x,q,_,f⟩:=C.at_ p (i:=i) (by lia);have:=(Px f).1;lia
  |succ d ih=>
   intro i h;have:=ih (i+1) (by lia);have:=u i (i+1) (by lia) (by lia);lia
 apply Array.ext
 ·rw[Array.size_map,p.size_eq,<- m];simp
 ·intro i h1 h2;rw[Array.size_map,p.size_eq]at h1;have k:kR ws xs i=i:=Nat.le_antisymm (b ((O4 vs).size-1-i) i (by lia)) (a i h1);obtain⟨x,q,e,f⟩:=C.at_ p h1;rw[k]at f;have j:(x,q)∈(O4 vs).toList:=(cf.mp p).mem_iff.mp (aO.mpr (cj e));rw[pairsOf_toList]at j;have l:x=q:=(mem_zip_self j).1;have c:(xs.map (·.2))[i]?=Z q:=by rw[Array.getElem?_map,e];rfl
  have g:ws.toArray[i]?=Z x:=by rw[ck];exact f
  rw[aG1 (by rw[Array.size_map,p.size_eq];exact h1)]at c;rw[aG1 h2]at g;rw[Option.some.inj c,Option.some.inj g,l]
end
theorem Am{p q:dM}{b:Bool}{Q:Bool->dN->Prop}(r:BZ A.in1 s p q b)(h:Q b s):dX (MN prog w) A (oneLt' J p q) Q E s:=by
 rw[oneLt'_eq];simp only[bF1,NH];exact wB1 (wpAny_of_in1 (r prog w E _ (MR h)))
theorem jg(f:Bool)(x y:dM):keyLt' (O5 f) x y=(do
  let xs<-O6 x
  let ys<-O6 y
  for ((p,q),i) in (xs.toList.zip ys.toList).zipIdx do
   if !(<- eqBool p q)then return<-oneLt' (f&&i == 0) p q
  return decide (xs.size<ys.size)):=rfl
theorem GW{a b:dP}{g zs:List dM}{k:Bool}{Q:Bool->dN->Prop}(ha:MD s.heap a g.toArray)(hb:MD s.heap b zs.toArray)(L:uU A s g zs k)(h:Q k s):
  dX (MN prog w) A (keyLt' (O5 J) (.ref a) (.ref b)) Q E s:=by
 rw[jg];obtain⟨o,m,y,_,r⟩:=ha;obtain⟨B,u,v,_,n⟩:=hb;refine wB1 (O7 m r (wB1 (O7 u n ?_)));simp only[Bool.false_and];refine wB1 (MQ (OC _ (λrest c s'=>s'=s/\c=(Y,()) /\ ∃(i:Nat) (vs ws:List dM),rest=(vs.zip ws).zipIdx i/\uU A s vs ws k/\vs.length+zs.length=ws.length+g.length)
  (λc s'=>s'=s/\(c=(Z k,())\/(c=(Y,())/\k=decide (g.length<zs.length)))) ?_ ?_ _ _ ⟨O,O,0,g,zs,O,L,by lia⟩) ?_ λ_ _ e=>e)
 ·rintro x rest c s' ⟨rfl,rfl,i,vs,ws,d,j,f⟩;cases j with
  |nn=>simp at d
  |nc _ _=>simp at d
  |cn _ _=>simp at d
  | @eq p q ps l _ e t=>
   rw[bW,bN]at d;cases d;refine wB1 (e.of_in1 prog w E _ ?_);simp only[b7,bF1,NH];exact wP1 ⟨O,O,i+1,ps,l,O,t,by simp at f;lia⟩
  | @lt p q ps l _ e t=>
   rw[bW,bN]at d;cases d;refine wB1 (e.of_in1 prog w E _ ?_);simp only[cm,NJ];exact wB1 (Am t (wP1 ⟨O,.inl O⟩))
 ·rintro c s' ⟨rfl,rfl,i,vs,ws,d,j,f⟩;refine⟨O,.inr ⟨O,?_⟩⟩;cases j with
  |nn=>simp at f;rw[ai (by lia)]
  |nc _ _=>simp at f;rw[ah (by lia)]
  |cn _ _=>simp at f;rw[ai (by lia)]
  |eq _ _=>simp at d
  |lt _ _=>simp at d
 ·rintro c s' ⟨rfl,z⟩;rcases z with rfl|⟨rfl,z⟩
  ·exact wP1 h
  ·refine wP1 ?_;rw[sT1,sT1,<- z];exact h
theorem lZ{ao:Model}{α β:Type}{f:α->Sem β}{P:α->β->Prop}:∀ {l:List α} {Q:List β->dN->Prop},(∀ v∈l,∃ r,P v r /\ ∀ Q:β->dN->Prop,Q r s->dX ao A (f v) Q E s) ->
  (∀rs,rs.length=l.length->(∀r∈rs,∃v∈l,P v r)->Q rs s)->dX ao A (l.mapM f) Q E s
 |[],Q,_,q=>by rw[List.mapM_nil];exact wP1 (q [] rfl λr a=>by cases a)
 |v::l,Q,h,q=>by
  rw[List.mapM_cons];obtain⟨r,p,a⟩:=h v mS1;refine wB1 (a _ ?_);refine wB1 (lZ (λv d=>h v (mC1 _ d)) λrs e g=>?_);refine wP1 (q (r::rs) (by rw[lC1,lC1,e]) λx c=>?_);rcases aF.mp c with z|z
  ·exact⟨v,mS1,by rw[z];exact p⟩
  ·obtain⟨b,h1,h2⟩:=g x z;exact⟨b,mC1 _ h1,h2⟩
theorem ux(v:dM):firstOfTuple' v=(do
  if(<- typeOf v) != .type "tuple" then return Y
  return (<- O6 v)[0]?):=rfl
theorem GX{vs:List dM}{Q:OQ->dN->Prop}(i:vs≠[])(h:∀ v∈vs,∃ a p ps b c,v = .ref a/\MD s.heap a (p::ps).toArray/\p = .ref b/\MD s.heap b c)(q:Q (O5 false) s):
  dX (MN prog w) A (keyKind' vs.toArray) Q E s:=by
 rw[keyKind'_eq,cq,<- bind_pure_comp];refine wB1 (wB1 (lZ (P:=λ_ r=>∃b c,r=Z (.ref b)/\MD s.heap b c) (λv m=>?_) λrs D n=>wP1 ?_))
 ·obtain⟨a,p,ps,b,c,rfl,⟨o,g,l,_,B⟩,rfl,j⟩:=h v m;refine⟨Z (.ref b),⟨b,c,O,j⟩,λQ q=>?_⟩;rw[ux];refine wB1 (NQ (T:="tuple") ⟨o,g,l⟩ ?_);rw[aj (by decide)];refine wB1 (O7 g B (wP1 ?_));simpa using q
 ·have G:rs.toArray.all (·.isSome)=true:=by
   rw[cr,bD];intro r u;obtain⟨v,_,b,c,e,_⟩:=n r u;rw[e];rfl
  rw[ak G];refine wB1 (M9 ?_);rw[oneTypeOnly'_eq];have y:rs.toArray.filterMap id=(rs.filterMap id).toArray:=by simp
  rw[y,cq,<- bind_pure_comp];refine wB1 (wB1 (wB1 (lZ (P:=λ_ t=>t=MB "tuple") (λv m=>?_) λd f j=>wP1 ?_)))
  ·obtain⟨r,u,e⟩:=aM.mp m;obtain⟨I,_,b,c,F,⟨o,g,l,_⟩⟩:=n r u;rw[F]at e;cases e;exact⟨_,O,λQ q=>NQ (T:="tuple") ⟨o,g,l⟩ q⟩
  ·cases d with
   |nil=>
    exfalso;cases rs with
    |nil=>exact i (cs.mp D.symm)
    |cons r rs=>
     obtain⟨_,_,b,_,e,_⟩:=n r mS1;rw[e]at f;simp at f
   |cons t d=>
    have all:∀x∈t::d,x=MB "tuple":=λx k=>by obtain⟨_,_,z⟩:=j x k;exact z
    have H:=all t mS1;subst H;have C:((MB "tuple"::d).toArray.all λx=>x == MB "tuple")=M:=by
     rw[cr,bD];intro x k;rw[all x k];rfl
    show dX _ _ (pure (if((MB "tuple"::d).toArray.all λx=>x == MB "tuple")=M then Z (MB "tuple")else Y)) _ _ _;rw[ak C];exact wP1 (wP1 q)
theorem Ct {a:dP}{vs ws:List dM}{n:Nat}{κ:OQ}{P:Fin->dN->Prop}(ho:s.heap.get? a=some (O8 "list" vs.toArray n))(j:vs.length<64)(hp:vs.Perm ws)
  (q:∀h',(∀b o,b≠a->s.heap.get? b=Z o->h'.get? b=Z o)->2<=vs.length->js prog w A {s with heap:=h'} κ ws (O4 vs) /\ ∀Q:OQ->dN->Prop,Q κ {s with heap:=h'}->dX (MN prog w) A (keyKind' vs.toArray) Q E {s with heap:=h'})
  (h:P (.done (.ret .none)) {s with heap:=O9 s.heap a vs ws.toArray}):dX (MN prog w) A (Builtin.«list.sort» ⟨[.ref a],[]⟩) P E s:=by
 rw[list_sort_plain];have t:a<s.heap.objs.size:=hL1 ho;refine wB1 (O7 ho O ?_);refine wB1 (Pa ho O ?_);obtain⟨i,d⟩:∃i,(s.heap.update a (NT λ_=> #[])).get? a=some (O8 "list" #[] i):=⟨_,get?_update_seq ho (λ_=> #[])⟩;refine wB1 (Pb d O (wB1 (On (wB1 (Pc (M5 ?_))))));have keep:∀b o,b≠a->s.heap.get? b=Z o->(((s.heap.update a (NT λ_=> #[])).push (O8 "tuple" vs.toArray 0)).push (O8 "list" #[] 0)).get? b=Z o:=λb o r e=>
  hP1 _ (hP1 _ (by rw[hU1 _ _ _ _ r];exact e))
 have c:(((s.heap.update a (NT λ_=> #[])).push (O8 "tuple" vs.toArray 0)).push (O8 "list" #[] 0)).get? a=Z (O8 "list" #[] i):=hP1 _ (hP1 _ d);show dX (MN prog w) A _ P E {s with heap:=((s.heap.update a (NT λ_=> #[])).push (O8 "tuple" vs.toArray 0)).push (O8 "list" #[] 0)};dsimp only;have l:vs.toArray.size=vs.length:=by simp
 have g:=hp.length_eq;have f:∀xs:Array OP,xs.map (·.2)=ws.toArray->P (.done (.ret .none)) {s with heap:=O9 s.heap a vs (xs.map (·.2))}:=λxs e=>by rw[e];exact h
 by_cases h2:vs.toArray.size<2
 ·rw [if_pos h2,if_pos h2];refine wB1 (wP1 ?_);rw [StateT.run_pure];refine wB1 (wP1 (wB1 (Pb c rfl ?_)));have e:((vs.toArray.zip vs.toArray).map (·.2):Array dM)=ws.toArray:=by
   have:vs=ws:=by
    match vs,ws,hp,h2 with
    |[],ws,hp,_=>exact(List.nil_perm.mp hp).symm
    |[x],ws,hp,_=>exact(List.singleton_perm.mp hp).symm ▸ rfl
    |_::_::_,_,_,h2=>simp at h2;lia
   subst this;apply Array.ext';simp;exact List.map_snd_zip (nR1 _)
  refine wB1 (Pa c O ?_ (hsz2:=by
   show(Array.map (·.2) (vs.toArray.zip vs.toArray)).size<=_;rw[e,sT1,<- g,No];lia))
  simp only[Pd,bF1,NH];exact wP1 (f _ e)
 ·rw [if_neg h2,if_neg h2];obtain ⟨C,K⟩:=q _ keep (by lia);refine wB1 (K _ ?_);refine wB1 (MQ (Fi C (st:=Pe κ (vs.toArray.zip vs.toArray) #[] 7 none)
   (Q:=λ_ st'=>(OS st').Perm (O4 vs)/\OT st'=Y/\Up ws (OS st') (O4 vs).size) ⟨Array.Perm.refl _,O,O,O⟩ (by rw[pairsOf_size];lia) (by rw[pairsOf_size];exact j) λst' a1 a2 a3=>⟨a1,a2,a3⟩) ?_ λ_ _ e=>e)
  rintro⟨⟨⟩,st'⟩ s' ⟨rfl,p,k,m⟩;have e:=zD C p m;refine wB1 (Pb c O ?_);refine wB1 (Pa c O ?_ (hsz2:=by
   show(Array.map (·.2) (OS st')).size<=_;rw[e,sT1,<- g,No];lia))
  rw[k];simp only[Pd,bF1,NH];exact wP1 (f _ e)
section
variable{prog:dQ}{w:dS}{A:dR}{E:dM->dN->Prop}{R:Result->dN->Prop}
end
abbrev we(h:dZ)(it d:dP)(i n ep:Nat):Prop:=h.get? it=Z {cls:=.type "dict_keyiterator",dict:=Y,data:=.fields #[.ref d,.int i 0,.int n 0,.int ep 0],slots:= #[]}
theorem DC{it d:dP}{i ep:Nat}{es:Array N1}{o:Obj}{Q:Option dM->dN->Prop}(c:we s.heap it d i es.size ep)(hd:s.heap.get? d=Z o)(j:o.data = .dict es ep)(hi:i<es.size)(q:∀h',we h' it d (i+1) es.size ep->MM it s.heap h'->Q (Z es[i].key) {s with heap:=h'}):dX (MN prog w) A (Nc (.ref it)) Q E s:=by
 have k:s.TypeIs (.ref it) "dict_keyiterator":=⟨_,c,O⟩;unfold Nc;refine wB1 (Ol (NM (name:=NN "__next__") k Pf
  (wE1 Pf k PySem.F.entry_dict_keyiterator_next ?_ (PySem.F.args_dict_keyiterator_next_1 _))))
 refine wB1 (wP1 (wB1 (wB1 (wB1 (Pg k (wP1 ?_))))));refine wB1 (wpAny_fieldsOf c O ?_);have h:Builtin.Dict_items.ownsTuple "dict_keyiterator"=J:=by decide
 simp only[h,bF1,NH];show dX _ _ (if(Mz d == ab)=M then _ else _) _ _ s;rw[aj (show¬ ((Mz d == ab)=M)from aL)];refine wB1 (wP1 (wB1 (wpAny_dictEntries hd j ?_)));rw[aj (by simp)];refine wB1 (wP1 (wB1 (wpAny_dictEpoch hd j ?_)));rw[aj (by simp)];refine wP1 ?_;simp only[show¬ ((i:Int)<0)from by lia,NH,NF,aG1 hi];refine wB1 (wB1 (Pg k (wP1 ?_)));refine wB1 (wpAny_isOneOf_keyiter k ?_);show dX _ _ (setField (.ref it) 1 (Ng ((i:Int)+1)) >>= _) _ _ s;refine wB1 (wS1 c (by simp) λb a f=>?_);replace a:we b it d (i+1) es.size ep:=by
  have e:((i+1:Nat):Int)=(i:Int)+1:=by lia
  unfold we;rw[e];simpa[Ng]using a
 have g:Shared.TypeIs {s with heap:=b} (.ref it) "dict_keyiterator":=⟨_,a,O⟩;refine wB1 (M5 (wB1 (wpAny_isOneOf_keyiter g ?_)));show dX _ _ (pure es[i].key) _ _ _;exact wP1 (wP1 ⟨_,O,wP1 (q b a f)⟩)
theorem GV{it d:dP}{i ep:Nat}{es:Array N1}{o:Obj}{Q:Option dM->dN->Prop}(p:A.handled=Y)(c:we s.heap it d i es.size ep)(hd:s.heap.get? d=Z o)(h:o.data = .dict es ep)(hi:es.size<=i)(q:∀h',(∀b o,b≠it->s.heap.get? b=Z o->h'.get? b=Z o)->Q Y {s with heap:=h'}):dX (MN prog w) A (Nc (.ref it)) Q E s:=by
 have j:s.TypeIs (.ref it) "dict_keyiterator":=⟨_,c,O⟩;unfold Nc;refine wB1 (Ol (NM (name:=NN "__next__") j Pf
  (wE1 Pf j PySem.F.entry_dict_keyiterator_next ?_ (PySem.F.args_dict_keyiterator_next_1 _))))
 refine wB1 (wP1 (wB1 (wB1 (wB1 (Pg j (wP1 ?_))))));refine wB1 (wpAny_fieldsOf c O ?_);have g:Builtin.Dict_items.ownsTuple "dict_keyiterator"=J:=by decide
 simp only[g,bF1,NH];show dX _ _ (if(Mz d == ab)=M then _ else _) _ _ s;rw[aj (show¬ ((Mz d == ab)=M)from aL)];refine wB1 (wP1 (wB1 (wpAny_dictEntries hd h ?_)));rw[aj (by simp)];refine wB1 (wP1 (wB1 (wpAny_dictEpoch hd h ?_)));rw[aj (by simp)];refine wP1 ?_;simp only[show¬ ((i:Int)<0)from by lia,NH,NF,Array.getElem?_eq_none hi];refine wB1 (wB1 (Pg j (wP1 ?_)));show dX _ _ (setField (.ref it) 0 .none >>= _) _ _ s;refine wB1 (wS1 c (by simp) λl k f=>?_);show dX _ _ (newExc (.type "StopIteration") [] >>= _) _ _ _;refine wB1 ?_;simp only[newExc,newTuple];refine wB1 (wO1 ?_ (by size_fits));refine wB1 (m:=Oi _ _) (wpAny_of_eq (a:=ab) (by first|rfl|(simp only[Oi];rfl)) ?_);refine wO1 ?_ (by size_fits);simp only[raiseNew];refine wB1 (wpAny_handled ?_);rw[show A.in1.handled=Y from p];refine wB1 (wP1 (wpAny_throw ?_));refine wB1 (Os (T:="StopIteration") (b:=M) ⟨_,hS1 _ O,O⟩ Ot ?_);exact wP1 (q _ λb o n e=>hP1 _ (hP1 _ (f.extBut b o n e)))
theorem DE {d:dP}{es:Array N1}{ep:Nat}{o:Obj}{Q:dM->dN->Prop}(hm:(d == MF)=false)(hd:s.heap.get? d=some o)(hc:o.cls = .type "dict")(a:o.data = .dict es ep)(hn:es.size<=dW)
  (q:Q (.ref s.heap.objs.size) {s with heap:=s.heap.push {cls:=.type "dict_keyiterator",data:=.fields #[.ref d,.int 0 0,.int es.size 0,.int ep 0]}}):dX (MN prog w) A (Nf (.ref d)) Q E s:=by
 have b:s.TypeIs (.ref d) "dict":=⟨o,hd,hc⟩;refine wpAny_pyIter_slot b PySem.F.slot_dict_iter (wE1 PySem.F.slot_dict_iter b PySem.F.entry_dict_iter ?_ (PySem.F.args_dict_iter_1 _));unfold Builtin.«dict.__iter__»;refine wB1 ?_;unfold Builtin.Dict.dictSlotNone;refine wB1 (wpAny_notOrdered_dict b ?_);show dX _ _ (pure (Mz d)) _ _ s;refine wP1 ?_;show dX _ _ (Builtin.Dict.showsAll d >>= _) _ _ s;unfold Builtin.Dict.showsAll;rw[aj (by rw[hm];exact aL)];refine wB1 (wP1 (wB1 (wpAny_dictEntries hd a (wB1 (wpAny_dictEpoch hd a (wB1 ?_))))));refine wO1 (wP1 ⟨_,O,"dict_keyiterator",_,⟨_,hS1 _ O,O⟩,PySem.F.slot_dict_keyiterator_next.lookup,?_⟩);simpa[Ng]using q
section
variable{prog:dQ}{w:dS}{A:dR}{E:dM->dN->Prop}{R:Result->dN->Prop}
theorem DD{it d S:dP}{ep:Nat}{es:Array N1}{o:Obj}{m:dM}(I:A.handled=none)(q:o.data = .dict es ep)(h1:it≠d)(h2:S≠d)(F:S≠it)(hn:es.size<=dW):
  ∀(k i:Nat) (s:dN) (acc:Array dM) (c:Nat),es.size-i=k->i<=es.size->we s.heap it d i es.size ep->s.heap.get? d=Z o ->
  s.heap.get? S=Z {cls:=.type "list",dict:=Y,data:=.seq acc c,slots:= #[]}->acc.toList=(es.toList.take i).map (·.key) ->
  (∀h' a z,(∀b u,b≠it->b≠S->s.heap.get? b=Z u->h'.get? b=Z u)->h'.get? S=Z {cls:=.type "list",dict:=Y,data:=.seq a z,slots:= #[]}->a.toList=es.toList.map (·.key)->R (.ok (.ret m)) {s with heap:=h'}) ->
  dY (MN prog w) A (.builtin "list.extend.loop" ⟨[.ref S,.ref it,m],[]⟩) R s:=by
 intro k
 induction k with
 |zero=>
  intro i s acc c H hi g x D v G;have e:i=es.size:=by lia
  subst e;refine wD1 PySem.F.entry_extend_loop ?_;rw[OE Ph _];show dX _ A.in1 (Nc (.ref it) >>= _) _ _ s;refine wB1 (GV I g x q (nR1 _) λh' keep=>wP1 ?_);exact G h' acc c (λb u l _ e=>keep b u l e) (keep S _ F D) (by rw[v,<- aK,b4])
 |succ k ih=>
  intro i s acc c H hi g x D v G;have f:i<es.size:=by lia
  have n:acc.size=i:=by rw[<- aK,v,lM1,aT,aK];lia
  refine wD1 PySem.F.entry_extend_loop ?_;rw[OE Ph _];show dX _ A.in1 (Nc (.ref it) >>= _) _ _ s;refine wB1 (DC g x q f λh' t C=>?_);have p:=C.extBut S _ F D;show dX _ A.in1 (updateSeq S (·.push es[i].key) >>= _) _ _ _;refine wB1 (Pi (s:={s with heap:=h'}) p O ?_ (by rw[n];lia) (by show(acc.push _).size<=dW+1;rw[Array.size_push,n];lia));have j:∀b u,b≠S->h'.get? b=Z u->(h'.update S (NT (·.push es[i].key))).get? b=Z u:=λb u l e=>by rw[hU1 _ _ _ _ l];exact e
  refine wP1 ⟨OD Ph _,ih (i+1) {s with heap:=h'.update S (NT (·.push es[i].key))} (acc.push es[i].key) _ (by lia) f (j it _ (ML F) t) (j d _ (ML h2) (C.extBut d _ (ML h1) x)) (hW1 _ p O) ?_ ?_⟩
  ·rw[cu,v,cv,aT1,aG1 f,cx];rfl
  ·intro y a z h E B;exact G y a z (λb u l r e=>h b u l r (j b u r (C.extBut b u l e))) E B
theorem Bz:typeLookup (.type "dict") "__len__"=pure (Z (.builtin "dict.__len__")):=by rw[typeLookup_type,builtinLookup_eq_fast];kernel_rfl
theorem DF {s:dN}{v:dP}{Q:Bool->dN->Prop}(c:s.TypeIs (.ref v) "dict")(q:Q J s):dX (MN prog w) A (Builtin.List.listLengthHint (.ref v)) Q E s:=by
 unfold Builtin.List.listLengthHint;refine wB1 (OH c Bz ?_);generalize a:("dict.__len__":String)=id0
 wp_delta
 rw[show splitId id0=Z ("dict","__len__")from by subst a;decide+kernel];subst a;refine wB1 (Os (b:=M) c (by rw[isSubtype_type];kernel_rfl) ?_);rw[aj (by decide)];dsimp only;rw[ak (by decide+kernel)];refine wB1 (NQ c ?_);exact wP1 q
end
theorem KT.keys{K:Fg1}{H:Hp}{mu:List dP}:∀{ks:List (TK×D)} {ws:List (TK×dP×dM)},KT K H mu ks ws->ej K H mu (ks.map λp=>lz p.1) (ws.map λx=>V.ref x.2.1)
 |_,_,.nil=>.nil
 |_,_,.cons ⟨z,d,k,_⟩ t=>.cons k (KT.keys t)
theorem pQ:∀ws:List (TK×dP×dM),eH (ws.map λx=>V.ref x.2.1) (ws.map λx=>Mz x.2.1)
 |[]=>.nil
 |_::ws=>.cons O (pQ ws)
section
variable{ag:List (dP×Obj)}{σ:L2.St}{H:Hp}{s:dN}{a:dP}{u v:HO}
end
inductive En (a:dP):List (TK×dP×dM)->HO->Prop
 |ext (xs:List (TK×dP×dM)):En a xs (.ext (iM a xs))
 |dK:En a [] (.dK [])
theorem Hj{X:Cx}{ag:List (dP×Obj)}{σ:L2.St}{H:Hp}{s:dN}{a:dP}{u:HO}{xs:List (TK×dP×dM)}(I:Inv X ag σ H s)(e:H a=Z u)(h:En a xs u):∃o,s.heap.get? a=Z o/\B2 a xs o:=by
 cases h with
 |ext xs=>
  obtain⟨⟨h1,h2,o,es,ep,b,c,d,f⟩,_⟩:=(show fb X.prog X.w H s.heap a (.ext (iM a xs))from I.hok a _ e);exact⟨o,b,h1,h2,c,es,ep,d,f⟩
 |dK=>
  obtain⟨_,h1,vs,h2,b⟩:=(show fb X.prog X.w H s.heap a (.dK [])from I.hok a _ e);cases h2;obtain⟨o,es,ep,b,c,d,f,_⟩:=uC b;exact⟨o,b,h1,bp,c,es,ep,d,f⟩
noncomputable def A5:Ob->Option (List (TK×D))
 | .dcT kvs=>Z kvs
 | .dct []=>Z []
 |_=>Y
section
variable{K:Fg1}{H H':Hp}{mu mu':List dP}{S:d7}{n:Nat}{a:dP}{o:Obj}{u:HO}
theorem nv.exv{b:dP}(e:B7 mu mu' H H')(h:∀o,H b=Z o->H' b=Z o):∀{o:Ob},nv K H mu b o->nv K H' mu' b o
 | .lst _,⟨vs,q,r⟩=>⟨vs,h _ q,r.exv e⟩
 | .dct _,⟨ws,q,r⟩=>⟨ws,h _ q,Paired.mapP r λ_ _ z=>⟨z.1,z.2.exv e⟩⟩
 | .dcT _,⟨ws,q,r,l⟩=>⟨ws,h _ q,Paired.mapP r λ_ _ ⟨z,d,k,v,a,r⟩=>⟨z,d,k.exv e,v,a,r.exv e⟩,l⟩
 | .iset _,q=>⟨h _ q.1,q.2⟩
 | .dcF _,⟨ws,⟨o,u,f,c⟩,r,l⟩=>⟨ws,⟨o,u,h _ f,c⟩,Paired.mapP r λ_ _ ⟨z,d,k,v,a,r⟩=>⟨z,d,k.exv e,v,a,r.exv e⟩,l⟩
 | .tst _,⟨ws,q,r⟩=>⟨ws,h _ q,Paired.mapP r λ_ _ ⟨z,d,k,v,a,r⟩=>⟨z,d,k.exv e,v,a,r.exv e⟩⟩
theorem DP(s:Sim K H mu S){ob:Ob}{kvs:List (TK×D)}(h:S[n]? = some ob)(hk:A5 ob=some kvs)(hn:mu[n]? = some a):
  ∃xs u,H a=Z u/\En a xs u/\KT K H mu kvs xs/\xs.length<=dW /\ ∀H' mu',B7 mu mu' H H'->H' a=Z u->nv K H' mu' a ob:=by
 cases ob with
 |dcT ks=>
  cases hk;obtain⟨xs,e,r,l⟩:=s.dcT h hn;exact⟨xs,_,e,.ext xs,r,l,λH' mu' x b=>⟨xs,b,Paired.mapP r λ_ _ ⟨z,d,k,v,c,r⟩=>⟨z,d,k.exv x,v,c,r.exv x⟩,l⟩⟩
 |dct ks=>
  cases ks with
  |nil=>
   cases hk;obtain⟨ws,e,r⟩:=s.dct h hn;cases r;exact⟨[],_,e,.dK,.nil,bj _,λH' mu' x b=>⟨[],b,.nil⟩⟩
  |cons _ _=>cases hk
 |_=>cases hk
end
structure TS (l:Bool)(t:SetTable):Prop where
 up:Ris t.place
 du:t.dummies = #[]
 ld:t.led=l
def Ma(e:Int×dM):Int:=match e.2 with
 | .int k _=>k
 |_=>0
structure LD (es:Array (Int×dM))(ns:List Int):Prop where
 el:∀e∈es.toList,∃k t,e=(hashInt k,aa k t)
 pm:(es.toList.map Ma).Perm ns
theorem LD.size{es:Array (Int×dM)}{ns:List Int}(h:LD es ns):es.size=ns.length:=by
 have:=h.pm.length_eq;rw[lM1,aK]at this;exact this
section
variable{P:dQ}{w:dS}{A:dR}{E:dM->dN->Prop}{s:dN}{b:Bool}{p:dP}{ns:List Int}
end
section
variable{P:dQ}{w:dS}{A:dR}{E:dM->dN->Prop}{s:dN}
def uM(w:dS):Bool:=w.params.followText "set-order"
theorem Da(x:dM){G:dM->dN->Prop}(q:G (.ref s.heap.objs.size) {s with heap:=s.heap.push (stO #[] 0 (.fresh 0 0 (!uM w)))}):
  dY (MN P w) A (.call (.builtin "set.__new__") ⟨[.type "set",x],[]⟩) (wants G E) s:=by
 refine codeAny_of_tree (?_:dX _ A.in1 (do checkBuiltinCall "set.__new__" ⟨[.type "set",x],[]⟩;again (.builtin "set.__new__" ⟨[.type "set",x],[]⟩)) _ _ s);refine wB1 (wpAny_of_eq (PySem.F.newCall_set_1 x) (wP1 ⟨OD PySem.F.plain_set_new _,wD1 PySem.F.entry_set_new (?_:_)⟩));rw[OE PySem.F.plain_set_new _];unfold Builtin.«set.__new__» Builtin.Frozenset.newClass;have a:=sub_set_self;obtain⟨b,g,d,tk,c⟩:=s;dsimp only
 wp_walk
 refine wpAny_askSetting (wP1 (?_:_));dsimp only;simp only[newObj];exact wB1 (wpAny_alloc (wP1 (wP1 q)))
end
section
variable{P:dQ}{w:dS}{A:dR}{E:dM->dN->Prop}{b:Bool}
end
section
variable{P:dQ}{w:dS}{A:dR}{E:dM->dN->Prop}{s:dN}{it a:dP}{f:dM}{i ep:Nat}{es:Array (Int×dM)}{t:SetTable}{pl:List dM}
end
section
variable{P:dQ}{w:dS}{A:dR}{E:dM->dN->Prop}
end
section
variable{ag:List (dP×Obj)}{σ:L2.St}{H:Hp}{s:dN}{a:dP}{kvs:List (Key×V)}{k:Key}{v:V}{u r:dM}{A:dR}{E:dM->dN->Prop}
theorem Hn{Q:dM->dN->Prop}(I:Inv X ag σ H s)(e:H a=Z (.dK kvs))(l:kvs.length<dW)(t:ew (kV k) u)(x:ew v r)(h1:∀z,hA kvs k=Z z -> ∀g s',Inv X ag σ H s'->ew z g->Q g s')(h2:hA kvs k=Y -> ∀s',Inv X ag σ (upd H a (.dK (hL kvs k v))) s'->Q r s'):dX (MN X.prog X.w) A (call (.builtin "dict.setdefault") [.ref a,u,r]) Q E s:=by
 obtain⟨z,j,vs,b,i⟩:=xp I.hok e;refine call_meetsIn PySem.F.slot_dict_setdefault i.typeIs PySem.F.entry_dict_setdefault (PySem.F.args_dict_setdefault_3 _ _ _) (kt_meets_setdefault (fe X.prog X.w) a (oJ t) j r) ⟨vs,i,by rw[<- b.length];exact z,λy c=>?_,λm h' d p=>?_⟩
 ·cases ev:hA kvs k with
  |none=>
   have:=b.val k;rw[ev,c]at this;cases this
  |some z=>
   obtain⟨g,h,f⟩:=lc.some_of (v:=z) (o:=N2 vs k) (by rw[<- ev];exact b.val k);rw[h]at c;cases c;exact h1 z ev _ _ (I.tok _) f
 ·cases ev:hA kvs k with
  |some z=>
   obtain⟨g,h,f⟩:=lc.some_of (v:=z) (o:=N2 vs k) (by rw[<- ev];exact b.val k);rw[h]at m;cases m
  |none=>
   have w:(hL kvs k v).length<=dW:=by have:=iH kvs k v;lia
   have n:∃q,h'.get? a=Z q:=let ⟨q,_,_,hq,_⟩:=d;⟨q,hq⟩
   exact h2 ev _ (kq I (by rw[e];exact Nr) p n (vS w j (b.put k x) d))
end
def Ku(td ty tx:TE):TE:=fun σ H Q=>td σ H λx H1=>∃a,x = .ref a/\Kg H1 a/\ty σ H1 λy H2=>tx σ H2 λz H3=>∃kvs k,H3 a=Z (.dK kvs)/\kvs.length<dW/\y=kV k /\
 (∀v,hA kvs k=Z v->Q v H3)/\(hA kvs k=Y->Q z (upd H3 a (.dK (hL kvs k z))))
theorem F8 {o e f:Expr}{apos cpos:Pos}{td ty tx:TE}(ho:PE X o td)(he:PE X e ty)(hf:PE X f tx)(m:M2 X o "setdefault" apos e f cpos):PE X (.Call (.Attribute o "setdefault" apos) [e,f] [] cpos) (Ku td ty tx):=by
 intro ag s σ H Q I h;refine wpAny_Call_method m.base m.few m.line PySem.F.plainAttrs_dict PySem.F.slot_dict_setdefault PySem.F.type_dict_setdefault (ft (ho ag s σ H _ I h) λu G ⟨x,H1,c,am,a,ex,d,t⟩=>?_);subst ex;obtain rfl:u=Mz a:=am;obtain⟨D,B,_⟩:=Bd c d;refine⟨D,B,?_⟩;rw[m.trees];refine NY O (NZ (Nu (ft (he ag G σ H1 _ c t) λN p ⟨y,H2,A,E,F⟩=>
  Nu (ft (hf ag p σ H2 _ A F) λL K ⟨z,w,n,g,kvs,k,j,el,q,r,i⟩=>Calls.spliced_nil ?_))))
 subst q;exact Hn n j el E g (λv l ao s' b C=>⟨v,w,b,C,r v l⟩) λl s' b=>⟨z,_,b,g,i l⟩
def oE(m a b:FE):FE:=λr S=>(m r S).bind λp=>match p.1 with
 | .ref n=>match p.2[n]? with
  |some (.dct _)=>(a r p.2).bind λq=>(b r q.2).bind λt=>match t.2[n]? with
   |some (.dct kvs)=>(ky q.1).bind λk=>if kvs.length<dW then Z (match eg kvs k with|some z=>(z,t.2)|none=>(t.1,t.2.set n (.dct (fT kvs k t.1))))else none
   |_=>Y
  |_=>Y
 |_=>Y
theorem Cd {o e f:Expr} {apos cpos:Pos} {m a b:FE} (ho:XE X o m) (he:XE X e a) (hf:XE X f b) (hm:autoParam (M2 X o "setdefault" apos e f cpos) xN._auto_1):XE X (.Call (.Attribute o "setdefault" apos) [e,f] [] cpos) (oE m a b):=
 ⟨ff (F8 ho.h he.h hf.h hm) <| by
  rintro σ H Q ⟨r,mu,S,d,S',he,hs,hm,hc⟩;obtain⟨⟨am,B⟩,G,hm⟩:=Py hm;refine⟨r,mu,S,am,B,he,hs,G,λv1 H1 mu1 l P E=>?_⟩;dsimp only at hm;split at hm
  ·rename_i n;split at hm
   ·rename_i R x;cases P with
    | @ref _ wq C=>
     refine⟨wq,O,Bc E C x,?_⟩;obtain⟨⟨T,A⟩,K,hm⟩:=Py hm;obtain⟨⟨I,V⟩,au,hm⟩:=Py hm;refine⟨r,mu1,B,T,A,he.ext l,E,K,λv2 H2 w i r2 L=>?_⟩;refine⟨r,w,A,I,V,(he.ext l).ext i,L,au,λN u g p D q=>?_⟩;dsimp only at hm;split at hm
     ·rename_i kvs aq;obtain⟨k,U,hm⟩:=Py hm;split at hm
      ·rename_i W;have hm:=Option.some.inj hm;have h:=p.at (i.at C);obtain⟨ws,t,s⟩:=q.dct aq h;have y:=s.look (k:=k);refine⟨ws,k,t,by rw[<- s.length];exact W,kn (r2.ext p) U,λv j=>?_,λj=>?_⟩
       ·cases e:eg kvs k with
        |none=>have:=y.2;rw[e]at this;simp[j]at this
        |some z=>
         rw[e]at hm;cases hm;obtain⟨ao,c,F⟩:=y.1 _ e;rw[j]at c;cases c;exact hc _ u g ((l.trans i).trans p) F q
       ·cases e:eg kvs k with
        |some z=>
         obtain⟨ao,c,F⟩:=y.1 _ e;rw[j]at c;cases c
        |none=>
         rw[e]at hm;cases hm;have put:Ext g g u (upd u _ (.dK (hL ws k N))):=Ext.put t trivial (gM1 h);exact hc _ _ g (((l.trans i).trans p).trans put) (D.ext put) (q.put h t trivial ⟨_,eJ,(s.put D).ext put⟩)
      ·cases hm
     ·cases hm
   ·cases hm
  ·cases hm⟩
open AutoSeq1 (wpAny_loadPart')
theorem uJ{Q:List dM->dN->Prop}{r:dP}{a b c:Int}{t u v:Tok}{n:Nat}(D:A.handled=none)(hr:IsRange s.heap r a b c t u v)(hsmall:Builtin.Range.small a b c=true)(hn:Nh a b c=n)(m:n<=2^24)(B:∀h' tk d,(∀b o',s.heap.get? b=some o'->h'.get? b=some o')->ItemsOf (fun i v=>∃t,v = .int (a+i*c) t) d n->Q d.toList {s with heap:=h',toks:=tk}):
  dX (MN prog w) A (collect (.ref r)) Q E s:=by
 unfold collect;refine wB1 (Pj (wD1 F.entry_proto_collect (?_:_)));rw [OE F.plain_proto_collect _];show dX _ A.in1 (newList [] >>= fun l=>again (.builtin "list.__iadd__" ⟨[l,.ref r],[]⟩)) _ _ s;refine wB1 (wO1 (?_:_));refine wP1 ⟨OD F.plain_list_iadd _,wD1 F.entry_list_iadd (?_:_)⟩;rw [OE F.plain_list_iadd _];show dX _ A.in1 (Pk (.ref s.heap.objs.size) (.ref r) (.ref s.heap.objs.size)) _ _ _;have G:(s.heap.push {cls:=.type "list",data:=.seq ([]:List dM).toArray}).get? s.heap.objs.size=some {cls:=.type "list",data:=.seq #[] 0}:=hS1 _ rfl;have j:∀ h' tk d g,(∀ b o',s.heap.get? b=some o'->h'.get? b=some o')->h'.get? s.heap.objs.size=some {cls:=.type "list",dict:=none,data:=.seq d g,slots:= #[]}->ItemsOf (fun i v=>∃ t,v = .int (a+i*c) t) d n ->
   dX (MN prog w) A (match Mz s.heap.objs.size with
   |Mz a=>do
    match (<- load a).data with
     |Data.seq xs _=>pure xs.toList
     |_=>unsupported "internal:collect"
   |_=>unsupported "internal:collect") Q E {s with heap:=h',toks:=tk}:=by
  intro h' tk d g p k y;show dX _ A (load s.heap.objs.size >>= _) _ _ _;refine wB1 (wpAny_load k (?_:_));refine wP1 (?_:_);exact B h' tk d p y
 refine MQ (wpAny_extend_range (A:=A) (R:=λz s'=>∃h' tk d g,z = .ok (.ret (.ref s.heap.objs.size))/\s'={s with heap:=h',toks:=tk}/\(∀b o',s.heap.get? b=Z o'->h'.get? b=Z o')/\h'.get? s.heap.objs.size=Z {cls:=.type "list",dict:=Y,data:=.seq d g,slots:= #[]}/\ItemsOf (λi v=>∃t,v = .int (a+i*c) t) d n)
  (s:={s with heap:=s.heap.push {cls:=.type "list",data:=.seq ([]:List dM).toArray}}) D (hP1 _ hr) hsmall hn m _ _ 0 G λh' tk d g p k y=>
   ⟨h',tk,d,g,O,O,λb o e=>p b o (nN1 (hL1 e)) (hP1 _ e),k,y⟩) (λx s' h=>?_) (λe s' h=>?_)
 ·cases x with
  |done f=>
   obtain⟨h',tk,d,g,e,rfl,q⟩:=h;cases e;exact j h' tk d g q.1 q.2.1 q.2.2
  |again g=>exact⟨h.1,Nv h.2 λr C hr=>by obtain⟨h',tk,d,g,rfl,rfl,q⟩:=hr;exact j h' tk d g q.1 q.2.1 q.2.2⟩
 ·obtain⟨_,_,_,_,e,_⟩:=h;cases e
theorem vF(r:dP)(a b c:Int)(t u v:Tok)(n:Nat)(hsmall:Builtin.Range.small a b c=true)(hn:Nh a b c=n)(f:n<=2^20):
  Meets (Builtin.«tuple.__new__» ⟨[.type "tuple",.ref r],[]⟩)
   (λA R s=>A.handled=Y/\IsRange s.heap r a b c t u v /\ ∀(h':dZ) (tk:Nat) (acc:Array dM),(∀b o',s.heap.get? b=Z o'->h'.get? b=Z o')->ItemsOf (λi v=>∃t,v = .int (a+i*c) t) acc n ->
    R (.ok (.ret (.ref h'.objs.size))) {s with heap:=h'.push {cls:=.type "tuple",data:=.seq acc},toks:=tk}):=
 .of_wp λprog w A R s h=>by
  obtain⟨q,g,d,j,x⟩:=s;obtain⟨B,l,h⟩:=h;have o:=sub_tuple_self;have k:=init_tuple_lookup;have z:=madeHere_tuple;have D:Shared.TypeIs ⟨q,g,d,j,x⟩ (.ref r) "range":=⟨_,l,O⟩;have m:A.in1.handled=Y:=B
  wp_walk using wpAny_loadPart' l,NQ D,uJ m l hsmall hn (aC f (by decide))
  intro h' tk acc y p;show dX _ _ (NR acc.toList.toArray >>= λv=>ret v) _ _ _;unfold NR;have C:n<=dW:=aC f (by decide);refine wB1 (wO1 (?_:_) (show acc.toList.toArray.size<=dW by simp only[cy];rw[p.1];exact C));refine wP1 ⟨_,O,(?_:_)⟩;have e:acc.toList.toArray=acc:=by simp
  rw[e];exact h h' tk acc y p
theorem Hr(hc:X.calm=M):fi X (.type "tuple") (λxs H Q=>∃p i j,xs=[.ref p]/\H p=Z (.rng i j)/\(-(2^62)<=i/\i<2^62 /\ -(2^62)<=j/\j<2^62)/\(j-i).toNat<=2^20 /\ ∀l,H l=Y->Q (.ref l) (upd H l (.tup (ku i (j-i).toNat)))):=by
 intro ag s σ H xs K Q I r h;obtain⟨p,i,j,rfl,w,⟨h1,h2,B,E⟩,n,q⟩:=h;obtain⟨u,rfl,y⟩:=iN r;cases y;obtain⟨t,u,v,e⟩:=I.hok p _ w;have am:(((j-i).toNat:Nat):Int)=Nh i j 1:=by rw[rangeSize_one];split<;>lia
 refine callType_new F.called_tuple (by decide) (F.typeCall_tuple_1 _) (F.newCall_tuple_1 _) (λf=>F.args_object_init_2 f _) F.entry_tuple_new
  (vF p i j 1 t u v (j-i).toNat (small_one h1 h2 B E) am.symm n) ⟨I.ok.hd hc,e,λh' tk a z hi=>⟨⟨_,hS1 _ O,O⟩,(?_:_)⟩⟩
 obtain⟨g,d⟩:=hi;have c:eH (ku i (j-i).toNat) a.toList:=qT (by rw[jD];simpa using g.symm) λk x u D C=>by
  rw[ol _ _ _ _ D];obtain⟨A,rfl⟩:=d k u (by simpa using C);exact⟨A,by rw[Int.mul_one]⟩
 have m:Inv X ag σ H {s with heap:=h',toks:=tk}:=I.kept (t':=tk) z;have G:Inv X ag σ (upd H h'.objs.size (.tup (ku i (j-i).toNat))) {s with heap:=h'.push {cls:=.type "tuple",data:=.seq a},toks:=tk}:=
  m.laid (t':=tk) (λb o e=>hP1 _ e) (nR1 _) (show fb X.prog X.w _ _ _ (.tup _)from⟨by rw[jD];exact aC n (by decide),a.toList,c,by simpa using IsTup.new _ _⟩)
 exact⟨.ref h'.objs.size,_,G,O,q _ (m.hok.fresh (nR1 _))⟩
def Ds(m:FA):FE:=λr S=>(m r S).bind λp=>match p.1 with
 |[.int j]=>if m6 0 j=M then Z (.tup (gb 0 j.toNat),p.2)else Y
 |_=>Y
theorem yZ {a:Expr}{m:FA}{f p2 b c:Pos}(hc:X.calm=true)(hg:Gl X "range")(hm:X.mg "range"=none)(hg2:Gl X "tuple")(hm2:X.mg "tuple"=none)(ha:XA X [a] m)(hs:autoParam (dV [a] X.env=[(false,eval a X.env)]) cu0)
  (hs2:autoParam (dV [.Call (.Name "range" f) [a] [] b] X.env=[(J,eval (.Call (.Name "range" f) [a] [] b) X.env)]) cu0):XE X (.Call (.Name "tuple" p2) [.Call (.Name "range" f) [a] [] b] [] c) (Ds m):=
 ⟨ff (mJ (Hr hc) hg2 hm2 (by decide+kernel) (lU (pZ hg hm ha.h hs) rE hs2) (by decide) (by decide) hs2) <| by
  rintro σ H Q ⟨r,mu,S,d,x,o,hs,hm,e⟩;obtain⟨⟨ds,y⟩,n,hm⟩:=Py hm;dsimp only at hm;split at hm
  ·rename_i j;split at hm
   ·rename_i h;cases hm;refine⟨r,mu,S,_,_,o,hs,n,λvs H1 mu1 q s t=>?_⟩;obtain⟨v,rfl,w⟩:=lS s;cases w;refine⟨j,O,λp g=>⟨p,0,j,O,eJ,(lP h).1,(lP h).2,λl i=>?_⟩⟩;have k:=(q.trans (Ext.fresh (u:=.rng 0 j) g)).trans (Ext.fresh (u:=.tup (ku 0 (j-0).toNat)) i);exact e _ _ mu1 k (.tup (kC.of eJ) (by rw[Int.sub_zero];exact oj _ _)) ((t.fresh g).fresh i)
   ·cases hm
  ·cases hm⟩
section
variable{P:dQ}{w:dS}{A:dR}{E:dM->dN->Prop}{s:dN}
set_option maxHeartbeats 3200000 in
theorem yJ {l:dP}{its:Array dM}{Q:dM->dN->Prop}(D:s.heap.IsTuple l its)
  (i:∀j:dR,j.handled=A.handled -> ∀R:Result->dN->Prop,(∀s',Q (.ref s.heap.objs.size) s'->R (.ok (.ret .none)) s') ->
   dY (MN P w) j (.builtin "set.update.loop" ⟨[.ref s.heap.objs.size,.ref (s.heap.objs.size+1)],[]⟩) R {s with heap:=(s.heap.push (stO #[] 0 (.fresh 0 0 (!uM w)))).push {cls:=.type "tuple_iterator",data:=.fields #[.ref l,.int 0 0]}}):
  dX (MN P w) A (call (.type "set") [.ref l]) Q E s:=by
 obtain⟨S,T,k⟩:=PySem.F.called_set.mro;have h:=PySem.F.called_set.made;have m:=PySem.F.called_set.sub
 refine wpAny_call (codeAny_of_tree (?_:dX _ _ (callAny (.type "set") _) _ _ _));refine wP1 ⟨Code.quiet_builtin _ (by decide+kernel),wD1 PySem.F.entry_type_call (?_:_)⟩;rw[Around.under_plain (weight_type_call_type "set" [.ref l] []) O];have V:=PySem.F.called_set.notType;have ao:=PySem.F.called_set.canCreate;have au:=PySem.F.typeCall_set_1 (.ref l)
 repeat(any_goals (first|wp_step|assumption))
 refine Nv (Da (.ref l) (E:=E) (G:=λx t=>x = .ref s.heap.objs.size/\t={s with heap:=s.heap.push (stO #[] 0 (.fresh 0 0 (!uM w)))}) ⟨O,O⟩) λr t g=>?_;cases r with
 |error e=>exact g
 |ok H=>
  cases H with
  |ret x=>
   obtain⟨rfl,rfl⟩:=g;have p:(s.heap.push (stO #[] 0 (.fresh 0 0 (!uM w)))).get? s.heap.objs.size=Z (stO #[] 0 (.fresh 0 0 (!uM w))):=hS1 _ O;have v:Shared.TypeIs {s with heap:=s.heap.push (stO #[] 0 (.fresh 0 0 (!uM w)))} (.ref s.heap.objs.size) "set":=⟨_,p,O⟩;have N:=PySem.F.called_set.init.lookup;have K:=PySem.F.called_set.init.bind (.ref s.heap.objs.size)
   repeat(any_goals (first|wp_step|assumption))
   refine Nv (codeAny_call_builtin (R:=wants (λr n=>r = .none/\Q (.ref s.heap.objs.size) n) E) PySem.F.called_set.init.plain PySem.F.entry_set_init (check_set_init_1 v (?_:_))) λr2 n a=>?_
   ·obtain⟨F,d,c,o,b⟩:=D;obtain⟨L,C,U,z⟩:=F;simp only at c b;subst c;subst b;have y:(s.heap.push (stO #[] 0 (.fresh 0 0 (!uM w)))).get? l=Z {cls:=.type "tuple",dict:=C,data:=.seq its o,slots:=z}:=hP1 _ d;have W:=PySem.F.sub_tuple_set;have am:=PySem.F.sub_tuple_frozenset;have X:(MB "tuple" == MB "dict")=J:=by decide
    have B:(s.heap.push (stO #[] 0 (.fresh 0 0 (!uM w)))).IsTuple l its:=⟨_,y,O,o,O⟩;have u:(s.heap.push (stO #[] 0 (.fresh 0 0 (!uM w)))).get? s.heap.objs.size=Z {cls:=.type "set",dict:=Y,data:=.set #[] 0 (.fresh 0 0 (!uM w)),slots:= #[]}:=p;unfold Builtin.«set.__init__» noKeywords Builtin.Frozenset.updateFrom;generalize f:Nf=PI
    wp_walk
    subst f;refine wpAny_pyIter_tuple B (wB1 (Pj (?_:_)));dsimp only;rw[show(s.heap.push (stO #[] 0 (.fresh 0 0 (!uM w)))).objs.size=s.heap.objs.size+1 from by rw[hZ1]];refine i A.in1.in1 (by simp) _ λs' q=>?_;exact wP1 (wP1 ⟨O,q⟩)
   ·cases r2 with
    |error e=>exact a
    |ok I=>
     cases I with
     |ret r=>
      obtain⟨rfl,q⟩:=a
      repeat(any_goals (first|wp_step|assumption))
     |_=>exact a.elim
  |_=>exact g.elim
theorem vW{l:dP}{its:Array dM}{ns:List Int}{Q:dM->dN->Prop}(H:A.handled=Y)(m:s.heap.IsTuple l its)(z:N0 its.toList ns)(hb:its.size+1<OO)(q:∀h' tk,(∀c o,s.heap.get? c=Z o->h'.get? c=Z o)->h'.SetOf (intKind P w) s.heap.objs.size (λB=>(firstMet (λi=>ns.getD i 0) its.size).any (· == B)) (firstMet (λi=>ns.getD i 0) its.size).length->Q (.ref s.heap.objs.size) {s with heap:=h',toks:=tk}):dX (MN P w) A (call (.type "set") [.ref l]) Q E s:=by
 have a:l<s.heap.objs.size:=by obtain⟨o,e,_⟩:=m;exact hL1 e
 refine yJ m λp C R am=>?_;have y:(s.heap.push (stO #[] 0 (.fresh 0 0 (!uM w)))).objs.size=s.heap.objs.size+1:=by rw[hZ1]
 have F:(s.heap.push (stO #[] 0 (.fresh 0 0 (!uM w)))).get? s.heap.objs.size=Z (stO #[] 0 (.fresh 0 0 (!uM w))):=hS1 _ O;have b:∀(i:Nat) (v:dM),its[i]?=Z v -> ∃t,v = .int ((λi=>ns.getD i 0) i) t:=λi v G=>PyProof.Rows.IntsAre.int_at z i v (by rw[aT1];exact G);have k:s.heap.objs.size∉[s.heap.objs.size+1,l]:=by
  simp only[aF,cA,bO,Oy,not_or];exact⟨nN1 (bE _),nG1 a⟩
 have h:p.in1.handled=Y:=by simpa using C.trans H
 refine PyProof.Rows.codeAny_set_update_loopS ((Walks.tuple h _ l (nN1 (cB a)) its).toS) s.heap.objs.size k (λi=>ns.getD i 0) b hb (its.size-0) 0 _ (by lia) (bj _) ⟨?_,?_⟩ ?_ λs' d f=>?_
 ·refine⟨{cls:=.type "tuple_iterator",data:=.fields #[.ref l,.int 0 0]},?_,O,O⟩;have this:((s.heap.push (stO #[] 0 (.fresh 0 0 (!uM w)))).push {cls:=.type "tuple_iterator",data:=.fields #[.ref l,.int 0 0]}).get? (s.heap.push (stO #[] 0 (.fresh 0 0 (!uM w)))).objs.size=Z {cls:=.type "tuple_iterator",data:=.fields #[.ref l,.int 0 0]}:=hS1 _ O;rw[y]at this;exact this
 ·obtain⟨o,e,r⟩:=m;exact⟨o,hP1 _ (hP1 _ e),r⟩
 ·exact PyProof.Rows.SetOf_congr ((PyProof.Rows.setObjOf_fresh (knd:=intKind P w) (!uM w)).setOf (hP1 _ F) (by unfold OO;lia)) (λ_=>rfl) O
 ·obtain⟨h',u,n,g,j⟩:=s';have I:u=s.gens:=d.gens;have D:n=s.drawn:=d.drawn;have x:j=s.os:=d.os;subst I;subst D;subst x;refine am _ (q h' g (λc o e=>d.heap c o ?_ (hP1 _ (hP1 _ e))) f);have:=hL1 e;simp only[aF,cA,bO,Oy,not_or];exact⟨nN1 this,nN1 (cB this)⟩
end
def hW:G1:=λd S=>match ei S d with
 |some (_,xs)=>(mQ xs).bind λns=>if ns.length+1<OO then Z (.ref S.length,S++[.iset (ddI ns)])else Y
 |_=>Y
theorem BG{k:Nat}(hr:gl k X.A):fi X (.type "set") (rN X.K (b1 hW)):=by
 intro ag s σ H xs w Q I r h;have E:=h;obtain⟨x,mu,S,d,y,A,rfl,m,i,c,hc⟩:=xX h;unfold hW at c;split at c
 ·rename_i b ys l;cases b with
  |true=>exact Jv hr ag s σ H _ w Q I r ⟨mu,S,[d],y,A,.cons m .nil,i,(by show sj d S=_;unfold sj;rw[l];exact c),hc⟩
  |false=>
  obtain⟨ns,e,c⟩:=Py c;split at c
  ·rename_i v;cases c;obtain⟨a,vs,rfl,q,t⟩:=er m i l;cases r with
   |cons D rt=>
    cases rt;cases D;obtain⟨g,o,B,_⟩:=I.tuple q;obtain⟨hi,n⟩:=qj t o e;have f:g.toArray.size=ns.length:=by rw[sT1,hi.length]
    refine vW (its:=g.toArray) (ns:=ns) hr.hd B (by simpa using hi) (by rw[f];exact v) λh' tk p j=>?_;rw[f,uF]at j;have nd:(ddI ns).Nodup:=oZ ns [] bp;have C:=mD (ddI ns);rw[C]at j;refine⟨.ref s.heap.objs.size,upd H s.heap.objs.size (.set (λk=>(ddI ns).contains k) (ddI ns).length),I.laid (λb u z=>p b u z) (nR1 _) j,O,?_⟩;exact hc _ _ (mu++[s.heap.objs.size]) (Ext.new_ I.fresh) (.ref (gz i.len _)) (i.new I.fresh ⟨eJ,nd⟩)
  ·cases c
 ·cases c
section
variable{a b:Expr}{rest:List Expr}{pos:Pos}{ta tb:TE}{f g:FE}
end
theorem KR.len{K:Fg1}{H:Hp}{mu:List dP}{ks:List (Key×D)}{ws:List (Key×V)}(h:KR K H mu ks ws):ws.length=ks.length:=by
 induction h with
 |nil=>rfl
 |cons _ _ ih=>rw[lC1,lC1,ih]
def xc:G1:=λd S=>match d with
 | .ref n=>match S[n]? with
  |some (.dct kvs)=>Z (.int kvs.length,S)
  |_=>eR d S
 |_=>eR d S
theorem Hu:fi X (.builtin "len") (rN X.K (b1 xc)):=by
 intro ag s σ H xs i Q I r h;obtain⟨x,mu,S,d,g,j,f,c,b,a,hc⟩:=xX h;have m:=a;unfold xc at a;split at a
 ·rename_i n;split at a
  ·rename_i ys e;cases a;subst f;cases c with
   |ref o=>
    obtain⟨ws,p,k⟩:=b.dct e o;cases r with
    |cons q rt=>
     cases rt;cases q;refine Ju I (Rd.of p) λt s' l=>⟨.int ws.length,H,l,⟨_,O⟩,?_⟩;rw[k.len];exact hc.now (.int _) b
  ·exact eU ag s σ H xs i Q I r (by subst f;exact⟨mu,S,[_],g,j,.cons c .nil,b,(show b1 eR [_] S=_ from a),hc⟩)
 ·exact eU ag s σ H xs i Q I r (by subst f;exact⟨mu,S,[_],g,j,.cons c .nil,b,(show b1 eR [_] S=_ from a),hc⟩)
section
variable{P:dQ}{w:dS}{A:dR}{E:dM->dN->Prop}{b:Bool}
end
theorem uI {l:dP}{vs:List dM}{Q:List dM->dN->Prop}(b:s.heap.IsTuple l vs.toArray)
  (h:Q vs {s with heap:=(s.heap.push (O8 "list" #[] 0)).update s.heap.objs.size (NT (· ++ vs.toArray))}) (hsz:vs.length<=dW:=by size_fits):
  dX (MN prog w) A (collect (.ref l)) Q E s:=by
 obtain⟨o,e,hc,n,c⟩:=id b;unfold collect;refine wB1 (Pj (wD1 entry_proto_collect' ?_));show dX _ _ (do again (.builtin "list.__iadd__" ⟨[<- newList [],.ref l],[]⟩)) _ _ s;refine wB1 (Pc (wP1 ⟨Code.quiet_builtin _ (by decide+kernel),wD1 entry_list_iadd' ?_⟩));show dX _ _ (Pk (.ref s.heap.objs.size) (.ref l) (.ref s.heap.objs.size)) _ _ {s with heap:=s.heap.push (O8 "list" #[] 0)};unfold Pk;have a:(s.heap.push (O8 "list" #[] 0)).get? l=Z o:=hP1 _ e;refine wB1 (NQ (T:="tuple") ⟨o,a,hc⟩ ?_);have d:(MB "tuple" == MB "tuple")=M:=by rfl
 rw [if_pos (by rw [d];simp)];refine wB1 (O7 a c ?_);refine wB1 (O7 (xs:= #[]) (n:=0) (hS1 _ rfl) rfl ?_);rw [if_neg (by simp)];refine wB1 (Pa (xs:= #[]) (n:=0) (hS1 _ rfl) rfl ?_ (bj _) (by show (#[]++vs.toArray).size<=dW+1;simp only [Array.size_append,sT1,bg];omega));refine wP1 ?_;show dX (MN prog w) A (do
   let o<-load s.heap.objs.size
   match o.data with
   | .seq xs _=>pure xs.toList
   |_=>unsupported "internal:collect") Q E {s with heap:=(s.heap.push (O8 "list" #[] 0)).update s.heap.objs.size (NT (· ++ vs.toArray))}
 refine wB1 (wpAny_load (get?_update_seq (hS1 _ O) _) ?_);show dX _ _ (pure ((#[]:Array dM)++vs.toArray).toList) Q E _;rw[show((#[]:Array dM)++vs.toArray).toList=vs by simp];exact wP1 h
theorem nZ {l:dP}{vs:List dM}{Q:dM->dN->Prop}(c:s.heap.IsList l vs.toArray\/s.heap.IsTuple l vs.toArray)(f:vs.length<64)
  (h:∀P:PySem.Fin->dN->Prop,(∀out:Array dM,Q (.ref (s.heap.objs.size+1)) {s with heap:=sortedAll s.heap vs out}->P (.done (.ret .none)) {s with heap:=sortedAll s.heap vs out}) ->
   ∀d (h':dZ),h'=(((s.heap.push (O8 "list" #[] 0)).update s.heap.objs.size (NT (· ++ vs.toArray))).push (O8 "list" vs.toArray 0))->h'.get? (s.heap.objs.size+1)=Z (O8 "list" vs.toArray 0) ->
   dX (MN prog w) A.in1.in1 (Builtin.«list.sort» ⟨[.ref (s.heap.objs.size+1)],[]⟩) P d {s with heap:=h'}):
  dX (MN prog w) A (call (.builtin "sorted") [.ref l]) Q E s:=by
 refine Calls.call_function_entry kind_sorted plain_sorted entry_sorted (args_sorted1 _) ?_;unfold Builtin.«sorted»;refine wB1 (m:=checkCount "sorted" 1 1 _) (wP1 ?_);have g:∀(d:dM->dN->Prop) (Q:List dM->dN->Prop),Q vs {s with heap:=(s.heap.push (O8 "list" #[] 0)).update s.heap.objs.size (NT (· ++ vs.toArray))}->dX (MN prog w) A.in1 (collect (.ref l)) Q d s:=λd Q e=>by
  rcases c with c|c
  ·exact collect_list c e (by rw[No];omega)
  ·exact uI c e (by rw[No];omega)
 refine wB1 (g _ _ ?_);refine wB1 (Pc ?_ (by rw[No];omega));have a:((s.heap.push (O8 "list" #[] 0)).update s.heap.objs.size (NT (· ++ vs.toArray))).objs.size=s.heap.objs.size+1:=by
  rw[Heap.size_update,size_push']
 have b:(((s.heap.push (O8 "list" #[] 0)).update s.heap.objs.size (NT (· ++ vs.toArray))).push (O8 "list" vs.toArray 0)).get? (s.heap.objs.size+1)=Z (O8 "list" vs.toArray 0):=by
  rw[<- a];exact hS1 _ O
 show dX _ _ _ _ _ {s with heap:=((s.heap.push (O8 "list" #[] 0)).update s.heap.objs.size (NT (· ++ vs.toArray))).push (O8 "list" vs.toArray 0)};rw[a];refine wB1 (M5 (wE1 slot_list_sort ⟨_,b,O⟩ entry_list_sort (h _ ?_ _ _ O b) (args_list_sort _)));intro out e;exact⟨_,O,wP1 ⟨_,O,e⟩⟩
theorem ug{vs:List dM}{b:dP}{o:Obj}(q:s.heap.get? b=Z o):b≠s.heap.objs.size+1/\(((s.heap.push (O8 "list" #[] 0)).update s.heap.objs.size (NT (· ++ vs.toArray))).push (O8 "list" vs.toArray 0)).get? b=Z o:=by
 have a:b<s.heap.objs.size:=hL1 q;have c:((s.heap.push (O8 "list" #[] 0)).update s.heap.objs.size (NT (· ++ vs.toArray))).objs.size=s.heap.objs.size+1:=by
  rw[Heap.size_update,size_push']
 refine⟨nN1 (cB a),?_⟩;rw[Heap.get?_push_ne _ _ _ (by rw[c];exact nN1 (cB a)),hU1 _ _ _ _ (nN1 a),Heap.get?_push_ne _ _ _ (nN1 a)];exact q
theorem A3{a b:dP}{k l:Int}{t u:Tok}{e zs:List dM}{Q:Bool->dN->Prop}(ha:MD s.heap a (aa k t::e).toArray)(hb:MD s.heap b (aa l u::zs).toArray)(c:k≠l)(h:Q (decide (k<l)) s):
  dX (MN prog w) A (keyLt' (O5 M) (.ref a) (.ref b)) Q E s:=by
 rw[jg];obtain⟨o,d,m,_,g⟩:=ha;obtain⟨n,i,j,_,f⟩:=hb;refine wB1 (O7 d g (wB1 (O7 i f ?_)));rw[bW,bN,bH];refine wB1 (wB1 ?_);dsimp only;refine wB1 (wpAny_eqBool_int ?_);rw[beq_false_of_ne c];simp only[cm,NJ];exact wB1 (oneLt_int (wP1 (wP1 (wP1 h))))
theorem A4{vs:List dM}{Q:OQ->dN->Prop}(d:vs≠[])(h:∀ v∈vs,∃ a k t ps,v = .ref a/\MD s.heap a (aa k t::ps).toArray)(q:Q (O5 true) s):
  dX (MN prog w) A (keyKind' vs.toArray) Q E s:=by
 rw[keyKind'_eq,cq,<- bind_pure_comp];refine wB1 (wB1 (lZ (P:=λ_ r=>∃k t,r=Z (aa k t)) (λv g=>?_) λrs u i=>wP1 ?_))
 ·obtain⟨a,k,t,ps,rfl,⟨o,l,y,_,F⟩⟩:=h v g;refine⟨Z (.int k t),⟨k,t,O⟩,λQ q=>?_⟩;rw[ux];refine wB1 (NQ (T:="tuple") ⟨o,l,y⟩ ?_);rw[aj (by decide)];refine wB1 (O7 l F (wP1 ?_));simpa using q
 ·have p:rs.toArray.all (·.isSome)=true:=by
   rw[cr,bD];intro r j;obtain⟨v,_,k,t,e⟩:=i r j;rw[e];rfl
  rw[ak p];refine wB1 (M9 ?_);rw[oneTypeOnly'_eq];have n:rs.toArray.filterMap id=(rs.filterMap id).toArray:=by simp
  rw[n,cq,<- bind_pure_comp];refine wB1 (wB1 (wB1 (lZ (P:=λ_ t=>t=MB "int") (λv g=>?_) λc b C=>wP1 ?_)))
  ·obtain⟨r,j,e⟩:=aM.mp g;obtain⟨G,_,k,t,m⟩:=i r j;rw[m]at e;cases e;exact⟨_,O,λQ q=>NQ (T:="int") (typeIs_int s k t) q⟩
  ·cases c with
   |nil=>
    exfalso;cases rs with
    |nil=>exact d (cs.mp u.symm)
    |cons r rs=>
     obtain⟨_,_,k,t,e⟩:=i r mS1;rw[e]at b;simp at b
   |cons t c=>
    have all:∀x∈t::c,x=MB "int":=λx f=>by obtain⟨_,_,z⟩:=C x f;exact z
    have B:=all t mS1;subst B;have D:((MB "int"::c).toArray.all λx=>x == MB "int")=M:=by
     rw[cr,bD];intro x f;rw[all x f];rfl
    show dX _ _ (pure (if((MB "int"::c).toArray.all λx=>x == MB "int")=M then Z (MB "int")else Y)) _ _ _;rw[ak D];exact wP1 (wP1 q)
noncomputable def iA:D->Option Int
 | .tup (.int k::_)=>Z k
 |_=>Y
def jE:List D->Bool
 |[]=>M
 |x::l=>(match iA x with
  |some a=>l.all λy=>match iA y with
   |some b=>decide (a<b)
   |none=>J
  |none=>J)&&jE l
theorem tu:∀{l:List D} {i:Nat} {x:D},jE l=M->l[i]?=Z x -> ∃k,iA x=Z k
 |[],i,x,_,h=>by simp at h
 |y::l,0,x,h,e=>by
  cases e;rw[jE,bA1]at h;cases hy:iA y with
  |some k=>exact⟨k,O⟩
  |none=>rw[hy]at h;cases h.1
 |y::l,i+1,x,h,e=>by
  rw[jE,bA1]at h;exact tu h.2 (by simpa using e)
theorem lQ:∀{l:List D} {i j:Nat} {x y:D} {a b:Int},jE l=M->l[i]?=Z x->l[j]?=Z y->i<j->iA x=Z a->iA y=Z b->a<b
 |[],i,j,x,y,_,_,_,h,_,_,_,_=>by simp at h
 |z::l,0,0,_,_,_,_,_,_,_,h,_,_=>by omega
 |z::l,0,j+1,x,y,a,b,h,e1,e2,_,f1,f2=>by
  cases e1;rw[jE,bA1,f1]at h;have:=bD.mp h.1 y (gM1 (by simpa using e2));rw[f2]at this;exact N7 this
 |z::l,i+1,0,_,_,_,_,_,_,_,h,_,_=>by omega
 |z::l,i+1,j+1,x,y,a,b,h,e1,e2,hij,f1,f2=>by
  rw[jE,bA1]at h;exact lQ h.2 (by simpa using e1) (by simpa using e2) (by omega) f1 f2
def gH:G1:=λd S=>match ei S d with
 |some (M,xs)=>match nj xs with
  |some ns=>if ns.length<64 then Z (.ref S.length,S++[.lst ((jz ns).map D.int)])else Y
  |none=>if(jE xs&&decide (xs.length<64))=M then Z (.ref S.length,S++[.lst xs])else Y
 |some (J,xs)=>(nj xs).bind λns=>if ns.length<64 then Z (.ref S.length,S++[.lst ((jz ns).map D.int)])else Y
 |none=>Y
section
variable{ag:List (dP×Obj)}{σ:L2.St}{H:Hp}{s:dN}{mu:List dP}
theorem Fv(I:Inv X ag σ H s):∀{ds:List D} {vs:List V} {its:List dM} {i:Nat} {d:D} {k:Int},ej X.K H mu ds vs->eH vs its->ds[i]?=Z d->iA d=Z k -> ∃b t ps,its[i]?=Z (.ref b)/\MD s.heap b (aa k t::ps).toArray:=by
 intro ds
 induction ds with
 |nil=>intro vs its i d k _ _ h;simp at h
 |cons x ds ih=>
  intro vs its i d k t n h a;cases t with
  |cons l t=>
   cases n with
   |cons c f=>
    cases i with
    |zero=>
     have:x=d:=by simpa using h
     subst this;unfold iA at a;split at a
     ·rename_i p rest;cases a;cases l with
      |tup q j=>
       obtain⟨is,g,it,_⟩:=I.tuple q;cases j with
       |cons rk o=>
        cases rk;cases g with
        |cons m _=>
         obtain⟨tk,rfl⟩:=m;cases c;exact⟨_,tk,_,O,it⟩
     ·cases a
    |succ i=>
     obtain⟨b,tk,ps,e,h⟩:=ih t f (by simpa using h) a;exact⟨b,tk,ps,by simpa using e,h⟩
end
theorem sC:fi X (.builtin "sorted") (rN X.K (b1 gH)):=by
 intro ag s σ H xs us Q I r h;obtain⟨x,mu,S,d,r',S',rfl,r1,B,f,hc⟩:=xX h;unfold gH at f;split at f
 ·rename_i ds en;obtain⟨a,vs,rfl,q,t⟩:=er r1 B en;obtain⟨u,rfl,r2⟩:=iN r;cases r2;obtain⟨its,w,wq,hz⟩:=I.list q;split at f
  ·rename_i ns p;split at f
   ·rename_i hl;cases f;have hI:=qh t w p;have A:its.length=ns.length:=by rw[<- w.length,<- t.length,qk p]
    refine sorted_ints wq.isList hI (by lia) λout am K hp D=>?_;have C:am=jz ns:=nL (hp.trans (fI ns).symm) D (iP ns);subst C;obtain⟨ep,n⟩:=sortedAll_at s.heap its out;have c:=I.hok.fresh (aZ s.heap.objs.size);refine⟨.ref (s.heap.objs.size+1),_,I.laid (t':=s.toks) (o:=.lst ((jz ns).map V.int)) (λb ob q=>sortedAll_old q) (aZ _) ?_,O,hc _ _ (mu++[_]) (Ext.new_ c) (.ref (gz B.len _)) (B.newL (kh _) c)⟩;refine⟨?_,out.toList,ep,qi K,by rw[cy];exact n⟩;rw[lM1,(fI ns).length_eq,No];lia
   ·cases f
  ·split at f
   ·rename_i m;cases f;rw[bA1,al]at m;obtain⟨hr,hl⟩:=m;have A:its.length=ds.length:=by rw[<- w.length,<- t.length]
    have g:∀(i:Nat) (v:dM),its[i]?=Z v -> ∃b d k t ps,v = .ref b/\ds[i]?=Z d/\iA d=Z k/\MD s.heap b (aa k t::ps).toArray:=λi v hv=>by
     have hi:=(Px hv).1;have hd:ds[i]?=Z ds[i]:=gG1 (by omega);obtain⟨k,R⟩:=tu hr hd;obtain⟨b,tk,ps,e,it⟩:=Fv I t w hd R;rw[hv]at e;cases e;exact⟨b,_,k,tk,ps,O,hd,R,it⟩
    have uq:∀{b:dP} {k l:Int} {t u:Tok} {ps qs:List dM},MD s.heap b (aa k t::ps).toArray->MD s.heap b (aa l u::qs).toArray->k=l:=λh1 h2=>by
     obtain⟨o,p,_,_,d1⟩:=h1;obtain⟨o2,e2,_,_,L⟩:=h2;rw[p]at e2;cases e2;rw[d1]at L;injection L with L _;have:=congrArg Array.toList L;injection this with h1 _;injection h1
    refine nZ (.inl wq.isList) (by omega) λP hP E' h' eh F=>?_;refine Ct (s:={s with heap:=h'}) (κ:=O5 M) (ws:=its) F (by omega) (List.Perm.refl _) (λao k2 h2=>?_) ?_
    ·have keep:∀ b o,s.heap.get? b=some o->ao.get? b=some o:=fun b o e=>by
      have:=ug (vs:=its) e;rw[<- eh]at this;exact k2 b o this.1 this.2
     have kt:∀{b:dP} {xs:Array dM},MD s.heap b xs->MD ao b xs:=λh=>h.keeps keep;refine⟨⟨?_,?_,?_⟩,λQ q=>?_⟩
     ·refine cC.mpr λi j hi hj N e=>?_;obtain⟨b,d1,au,t1,G,p,U,W,T⟩:=g i _ (gG1 hi);obtain⟨b2,L,k3,t2,ps2,e2,f2,aq,i2⟩:=g j _ (gG1 hj);rw[p,e2]at e;cases e;have:=lQ hr U f2 N W aq;have:=uq T i2;omega
     ·rw[pairsOf_toList];have:(its.zip its).map (·.1)=its:=List.map_fst_zip (nR1 _);rw[this]
     ·intro x y i j hx hy N E Q q;obtain ⟨b,d1,au,t1,G,rfl,U,W,T⟩:=g i _ hx;obtain ⟨b2,L,k3,t2,ps2,rfl,f2,aq,i2⟩:=g j _ hy;have R:au≠k3/\decide (au<k3)=decide (i<j):=by
       by_cases z:i<j
       ·have:=lQ hr U f2 z W aq;exact⟨by omega,by rw[ah z,ah this]⟩
       ·have:=lQ hr f2 U (by omega) aq W;exact⟨by omega,by rw[ai z,ai (by omega)]⟩
      exact A3 (kt T) (kt i2) R.1 (by rw[R.2];exact q)
     ·refine A4 (λz=>by rw[z]at h2;simp at h2) (λv hv=>?_) q;obtain⟨i,hi⟩:=bq hv;obtain⟨b,d1,au,t1,G,rfl,U,W,T⟩:=g i _ hi;exact⟨b,au,t1,G,O,kt T⟩
    ·have e0:O9 h' (s.heap.objs.size+1) its its.toArray=sortedAll s.heap its its.toArray:=by rw[eh];rfl
     show P _ {s with heap:=O9 h' (s.heap.objs.size+1) its its.toArray};rw[e0];refine hP its.toArray ?_;obtain⟨ep,n⟩:=sortedAll_at s.heap its its.toArray;have c:=I.hok.fresh (aZ s.heap.objs.size);refine⟨.ref (s.heap.objs.size+1),_,I.laid (t':=s.toks) (o:=.lst vs) (λb ob q=>sortedAll_old q) (aZ _) ?_,O,hc _ _ (mu++[_]) (Ext.new_ c) (.ref (gz B.len _)) (B.newL t c)⟩;refine⟨?_,its,ep,w,n⟩;rw[w.length,No];lia
   ·cases f
 ·rename_i ds en;obtain⟨ns,p,f⟩:=Py f;split at f
  ·rename_i hl;cases f;obtain⟨a,vs,rfl,q,t⟩:=er r1 B en;obtain⟨u,rfl,r2⟩:=iN r;cases r2;obtain⟨its,w,wq,hz⟩:=I.tuple q;have hI:=qh t w p;have A:its.length=ns.length:=by rw[<- w.length,<- t.length,qk p]
   refine nZ (.inr wq) (by omega) λP hP E' h' eh F=>?_;refine list_sort_tree (s:={s with heap:=h'}) F hI (by omega) λout am K hp D=>?_;have e0:O9 h' (s.heap.objs.size+1) its out=sortedAll s.heap its out:=by rw[eh];rfl
   show P _ {s with heap:=O9 h' (s.heap.objs.size+1) its out};rw[e0];refine hP out ?_;have C:am=jz ns:=nL (hp.trans (fI ns).symm) D (iP ns);subst C;obtain⟨ep,n⟩:=sortedAll_at s.heap its out;have c:=I.hok.fresh (aZ s.heap.objs.size);refine⟨.ref (s.heap.objs.size+1),_,I.laid (t':=s.toks) (o:=.lst ((jz ns).map V.int)) (λb ob q=>sortedAll_old q) (aZ _) ?_,O,hc _ _ (mu++[_]) (Ext.new_ c) (.ref (gz B.len _)) (B.newL (kh _) c)⟩;refine⟨?_,out.toList,ep,qi K,by rw[cy];exact n⟩;rw[lM1,(fI ns).length_eq,No];lia
  ·cases f
 ·cases f
section
variable{f:dP}{fd:d2}{ps:List Str}{k n:Nat}{sp:Sp}{dvs:List V}{ds:List dM}{CX:yS}{E:XK}{t:TA}{e:Expr}{es:List Expr}{p pos:Pos}{i:Nat}{v x:Str}
end
section
variable{prog:dQ}{w:dS}{K:Type} [DecidableEq K] {knd:HeapKind prog w K}{A:dR}{E:dM->dN->Prop}{s:dN}
end
theorem Kz.fits{es:Array (Int×dM)}{t:SetTable}(h:Kz es t):t.fits es.size=M:=by
 unfold SetTable.fits SetTable.fill;rw[h.du,h.sz];have:=h.fl;simp;exact this
def LO(h:dZ)(k:TK)(e:Int×dM):Prop:=∃a,e=(k.hash,.ref a)/\iB h k (.ref a)/\k.dep<=8
def JO(h:dZ)(xs:List (TK×dP×dM)):Prop:=∀z∈xs,iB h z.1 (.ref z.2.1)/\z.1.dep<=8
theorem JO.el{h:dZ}{xs:List (TK×dP×dM)}{es:Array (Int×dM)}(b:JO h xs)(a:∀e∈es.toList,∃z∈xs,e=(z.1.hash,.ref z.2.1)):∀e∈es.toList,∃f,LO h f e:=λe d=>by
 obtain⟨z,c,rfl⟩:=a e d;exact⟨z.1,z.2.1,O,(b z c).1,(b z c).2⟩
section
variable{P:dQ}{w:dS}{A:dR}{E:dM->dN->Prop}{s:dN}{p:dP}{xs:List (TK×dP×dM)}
end
section
variable{P:dQ}{w:dS}{A:dR}{E:dM->dN->Prop}
end
section
variable{pos:Pos}
theorem gn(i:Nat){x:Str}(hN:X.N.Nodup)(hi:autoParam (X.N[i]?=Z x) cu0)(hx:autoParam (uV X.env.scope x) au0)(hf:autoParam (X.fn x=M\/X.env.scope.names.lookup x=Z .local) au0):XG X (.Name x pos) (gN i):=qO i hN hi hx hf
theorem ce{op:Nm}{x y:Expr}{f:FN}{a b:FE}(ho:gI X (Nl op) (r2 X.K f))(hx:XE X x a)(hy:XE X y b)(hm:Nn op y=J:=by exact As _):XE X (.Compare x [op] [y] pos) (m2 f a b):=Ce ho hx hy hm
theorem ct{op:Nm}{x y:Expr}{f:FN}{a b:FE}(ho:gI X (Nl op) (r2 X.K f))(hx:XE X x a)(hy:XE X y b)(hm:autoParam (Nn op y=J) ce._auto_1):XT X (.Compare x [op] [y] pos) (mB (m2 f a b)):=qX ho hx hy hm
theorem kc{a:d4}{i:Nat}{l:List Nat}(x:Str)(r:∀i∈l,∃x,X.N[i]?=Z x/\a.names.lookup x=Z .free/\(X.env.kindOf x=Z .cell\/X.env.kindOf x=Z .free)/\(x,N9)∉a.names)(h1:autoParam (X.N[i]?=Z x) cu0)(h2:autoParam (a.names.lookup x=Z .free) cu0)(b:autoParam (X.env.kindOf x=Z .cell\/X.env.kindOf x=Z .free) au0)(c:autoParam ((x,N9)∉a.names) eu0):∀j∈i::l,∃x,X.N[j]?=Z x/\a.names.lookup x=Z .free/\(X.env.kindOf x=Z .cell\/X.env.kindOf x=Z .free)/\(x,N9)∉a.names:=List.forall_mem_cons.mpr ⟨⟨x,h1,h2,b,c⟩,r⟩
end
structure eP (K:Fg1)(x:Str)(st:d3)(f:dP):Prop where
 ns:wN1 K dU x=some (some (.ref f))
 fn:∃fd,xI K x x st f fd
theorem Jq{K:Fg1}{x:Str}{st:d3}{f:dP}{g:dM}{i j:Option dP}{e:Array (Option dM)}{kV d h b ct:dM}(a:wN1 K dU x=Z (Z (.ref f)))(l:K.lookup f=Z ⟨g,i,.func (wF1 x x (iJ st) (fK st) (eD st) .none kV d h j b ct),e⟩)(c:wC1 K b x=M)(k:wK1 K (.ref f)=M):eP K x st f:=⟨a,_,Bs l c k⟩
theorem xo{P:dQ}{w:dS}{K:Fg1}{mg:Str->Option dM}{base h:dZ}{x:Str}{st:d3}{f:dP}{N ps:List Str}{k n:Nat}{b:FS}(X:K.In h)(G:h.Ns dU mg)(F:eP K x st f)(S:gR N ps (eD st))(hb:∀(kV g j:dM) (l:Option dP) (a ct:dM) (e:List dM),e.length=ps.length->bindArgs (wF1 x x (iJ st) (fK st) (eD st) .none kV g j l a ct) ⟨e,[]⟩=pure (ps.zip e))(d:∀(f:dP) (a:dM) (A:dR) (c:List Env) (s:dN) (H:Hp) (E:XK),gl k (A.deeper (Ny x (eD st) s.heap.objs.size f a)) ->
   v6 (nC uW P w K mg base N x (eD st) f a A c s H E).nox (fK st) b)(hn:autoParam (ps.length=n) cu0):Own P w K mg base (k+1) x n (iz N.length b):=by
 obtain⟨fd,i⟩:=F.fn;exact wj i (i.binds hb) (wM1 X G F.ns) S hn (d f)
section
variable{ag:List (dP×Obj)}{σ:L2.St}{H:Hp}{s:dN}{mu:List dP}
end
section
variable{P:dQ}{w:dS}{A:dR}{E:dM->dN->Prop}{s:dN}{a x:dP}{xs:List (TK×dP×dM)}{k:TK}
end
section
variable{o e:Expr}{es:List Expr}{to:TE}{t:TA}{name:Str}{apos cpos:Pos}{id:String}{r:V->List V->Hp->VK->Prop}
end
section
variable{x y z u:Expr}{pos:Pos}{f g k:FN}{a b c d:FE}{op op' op'':Nm}{ta tb tc td:TE}
end
structure Blt (L:List Str)(mg:Str->Option dM):Prop where
 h:∀x∈L,mg x=none
theorem bz{L:List Str}{mg:Str->Option dM}{x:Str}(B:Blt L mg)(h:autoParam (x∈L) bu0):mg x=Y:=B.h x h
theorem sk{N P:List Str}{sc:d4}(h1:autoParam (sc.kind = .function) cu0)(h2:autoParam (sc.isCoroutine=J) cu0)(a:autoParam (sc.isGenerator=J) cu0)(b:autoParam (N.Nodup) eu0)(d:autoParam (N.take P.length=P) cu0)(e:autoParam (∀x∈P,sc.names.lookup x=Z .local\/sc.names.lookup x=Z .cell) eu0)(c:autoParam (∀y∈sc.names,y.2 ≠ .free) eu0):gR N P sc:=⟨h1,h2,a,b,d,e,c⟩
def JM(K:Fg1):List Str->Prop
 |[]=>True
 |x::l=>wN1 K dU x=Z Y/\JM K l
theorem JM.blt{K:Fg1}{mg:Str->Option dM}{h:dZ}(X:K.In h)(G:h.Ns dU mg):∀{L:List Str},JM K L->Blt L mg
 |[],_=>⟨λ_ m=>nomatch m⟩
 |_::_,z=>⟨λ_ m=>match m with
  | .head _=>PySem.W.mg_none_of X G z.1
  | .tail _ m=>(JM.blt X G z.2).h _ m⟩
def JY:List Str->Bool
 |[]=>M
 |x::l=> !l.contains x&&JY l
theorem iG:∀{l:List Str},JY l=M->l.Nodup
 |[],_=>bp
 |x::l,h=>by
  obtain⟨a,b⟩:=(bA1 _ _).mp h;exact aQ.mpr ⟨λm=>(by rw[List.contains_iff_mem.mpr m]at a;cases a),iG b⟩
section
variable{pos:Pos}{k:Nat}{x:Str}{i:Nat}{e y:Expr}{es:List Expr}{m b:FE}{a:FA}{p:Pos}
theorem xv (hN:autoParam (X.N[i]?=Z x) cu0)(hv:autoParam (Vis X.env.scope x) au0)(hd:autoParam ((x == ("__debug__":Str))=J) bu0)(hcd:autoParam ((x == ("__classdict__":Str))=J) bu0):XE X (.Name x pos) (mV i):=LF i hN hv hd hcd
theorem gq(hN:autoParam (JY X.N=M) cu0)(hi:autoParam (X.N[i]?=Z x) cu0)(hx:autoParam (uV X.env.scope x) au0)(hf:autoParam (X.fn x=M\/X.env.scope.names.lookup x=Z .local) au0):XG X (.Name x pos) (gN i):=qO i (iG hN) hi hx hf
theorem sq(he:XE X e m)(hN:autoParam (JY X.N=M) cu0)(hi:autoParam (X.N[i]?=Z x) cu0)(hx:autoParam (uV X.env.scope x) au0)(hs:autoParam (MX e (Z (.Name x p)) pos.line X.env=pure J) cu0)(hf:autoParam (X.fn x=M\/X.env.scope.names.lookup x=Z .local) au0):XS X (.Assign [.Name x p] e pos) (eG m (gN i)):=qY i (iG hN) hi hx he hs hf
theorem jq(hx:XE X e m)(hy:XE X y b)(hr:autoParam (gl k X.A) fu0)(hs:autoParam (nU y) xP._auto_1):XE X (.Subscript e y pos) (m2 (b2 eA) m b):=qJ (qP hr.units) hx hy hs
theorem oq{au:Prop}(o:X.A.units+64<Nt->au)(hr:autoParam (gl k X.A) fu0):au:=o hr.units
theorem wn {k' n:Nat}{f:FN}(h:Own X.prog X.w X.K X.mg X.base k x n f)(ha:XA X (e::es) a)(hr:autoParam (gl k' X.A) fu0)(hk:k<=k':=by first|decide|omega)(hg:autoParam (Gl X x) cu0)(hdb:autoParam ((x == ("__debug__":Str))=J) bu0)(he:autoParam (dV (e::es) X.env=(J,eval e X.env)::dV es X.env) cu0)(hpl:autoParam ((MP pos (dV es X.env)).any (·.1)=J) cu0):XE X (.Call (.Name x p) (e::es) [] pos) (mN (ea n f) a):=qH h hr hk hg ha hdb he hpl
theorem cn {id:String}{f:FN}(hc:fi X (.builtin id) (rN X.K f))(ha:XA X (e::es) a)(hm:X.mg x=Y:=by exact bz (by assumption))(hg:autoParam (Gl X x) cu0)(hv:autoParam (MH x=Z (.builtin id)) eu0)(hn:autoParam (x≠"__name__") bu0)(hdb:autoParam ((x == ("__debug__":Str))=J) bu0)(he:autoParam (dV (e::es) X.env=(J,eval e X.env)::dV es X.env) cu0)(hpl:autoParam ((MP pos (dV es X.env)).any (·.1)=J) cu0):XE X (.Call (.Name x p) (e::es) [] pos) (mN f a):=qD hc hg hm hv ha hn hdb he hpl
theorem cz {T:String}{f:FN}(hc:fi X (.type T) (rN X.K f))(ha:XA X (e::es) a)(hm:autoParam (X.mg x=Y) cn._auto_1)(hg:autoParam (Gl X x) cu0)(hv:autoParam (MH x=Z (.type T)) eu0)(hn:autoParam (x≠"__name__") bu0)(hdb:autoParam ((x == ("__debug__":Str))=J) bu0)(he:autoParam (dV (e::es) X.env=(J,eval e X.env)::dV es X.env) cu0)(hpl:autoParam ((MP pos (dV es X.env)).any (·.1)=J) cu0):XE X (.Call (.Name x p) (e::es) [] pos) (mN f a):=qE hc hg hm hv ha hn hdb he hpl
theorem a1(h:XE X e m)(hs:autoParam (dV [e] X.env=(J,eval e X.env)::dV [] X.env) cu0):XA X [e] (d5 m d6):=qA h qN hs
theorem a2(h:XE X e m)(g:XE X y b)(hs:autoParam (dV [e,y] X.env=(J,eval e X.env)::dV [y] X.env) cu0)(hs2:autoParam (dV [y] X.env=(J,eval y X.env)::dV [] X.env) cu0):XA X [e,y] (d5 m (d5 b d6)):=qA h (a1 g hs2) hs
theorem a3{z:Expr}{c:FE}(h:XE X e m)(g:XE X y b)(l:XE X z c)(hs:autoParam (dV [e,y,z] X.env=(J,eval e X.env)::dV [y,z] X.env) cu0)(hs2:autoParam (dV [y,z] X.env=(J,eval y X.env)::dV [z] X.env) cu0)(a:autoParam (dV [z] X.env=(J,eval z X.env)::dV [] X.env) cu0):XA X [e,y,z] (d5 m (d5 b (d5 c d6))):=qA h (a2 g l hs2 a) hs
theorem ir (ha:XA X [e] a)(hm:autoParam (X.mg "range"=Y) cn._auto_1)(hg:autoParam (Gl X "range") cu0)(hs:autoParam (dV [e] X.env=[(J,eval e X.env)]) cu0):XI X y (.Call (.Name "range" p) [e] [] pos) (pL a):=u8 hg hm ha hs
theorem ie {elts:List Expr}{b:Nat}{tpos:Pos}(ha:XA X [e] a)(hm:autoParam (X.mg "enumerate"=Y) cn._auto_1)(hg:autoParam (Gl X "enumerate") cu0)(hs:autoParam (dV [e] X.env=[(J,eval e X.env)]) cu0):XI X (.Tuple elts b tpos) (.Call (.Name "enumerate" p) [e] [] pos) (oP a):=yW hg hm ha hs
theorem ii {T:Ty}{p2:Pos}(h:XE X e m)(hm:autoParam (X.mg "isinstance"=Y) cn._auto_1)(hm2:autoParam (X.mg x=Y) cn._auto_1)(hg:autoParam (Gl X "isinstance") cu0)(hg2:autoParam (Gl X x) cu0)(hv2:autoParam (MH x=Z (.type T.nm)) eu0)(hn:autoParam (x≠"__name__") bu0)(hd:autoParam ((x == ("__debug__":Str))=J) bu0)(hs1:autoParam (dV [e,.Name x p2] X.env=(J,eval e X.env)::dV [.Name x p2] X.env) cu0)(hs2:autoParam (dV [.Name x p2] X.env=(J,eval (.Name x p2) X.env)::dV [] X.env) cu0)(hpl:autoParam ((MP pos (dV [.Name x p2] X.env)).any (·.1)=J) cu0):XE X (.Call (.Name "isinstance" p) [e,.Name x p2] [] pos) (nA T m):=va T hg hm hg2 hm2 hv2 h hn hd hs1 hs2 hpl
structure Lm (X:Cx)(name:Str)(id:String)(f:FN):Prop where
 s:Slot "list" name id
 t:typeOf (.builtin id)=pure (.type "method_descriptor")
 m:HI X id (λx xs H Q=>rN X.K f (x::xs) H Q)
theorem ap:Lm X "append" "list.append" (b2 iC):=⟨PySem.F.slot_list_append,PySem.F.type_list_append,HV⟩
theorem lq{f:FN}{name:Str}{apos:Pos}{id:String}(s:Lm X name id f)(ho:XE X y m)(ha:XA X (e::es) a)(hbase:autoParam (NW y name X.env (eval y X.env)=eval y X.env) cu0)(hfew:autoParam (((MP pos (dV (e::es) X.env)).all (λx=> !x.1)&&(backToKw pos (NX [] X.env)).all (λx=>x.1.isSome)&&decide ((e::es).length+([]:List Nw).length+(if([]:List Nw).isEmpty then 0 else 1)<30))=M) cu0)(hline:autoParam ((apos.endLine == pos.line)=M) cu0)(hs:autoParam (dV (e::es) X.env=(J,eval e X.env)::dV es X.env) cu0)(hplain:autoParam ((MP pos (dV es X.env)).any (·.1)=J) cu0):XS X (.Expr (.Call (.Attribute y name apos) (e::es) [] pos) p) (fQ (nz f m a)):=yV (qe s.s s.t s.m ho ha hbase hfew hline hs hplain)
theorem fo{tg iter:Expr}{a:List d3}{m:FI}{g:FG}{b:FS}(hi:XI X tg iter m)(hg:XG X tg g)(hb:v6 X a b)(hp:Na (MN X.prog X.w) X.A X.env X.xe:=by exact Pm)(hc:autoParam (X.calm=M) cu0)(hs:autoParam (∀x,Nj iter X.env x=pure x) du0):XS X (.For tg iter a [] pos) (fz m g b):=qW hp hc hi hg hb hs
theorem tg2{d:Expr}{g h:FG}{a:Nat}(h1:XG X e g)(h2:XG X d h)(hc:autoParam (X.calm=M) cu0)(hs:autoParam ((MZ [e,d] X.env).map (·.2)=MY e X.env::(MZ [d] X.env).map (·.2)) cu0)(hs2:autoParam ((MZ [d] X.env).map (·.2)=MY d X.env::(MZ [] X.env).map (·.2)) cu0)(hn:autoParam ((MZ [e,d] X.env).length=2) cu0)(hst:autoParam ((MZ [e,d] X.env).findIdx? (·.1)=Y) cu0):XG X (.Tuple [e,d] a pos) (gT 2 (fO g (fO h jm))):=Cc hc (pP h1 (pP h2 yX hs2) hs) hn hst
noncomputable def JZ(x:Str):List (Str×Nx)->Bool
 |[]=>M
 |(y,.cell)::l=> !(y == x)&&JZ x l
 |_::l=>JZ x l
omit k i in
theorem Ax:∀{l:List (Str×Nx)},JZ x l=M->(x,N9)∉l
 |[],_,m=>nomatch m
 |(y,c)::l,h,m=>by
  rcases aF.mp m with e|a
  ·cases e;have h:=((bA1 _ _).mp h).1;rw[Oz]at h;cases h
  ·cases c with
   |cell=>exact Ax ((bA1 _ _).mp h).2 a
   |_=>exact Ax (l:=l) h a
theorem kz{a:d4}{l:List Nat}(r:∀i∈l,∃x,X.N[i]?=Z x/\a.names.lookup x=Z .free/\(X.env.kindOf x=Z .cell\/X.env.kindOf x=Z .free)/\(x,N9)∉a.names)(h1:autoParam (X.N[i]?=Z x) cu0)(h2:autoParam (a.names.lookup x=Z .free) cu0)(b:autoParam (X.env.kindOf x=Z .cell\/X.env.kindOf x=Z .free) au0)(c:autoParam (JZ x a.names=M) cu0):∀j∈i::l,∃x,X.N[j]?=Z x/\a.names.lookup x=Z .free/\(X.env.kindOf x=Z .cell\/X.env.kindOf x=Z .free)/\(x,N9)∉a.names:=kc x r h1 h2 b (Ax c)
def Lv(X:Cx)(sc:d4):List (Str×dP):=(jU X.env.cells sc.names []).getD []
theorem fk{elt tg iter:Expr}{ifs:List Expr}{scope:d4}(T:List Str){keep:List Nat}{m:FI}{g:FG}{t:FT}{e:FE}(hi:XI X tg iter m)(hb:∀ {s H fp},K7 (cxC X scope (Lv X scope) T keep s H fp) X.K tg ifs elt g t e)(b:∀i∈keep,∃x,X.N[i]?=Z x/\scope.names.lookup x=Z .free/\(X.env.kindOf x=Z .cell\/X.env.kindOf x=Z .free)/\(x,N9)∉scope.names:=by repeat first|exact cD _|refine kz ?_)(hc:autoParam (X.calm=M) cu0)(c:autoParam (scope.kind = .function) cu0)(a:autoParam (∀x∈scope.names,x.2 = .local->scope.names.lookup x.1=Z .local) eu0)(d:autoParam (jU X.env.cells scope.names []=Z (Lv X scope)) cu0)(hs:autoParam (∀x,Nj iter X.env x=pure x) du0):XE X (.ListComp elt [⟨tg,iter,ifs,0⟩] scope pos) (e6 T.length keep m g t (eT e)):=qZ hc ⟨c,a,b⟩ d hi (λ_ _ _=>hb) hs
end
theorem xq{P:dQ}{w:dS}{K:Fg1}{mg:Str->Option dM}{base h:dZ}{x:Str}{st:d3}{f:dP}{k n:Nat}{b:FS}(N:List Str)(X:K.In h)(G:h.Ns dU mg)(F:eP K x st f)(d:∀{f:dP} {a:dM} {A:dR} {c:List Env} {s:dN} {H:Hp} {E:XK},gl k (A.deeper (Ny x (eD st) s.heap.objs.size f a)) ->
   v6 (nC uW P w K mg base N x (eD st) f a A c s H E).nox (fK st) b)(S:gR N (N.take n) (eD st):=by exact sk)(hb:∀(kV i j:dM) (l:Option dP) (a ct:dM) (g:List dM),g.length=(N.take n).length->bindArgs (wF1 x x (iJ st) (fK st) (eD st) .none kV i j l a ct) ⟨g,[]⟩=pure ((N.take n).zip g):=by
   intro _ _ _ _ _ _ g e;first|exact Lr e λ_=>rfl|exact KN e λ_ _=>rfl|exact Lq e λ_ _ _=>rfl|exact L8 e λ_ _ _ _=>rfl)(hn:autoParam ((N.take n).length=n) cu0):Own P w K mg base (k+1) x n (iz N.length b):=xo X G F S hb (λ_ _ _ _ _ _ _ m=>d m) hn
open AutoSeq1 (wpAny_loadPart')
mutual
noncomputable def pl:D->Bool
 | .non=>M
 | .bl _=>M
 | .int _=>M
 | .str _=>M
 | .tup xs=>tJ xs
 |_=>J
noncomputable def tJ:List D->Bool
 |[]=>M
 |x::xs=>pl x&&tJ xs
end
section
variable{ag:List (dP×Obj)}{σ:L2.St}{H:Hp}{s:dN}{mu:List dP}{S:d7}
mutual
theorem wA(I:Inv X ag σ H s):∀{d d':D} {v:V},pl d=M->pl d'=M->fc X.K H mu d v->fc X.K H mu d' v->d=d'
 | .non,d',_,_,h,.non,r=>by cases r;rfl
 | .bl b,d',_,_,h,.bl _,r=>by cases r;rfl
 | .int i,d',_,_,h,.int _,r=>by cases r;rfl
 | .str x,d',_,_,h,.str _,r=>by cases r;rfl
 | .tup xs,d',_,g,h,.tup q t,r=>by
  cases r with
  |tup a c=>
   have e:=I.tuple_inj q a;subst e;rw[pl]at g h;rw[tz I g h t c]
  |rol _ _=>cases h
  |ref _=>cases h
  |fn _=>cases h
 | .rol _,_,_,g,_,_,_=>by cases g
 | .ref _,_,_,g,_,_,_=>by cases g
 | .fn _,_,_,g,_,_,_=>by cases g
theorem tz(I:Inv X ag σ H s):∀{ds a:List D} {vs:List V},tJ ds=M->tJ a=M->ej X.K H mu ds vs->ej X.K H mu a vs->ds=a
 |[],_,_,_,_,.nil,r=>by cases r;rfl
 |d::ds,_,_,g,h,.cons r t,z=>by
  cases z with
  |cons b c=>
   rw[tJ,bA1]at g h;rw[wA I g.1 h.1 r b,tz I g.2 h.2 t c]
end
end
noncomputable def iZ:D->Option Bool
 | .tup (.int _::_)=>Z M
 | .tup (.tup _::_)=>Z J
 |_=>Y
def KM(a b:D):Bool:=k4 [] 51 a b == Z M
def yw(a:D):List D->List D
 |[]=>[a]
 |b::l=>if KM a b=M then a::b::l else b::yw a l
def lB:List D->List D
 |[]=>[]
 |a::l=>yw a (lB l)
def qa(a b:D):Bool:=k4 [] 51 a b == Z M&&k4 [] 51 b a == Z J
def m7:List D->Bool
 |[]=>M
 |a::l=>l.all (qa a)&&m7 l
theorem lR:∀{l:List D} {i j:Nat} {a b:D},m7 l=M->l[i]?=Z a->l[j]?=Z b->i<j->qa a b=M
 |[],i,j,a,b,_,h,_,_=>by simp at h
 |x::l,0,j+1,a,b,h,h1,h2,_=>by
  rw[m7,bA1,bD]at h;simp at h1 h2;subst h1;exact h.1 b (gM1 h2)
 |x::l,i+1,j+1,a,b,h,h1,h2,hij=>by
  rw[m7,bA1]at h;exact lR h.2 (by simpa using h1) (by simpa using h2) (by lia)
 |x::l,i,0,a,b,_,_,_,hij=>by lia
abbrev Tr:=D×V×dM
def yu(a:Tr):List Tr->List Tr
 |[]=>[a]
 |b::l=>if KM a.1 b.1=M then a::b::l else b::yu a l
def s0:List Tr->List Tr
 |[]=>[]
 |a::l=>yu a (s0 l)
theorem ql(a:Tr):∀l:List Tr,(yu a l).Perm (a::l)
 |[]=>.refl _
 |b::l=>by
  rw[yu];split
  ·exact .refl _
  ·exact((ql a l).cons b).trans (.swap _ _ _)
theorem n0:∀l:List Tr,(s0 l).Perm l
 |[]=>.refl _
 |a::l=>(ql a _).trans ((n0 l).cons a)
theorem ul(a:Tr):∀l:List Tr,(yu a l).map (·.1)=yw a.1 (l.map (·.1))
 |[]=>rfl
 |b::l=>by
  rw[yu,mP1,yw];split
  ·rfl
  ·rw[mP1,ul a l]
theorem pR:∀l:List Tr,(s0 l).map (·.1)=lB (l.map (·.1))
 |[]=>rfl
 |a::l=>by rw[s0,mP1,lB,ul,pR l]
theorem DG{a b:dP}{k l:Int}{t u:Tok}{g zs:List dM}{c:Bool}{Q:Bool->dN->Prop}(ha:MD s.heap a (aa k t::g).toArray)(hb:MD s.heap b (aa l u::zs).toArray)(f:k≠l/\c=decide (k<l)\/k=l/\uU A s g zs c)(h:Q c s):
  dX (MN prog w) A (keyLt' (O5 M) (.ref a) (.ref b)) Q E s:=by
 rcases f with⟨f,rfl⟩|⟨rfl,L⟩
 ·exact A3 ha hb f h
 rw[jg];obtain⟨o,r,D,_,y⟩:=ha;obtain⟨F,B,C,_,v⟩:=hb;refine wB1 (O7 r y (wB1 (O7 B v ?_)));rw[bW,bN,bH];refine wB1 (wB1 ?_);dsimp only;refine wB1 (wpAny_eqBool_int ?_);simp only[Oz,b7,bF1,NH];refine wP1 ?_;refine MQ (OC _ (λrest b s'=>s'=s/\b=(Y,()) /\ ∃(i:Nat) (vs ws:List dM),rest=(vs.zip ws).zipIdx (i+1)/\uU A s vs ws c/\vs.length+zs.length=ws.length+g.length)
  (λb s'=>s'=s/\(b=(Z c,())\/(b=(Y,())/\c=decide (g.length<zs.length)))) ?_ ?_ _ _ ⟨O,O,0,g,zs,O,L,by lia⟩) ?_ λ_ _ e=>e
 ·rintro x rest b s' ⟨rfl,rfl,i,vs,ws,d,m,j⟩;cases m with
  |nn=>simp at d
  |nc _ _=>simp at d
  |cn _ _=>simp at d
  | @eq p q ps n _ e t=>
   rw[bW,bN]at d;cases d;refine wB1 (e.of_in1 prog w E _ ?_);simp only[b7,bF1,NH];exact wP1 ⟨O,O,i+1,ps,n,O,t,by simp at j;lia⟩
  | @lt p q ps n _ e t=>
   rw[bW,bN]at d;cases d;refine wB1 (e.of_in1 prog w E _ ?_);simp only[cm,NJ];rw[show(M&&(i+1 == 0))=J from rfl];exact wB1 (Am t (wP1 ⟨O,.inl O⟩))
 ·rintro b s' ⟨rfl,rfl,i,vs,ws,d,m,j⟩;refine⟨O,.inr ⟨O,?_⟩⟩;cases m with
  |nn=>simp at j;rw[ai (by lia)]
  |nc _ _=>simp at j;rw[ah (by lia)]
  |cn _ _=>simp at j;rw[ai (by lia)]
  |eq _ _=>simp at d
  |lt _ _=>simp at d
 ·rintro b s' ⟨rfl,z⟩;rcases z with rfl|⟨rfl,z⟩
  ·exact wP1 h
  ·refine wP1 ?_;rw[sT1,sT1,lC1,lC1,show decide (g.length+1<zs.length+1)=c by rw[z];congr 1;simp];exact h
section
variable{ag:List (dP×Obj)}{σ:L2.St}{H:Hp}{s:dN}{mu:List dP}{S:d7}
theorem G4(I:Inv X ag σ H s)(hs:Sim X.K H mu S){A:dR}(P:A.units+60<Nt){f:Bool}{d e:D}{v w:V}{u z:dM}{b:Bool}(C:fc X.K H mu d v)(G:fc X.K H mu e w)(B:ew v u)(y:ew w z)(hd:iZ d=Z f)(he:iZ e=Z f)(h:k4 S 51 d e=Z b){E:dM->dN->Prop}{Q:Bool->dN->Prop}(q:Q b s):dX (MN X.prog X.w) A (keyLt' (O5 f) u z) Q E s:=by
 have F:∀{xs ys:List D} {vs ws:List V} {us zs:List dM} {b:Bool},ej X.K H mu xs vs->ej X.K H mu ys ws->eH vs us->eH ws zs->vH (hH S 50) (k4 S 50) xs ys=Z b->uU A s us zs b:=
  λj i c g h=>AW I hs (A:=A) (n:=50) (by lia) (λK r2 ao au h=>rY I hs 50 (A:=A.in1) (by show A.units+1+50<Nt;lia) K r2 ao au h) j i c g h
 unfold iZ at hd he;split at hd
 ·rename_i k _;cases hd;split at he
  ·rename_i l _;cases C with
   |tup p j=>
   cases G with
   |tup r i=>
   obtain⟨t,c,o,_⟩:=I.tuple p;obtain⟨m,g,x,_⟩:=I.tuple r;cases B;cases y;cases j with
   |cons a1 j=>
   cases i with
   |cons a2 i=>
   cases a1;cases a2;cases c with
   |cons L c=>
   cases g with
   |cons N g=>
   obtain⟨tk,rfl⟩:=L;obtain⟨am,rfl⟩:=N;refine DG o x ?_ q;have h:vH (hH S 50) (k4 S 50) (.int k::_) (.int l::_)=Z b:=h;rw[vH]at h;by_cases a:k=l
   ·subst a;exact .inr ⟨rfl,F j i c g (by
     have e:hH S 50 (.int k) (.int k)=Z M:=by show Z (decide (k=k))=_;simp
     rw[e]at h;exact h)⟩
   ·refine .inl ⟨a,?_⟩;have e:hH S 50 (.int k) (.int l)=Z J:=by show Z (decide (k=l))=_;simp[a]
    rw[e]at h;have h:Z (decide (k<l))=Z b:=h;exact(Option.some.inj h).symm
  ·cases he
  ·cases he
 ·cases hd;split at he
  ·cases he
  ·cases C with
   |tup p j=>
   cases G with
   |tup r i=>
   obtain⟨t,c,o,_⟩:=I.tuple p;obtain⟨m,g,x,_⟩:=I.tuple r;cases B;cases y;exact GW o x (F j i c g h) q
  ·cases he
 ·cases hd
theorem Ff(I:Inv X ag σ H s)(hs:Sim X.K H mu S){A:dR}(hu:A.units+60<Nt){f:Bool}{ds:List D}{vs:List V}{its:List dM}(r:ej X.K H mu ds vs)(rv:eH vs its)(hp:tJ ds=true)(hk:∀d∈ds,iZ d=some f)(hr:m7 (lB ds)=true):
  ∃(K:List V) (ws:List dM),ej X.K H mu (lB ds) K/\eH K ws/\its.Perm ws/\K.length=vs.length /\
   ∀c:dZ,(∀b o,s.heap.get? b=Z o->c.get? b=Z o)->js X.prog X.w A {s with heap:=c} (O5 f) ws (O4 its) /\
    (its≠[] -> ∀(E:dM->dN->Prop) (Q:OQ->dN->Prop),Q (O5 f) {s with heap:=c}->dX (MN X.prog X.w) A (keyKind' its.toArray) Q E {s with heap:=c}):=by
 have w:∀{l:List D},tJ l=M -> ∀d∈l,pl d=M:=by
  intro l
  induction l with
  |nil=>intro _ d h;cases h
  |cons x l ih=>
   intro h d ao;rw[tJ,bA1]at h;rcases aF.mp ao with rfl|z
   ·exact h.1
   ·exact ih h.2 d z
 have und:∀n,(∀d:D,pl d=M->d.und n=M) /\ ∀l:List D,tJ l=M->D.unds n l=M:=λn=>by
  refine⟨λd=>?_,λl=>?_⟩
  ·exact D.rec (motive_1:=λd=>pl d=M->d.und n=M) (motive_2:=λl=>tJ l=M->D.unds n l=M) (λ_=>rfl) (λ_ _=>rfl) (λ_ _=>rfl) (λ_ _=>rfl) (λxs ih h=>by rw[pl]at h;rw[D.und];exact ih h) (λ_ _ h=>by cases h) (λ_ h=>by cases h) (λ_ h=>by cases h) (λ_=>rfl) (λx xs h1 h2 h=>by rw[tJ,bA1]at h;rw[D.unds,h1 h.1,h2 h.2];rfl) d
  ·exact D.rec_1 (motive_1:=λd=>pl d=M->d.und n=M) (motive_2:=λl=>tJ l=M->D.unds n l=M) (λ_=>rfl) (λ_ _=>rfl) (λ_ _=>rfl) (λ_ _=>rfl) (λxs ih h=>by rw[pl]at h;rw[D.und];exact ih h) (λ_ _ h=>by cases h) (λ_ h=>by cases h) (λ_ h=>by cases h) (λ_=>rfl) (λx xs h1 h2 h=>by rw[tJ,bA1]at h;rw[D.unds,h1 h.1,h2 h.2];rfl) l
 have tri:∃aq:List Tr,aq.map (·.1)=ds/\aq.map (·.2.1)=vs/\aq.map (·.2.2)=its /\ ∀y∈aq,fc X.K H mu y.1 y.2.1/\ew y.2.1 y.2.2:=by
  clear hk hr hp
  induction ds generalizing vs its with
  |nil=>cases r;cases rv;exact⟨[],O,O,O,λy h=>by cases h⟩
  |cons d ds ih=>
   cases r with
   |cons B t=>
   cases rv with
   |cons N tt=>
   obtain⟨aq,G,am,p,ok⟩:=ih t tt;refine⟨(d,_,_)::aq,by rw[mP1,G],by rw[mP1,am],by rw[mP1,p],λy m=>?_⟩;rcases aF.mp m with rfl|z
   ·exact⟨B,N⟩
   ·exact ok y z
 obtain⟨aq,rfl,rfl,rfl,ok⟩:=tri;have L:=n0 aq;have em:=pR aq;rw[<- em]at hr ⊢;generalize hZ:s0 aq=wq at *
 have g:∀y∈wq,y∈aq:=λy m=>L.mem_iff.mp m;refine⟨wq.map (·.2.1),wq.map (·.2.2),?_,?_,(L.map _).symm,by rw[lM1,lM1,L.length_eq],λc keep=>⟨⟨?_,?_,?_⟩,λau E Q q=>?_⟩⟩
 ·clear hr hZ em L
  induction wq with
  |nil=>exact .nil
  |cons y wq ih=>exact .cons (ok y (g y mS1)).1 (ih λz hz=>g z (mC1 _ hz))
 ·clear hr hZ em L
  induction wq with
  |nil=>exact .nil
  |cons y wq ih=>exact .cons (ok y (g y mS1)).2 (ih λz hz=>g z (mC1 _ hz))
 ·refine cC.mpr fun i j hi hj R e=>?_;rw [lM1] at hi hj;rw [List.getElem_map,List.getElem_map] at e;have F:=g _ (bV hi);have C:=g _ (bV hj);have hl:=lR hr (i:=i) (j:=j) (a:=wq[i].1) (b:=wq[j].1) (by rw [gP1,gG1 hi];rfl) (by rw [gP1,gG1 hj];rfl) R;obtain ⟨B,N⟩:=ok _ F;obtain ⟨r2,q2⟩:=ok _ C;have h1:=hk wq[i].1 (cg.mpr ⟨_,F,rfl⟩);have h2:=hk wq[j].1 (cg.mpr ⟨_,C,rfl⟩);have P:∀ {d:D} {v:V} {u:dM},iZ d=some f->fc X.K H mu d v->ew v u -> ∃ a,v = .ref a/\u = .ref a:=fun {d v u} ao rd ru=>by
   cases rd with
   |tup _ _=>cases ru;exact⟨_,O,O⟩
   |_=>cases ao
  obtain⟨a1,G,am⟩:=P h1 B N;obtain⟨a2,p,e4⟩:=P h2 r2 q2;rw[am,e4]at e;cases e;rw[G]at B;rw[p]at r2;have e:=wA I (w hp _ (cg.mpr ⟨_,F,O⟩)) (w hp _ (cg.mpr ⟨_,C,O⟩)) B r2;unfold qa at hl;rw[e,bA1,Pn,Pn]at hl;rw[hl.1]at hl;cases hl.2
 ·rw[pairsOf_toList];have:(aq.map (·.2.2) |>.zip (aq.map (·.2.2))).map (·.1)=aq.map (·.2.2):=List.map_fst_zip (nR1 _);rw[this];exact(L.map _).symm
 ·intro x y i j hx m R E Q q;rw[gP1]at hx m;obtain⟨yi,hyi,rfl⟩:=Pz hx;obtain⟨yj,U,rfl⟩:=Pz m;have F:=g _ (gM1 hyi);have C:=g _ (gM1 U);have W:Inv X ag σ H {s with heap:=c}:=I.kept (t':=s.toks) keep;have ki:(wq.map (·.1))[i]?=Z yi.1:=by rw[gP1,hyi];rfl
  have kj:(wq.map (·.1))[j]?=Z yj.1:=by rw[gP1,U];rfl
  have pi:=(und 0).1 _ (w hp _ (cg.mpr ⟨_,F,O⟩));have pj:=(und 0).1 _ (w hp _ (cg.mpr ⟨_,C,O⟩));refine G4 W hs hu (ok _ F).1 (ok _ C).1 (ok _ F).2 (ok _ C).2 (hk _ (cg.mpr ⟨_,F,O⟩)) (hk _ (cg.mpr ⟨_,C,O⟩)) ?_ q;rw[wS pi pj];by_cases z:i<j
  ·have:=lR hr ki kj z;unfold qa at this;simp only[bA1,Pn]at this;rw[ah z];exact this.1
  ·have:=lR hr kj ki (by lia);unfold qa at this;simp only[bA1,Pn]at this;rw[ai z];exact this.2
 ·have W:Inv X ag σ H {s with heap:=c}:=I.kept (t':=s.toks) keep;have ao:∀ y∈aq,∃ a xs,y.2.2 = .ref a/\MD c a xs/\(if f=true then ∃ k t ps,xs=(aa k t::ps).toArray else ∃ b ps qs,xs=(Mz b::ps).toArray/\MD c b qs):=fun y m=>by
   have h1:=hk y.1 (cg.mpr ⟨_,m,O⟩);obtain⟨B,N⟩:=ok y m;obtain⟨d,v,u⟩:=y;dsimp only at *
   unfold iZ at h1;split at h1
   ·cases h1;cases B with
    |tup q t=>
    obtain⟨is,T,i1,_⟩:=W.tuple q;cases t with
    |cons a1 t=>
    cases a1;cases T with
    |cons w1 T=>
    obtain⟨tk,rfl⟩:=w1;cases N;exact⟨_,_,O,i1,by rw[ak O];exact⟨_,_,_,O⟩⟩
   ·cases h1;cases B with
    |tup q t=>
    obtain⟨is,T,i1,_⟩:=W.tuple q;cases t with
    |cons a1 t=>
    cases a1 with
    |tup q2 t2=>
    obtain⟨is2,v2,i2,_⟩:=W.tuple q2;cases T with
    |cons w1 T=>
    cases w1;cases N;exact⟨_,_,O,i1,by rw[aj aL];exact⟨_,_,_,O,i2⟩⟩
   ·cases h1
  cases f with
  |true=>
   refine A4 au (λv hv=>?_) q;obtain⟨y,m,rfl⟩:=PB hv;obtain⟨a,xs,G,am,p⟩:=ao y m;rw[ak O]at p;obtain⟨k,t,ps,rfl⟩:=p;exact⟨a,k,t,ps,G,am⟩
  |false=>
   refine GX au (λv hv=>?_) q;obtain⟨y,m,rfl⟩:=PB hv;obtain⟨a,xs,G,am,p⟩:=ao y m;rw[aj aL]at p;obtain⟨b,ps,qs,rfl,e4⟩:=p;exact⟨a,_,ps,b,qs,G,am,O,e4⟩
end
theorem vI {d:dP}{es:Array N1}{ep:Nat}{o:Obj}{Q:List dM->dN->Prop}(D:A.handled=none)(hm:(d == MF)=false)(hd:s.heap.get? d=some o)(hc:o.cls = .type "dict")(x:o.data = .dict es ep)(hn:es.size<=dW)
  (q:∀h',(∀b u,s.heap.get? b=Z u->h'.get? b=Z u)->s.heap.objs.size<=h'.objs.size->Q (es.toList.map (·.key)) {s with heap:=h'}):dX (MN prog w) A (collect (.ref d)) Q E s:=by
 have i:d<s.heap.objs.size:=hL1 hd;unfold collect;refine wB1 (Pj (wD1 PySem.F.entry_proto_collect ?_));rw[OE PySem.F.plain_proto_collect _];show dX _ A.in1 (newList [] >>= λl=>again (.builtin "list.__iadd__" ⟨[l,.ref d],[]⟩)) _ _ s;refine wB1 (wO1 ?_);refine wP1 ⟨OD PySem.F.plain_list_iadd _,wD1 PySem.F.entry_list_iadd ?_⟩;rw[OE PySem.F.plain_list_iadd _];have n:(s.heap.push {cls:=.type "list",data:=.seq ([]:List dM).toArray}).get? s.heap.objs.size=Z {cls:=.type "list",data:=.seq ([]:List dM).toArray}:=hS1 _ O;have f:(s.heap.push {cls:=.type "list",data:=.seq ([]:List dM).toArray}).get? d=Z o:=hP1 _ hd;have h1:Builtin.List.listSameRef (.ref s.heap.objs.size) (.ref d)=J:=by simp[Builtin.List.listSameRef,nG1 i]
 show dX _ A.in1 (Pk (.ref s.heap.objs.size) (.ref d) (.ref s.heap.objs.size)) _ _ {s with heap:=s.heap.push {cls:=.type "list",data:=.seq ([]:List dM).toArray}};unfold Pk;refine wB1 (NQ (T:="dict") ⟨o,f,hc⟩ ?_);rw[aj (by rw[h1];decide)];refine wB1 (DE hm f hc x hn ?_);generalize g:s.heap.push {cls:=.type "list",data:=.seq ([]:List dM).toArray}=h₁ at *
 have k:h₁.objs.size=s.heap.objs.size+1:=by rw[<- g,hZ1]
 have z:∀b u,s.heap.get? b=Z u->h₁.get? b=Z u:=λb u e=>by rw[<- g];exact hP1 _ e
 dsimp only;have v:we (h₁.push {cls:=.type "dict_keyiterator",data:=.fields #[.ref d,.int 0 0,.int es.size 0,.int ep 0]}) h₁.objs.size d 0 es.size ep:=hS1 _ O;have c:=hP1 {cls:=.type "dict_keyiterator",data:=.fields #[.ref d,.int 0 0,.int es.size 0,.int ep 0]} n;have a:∀b u,s.heap.get? b=Z u->(h₁.push {cls:=.type "dict_keyiterator",data:=.fields #[.ref d,.int 0 0,.int es.size 0,.int ep 0]}).get? b=Z u:=λb u e=>hP1 _ (z b u e);generalize h₁.push {cls:=.type "dict_keyiterator",data:=.fields #[.ref d,.int 0 0,.int es.size 0,.int ep 0]}=h₂ at *
 have m:Shared.TypeIs {s with heap:=h₂} (.ref d) "dict":=⟨o,a d o hd,hc⟩;refine wB1 (M5 (DF m ?_));rw[ak (by decide+kernel)];refine wB1 (M9 (wB1 ?_));show dX _ A.in1 (updateSeq s.heap.objs.size (·.push .none) >>= λ_=>updateSeq s.heap.objs.size (·.pop)) _ _ _;refine wB1 (Pi (s:={s with heap:=h₂}) c O ?_);have h:=hW1 (NT (·.push ab)) c O;refine Pi (s:={s with heap:=h₂.update s.heap.objs.size (NT (·.push ab))}) h O ?_;have j:=hW1 (NT (·.pop)) h O;have p:∀b u,b≠s.heap.objs.size->h₂.get? b=Z u->((h₂.update s.heap.objs.size (NT (·.push ab))).update s.heap.objs.size (NT (·.pop))).get? b=Z u:=λb u r e=>by
  rw[hU1 _ _ _ _ r,hU1 _ _ _ _ r];exact e
 rw[k]at v ⊢;have y:s.heap.objs.size+1≠s.heap.objs.size:=Nat.succ_ne_self _;refine wP1 ⟨OD Ph _,DD (o:=o) D x (nG1 (cB i)) (nG1 i) (ML y) hn es.size 0
  {s with heap:=(h₂.update s.heap.objs.size (NT (·.push ab))).update s.heap.objs.size (NT (·.pop))} _ _ O (bj _) (p _ _ y v) (p d o (nN1 i) (a d o hd)) j O λh' B F keep t C=>?_⟩
 show dX _ A (load s.heap.objs.size >>= _) _ _ {s with heap:=h'};refine wB1 (wpAny_load t ?_);show dX _ A (pure B.toList) _ _ _;rw[C];refine wP1 (q h' (λb u e=>?_) (aD (hL1 t)));have r:b<s.heap.objs.size:=hL1 e;exact keep b u (nN1 (cB r)) (nN1 r) (p b u (nN1 r) (a b u e))
def si(l:List D):Option Bool:=match l with
 |[]=>Z M
 |d::l=>match iZ d with
  |some f=>if(l.all λe=>iZ e == Z f)=M then Z f else Y
  |none=>Y
theorem vO:∀{l:List D} {f:Bool},si l=Z f -> ∀d∈l,iZ d=Z f
 |[],_,_,d,h=>by cases h
 |x :: l,f,h,d,hd=>by
  rw[si]at h;cases hx:iZ x with
  |none=>rw[hx]at h;cases h
  |some g=>
   rw[hx]at h;dsimp only at h;split at h
   ·rename_i a;cases h;rcases aF.mp hd with rfl|z
    ·exact hx
    ·have:=bD.mp a d z
     rwa [Pn]at this
   ·cases h
mutual
theorem EA:∀k:TK,pl (lz k)=M
 | .non=>rfl
 | .int _=>rfl
 | .tup xs=>by rw[lz,pl];exact zZ xs
theorem zZ:∀ks:List TK,tJ (lw ks)=M
 |[]=>rfl
 |k::ks=>by rw[lw,tJ,EA k,zZ ks];rfl
end
theorem tI:∀kvs:List (TK×D),tJ (kvs.map λp=>lz p.1)=M
 |[]=>rfl
 |p::l=>by rw[mP1,tJ,EA,tI l];rfl
noncomputable def HL:Bool->OP->Array OP->Nat->Nat->Nat->StateT OR Sem (Option Nat):=sortPriv%PySem.Builtin.gallop
abbrev rk(ws:List dM)(p:OP):Nat:=rkV ws p.1
section
variable{κ:OQ}{ws:List dM}{a₀:Array OP}
theorem js.lt2(C:js prog w A s κ ws a₀){st:OR}{p q:OP}{Q:Option Bool->OR->Prop}(hk:kindOf st=κ)(hp:p∈a₀)(b:q∈a₀)(a:rk ws p≠rk ws q)(h:Q (Z (decide (rk ws p<rk ws q))) st):wpS (MN prog w) A E s (lt' p q) Q st:=by
 have at_:∀{p:OP},p∈a₀->ws[rk ws p]?=Z p.1:=λ{p} hp=>zO (C.keys.mem_iff.mp (cg.mpr ⟨_,aO.mpr hp,O⟩));rw[lt'_eq];refine OV (OW ?_);rw[hk];exact OV (OY (Ol (C.lt p.1 q.1 _ _ (at_ hp) (at_ b) a _ _ ⟨O,OX h⟩)))
noncomputable def bey(l:Bool)(key:OP)(arr:Array OP)(b i:Nat):StateT OR Sem (Option Bool):=elem' arr (b+i) >>= λx=>if l=M then lt' x key else lt' key x >>= λr=>pure (r.map λz=> !z)
theorem Jy(C:js prog w A s κ ws a₀){st:OR}{l:Bool}{key p:OP}{arr:Array OP}{b i:Nat}{Q:Option Bool->OR->Prop}(hk:kindOf st=κ)(a:key∈a₀)(hp:arr[b+i]?=Z p)(hm:p∈a₀)(c:rk ws p≠rk ws key)(q:Q (Z (decide (rk ws p<rk ws key))) st):wpS (MN prog w) A E s (bey l key arr b i) Q st:=by
 unfold bey;rw[elem'_eq,hp];refine OV (OX ?_);cases l with
 |true=>exact C.lt2 hk hm a c q
 |false=>
  refine OV (C.lt2 hk a hm (ML c) (OX ?_));have e:(!decide (rk ws key<rk ws p))=decide (rk ws p<rk ws key):=by rw[bT];simp;lia
  show Q (Z (!decide (rk ws key<rk ws p))) st;rw[e];exact q
theorem w9(C:js prog w A s κ ws a₀){st:OR}{l:Bool}{key:OP}{arr:Array OP}{b n h:Nat}{R:Nat->Nat}{Q:Option Nat->OR->Prop}(hk:kindOf st=κ)(I:key∈a₀)(S:h<n)(D:∀i,i<n -> ∃p,arr[b+i]?=Z p/\p∈a₀/\rk ws p=R i/\R i≠rk ws key)(a:∀i j,i<j->j<n->R i<R j)(q:∀k,k<=n->(∀i,i<k->R i<rk ws key)->(∀i,k<=i->i<n->rk ws key<R i)->Q (Z k) st):wpS (MN prog w) A E s (HL l key arr b n h) Q st:=by
 have N:∀i,i<n -> ∀{Q:Option Bool->OR->Prop},Q (Z (decide (R i<rk ws key))) st->wpS (MN prog w) A E s (bey l key arr b i) Q st:=λi hi Q ao=>by
  obtain⟨p,h1,h2,H,y⟩:=D i hi;rw[<- H]at ao y;exact Jy C hk I h1 h2 y ao
 have ne:∀i,i<n->R i≠rk ws key:=λi hi=>by obtain⟨p,_,_,_,h⟩:=D i hi;exact h
 have L:∀ lo hi,lo<=hi->hi<=n->(∀ i,i<lo->R i<rk ws key)->(∀ i,hi<=i->i<n->rk ws key<R i) -> ∀ {f:Nat->Option (Option Nat)×Nat×Nat->StateT OR Sem (ForInStep (Option (Option Nat)×Nat×Nat))} {au:Option (Option Nat)×Nat×Nat->OR->Prop},
   (∀x c,f x c=(if c.2.1>=c.2.2 then pure (Po (Y,c.2.1,c.2.2))else bey l key arr b (c.2.1+(c.2.2-c.2.1)/2) >>= λr=>match r with
    |some m=>if m=M then pure (Od (Y,c.2.1+(c.2.2-c.2.1)/2+1,c.2.2))else pure (Od (Y,c.2.1,c.2.1+(c.2.2-c.2.1)/2))
    |_=>pure (Po (Z Y,c.2.1,c.2.2))))->(∀k c,k<=n->(∀i,i<k->R i<rk ws key)->(∀i,k<=i->i<n->rk ws key<R i)->c.1=Y->c.2.2=k->au c st)->wpS (MN prog w) A E s (forIn [0:n] (Y,lo,hi) f) au st:=λlo hi h1 h2 H y f au V ao=>by
  refine OZ (λx c st'=>st'=st /\ ∃lo hi,c=(Y,lo,hi)/\lo<=hi/\hi<=n/\hi-lo<=n-x/\(∀i,i<lo->R i<rk ws key) /\ ∀i,hi<=i->i<n->rk ws key<R i) ?_ ?_ ⟨O,lo,hi,O,h1,h2,by lia,H,y⟩
  ·rintro x c st' _ T ⟨rfl,lo,hi,rfl,K,g,o,d,B⟩;rw[V];dsimp only;by_cases z:lo>=hi
   ·rw[ak z];have e:lo=hi:=by lia
    subst e;exact OX (ao lo _ g d B O O)
   ·rw[aj z];have hm:lo+(hi-lo)/2<hi:=by lia
    generalize wq:lo+(hi-lo)/2=m at *
    refine OV (N m (by lia) ?_);by_cases t:R m<rk ws key
    ·simp only[t,O0,NJ];refine OX ⟨O,m+1,hi,O,by lia,g,by lia,λi W=>?_,B⟩;by_cases v:i=m
     ·rw[v];exact t
     ·exact bi (a i m (by lia) (by lia)) t
    ·simp only[t,O1,bF1,NH];have F:rk ws key<R m:=by have:=ne m (by lia);lia
     refine OX ⟨O,lo,m,O,by lia,by lia,by lia,d,λi u G=>?_⟩;by_cases v:i=m
     ·rw[v];exact F
     ·exact bi F (a m i (by lia) G)
  ·rintro c st' ⟨rfl,lo,hi,rfl,K,g,o,d,B⟩;have e:lo=hi:=by lia
   subst e;exact ao lo _ g d B O O
 unfold HL;refine OV (N h S ?_);by_cases z:R h<rk ws key
 ·simp only[z,O0,NJ];refine OV (O2 (OZ (λx c st'=>st'=st /\ ∃lo of,c=(Y,lo,of)/\x+1<=of/\lo<of/\h+lo<n/\R (h+lo)<rk ws key) (Q:=λc st'=>st'=st /\ ∃lo of,c=(Y,lo,of)/\lo<of/\h+lo<n/\R (h+lo)<rk ws key /\ ∀i,h+min of (n-h)<=i->i<n->rk ws key<R i) ?_ ?_ ⟨O,0,1,O,by lia,by lia,S,z⟩) ?_)
  ·rintro x c st' _ T ⟨rfl,lo,of,rfl,K,g,o,d⟩;dsimp only;by_cases am:of>=n-h
   ·rw[ak am];exact OX ⟨O,lo,of,O,g,o,d,λi u G=>by lia⟩
   ·rw[aj am];refine OV (N (h+of) (by lia) ?_);by_cases t:R (h+of)<rk ws key
    ·simp only[t,O0,b7,bF1,NH];exact OX ⟨O,of,2*of+1,O,by lia,by lia,by lia,t⟩
    ·simp only[t,O1,cm,NJ];have F:rk ws key<R (h+of):=by have:=ne (h+of) (by lia);lia
     refine OX ⟨O,lo,of,O,g,o,d,λi u G=>?_⟩;by_cases v:i=h+of
     ·rw[v];exact F
     ·exact bi F (a (h+of) i (by lia) G)
  ·rintro c st' ⟨rfl,lo,of,rfl,K,g,o,d⟩;exact⟨O,lo,of,O,g,o,d,λi u G=>by lia⟩
  ·rintro c st' ⟨rfl,lo,of,rfl,g,o,d,B⟩;dsimp only;refine OV (L (h+lo+1) (h+min of (n-h)) (by lia) (by lia) (λi hi=>?_) B (λx c=>rfl) λk c h1 h2 H y u=>?_)
   ·by_cases v:i=h+lo
    ·rw[v];exact d
    ·exact bi (a i (h+lo) (by lia) o) d
   ·obtain⟨X,U,P⟩:=c;dsimp only at y u;subst y;subst u;exact OX (q P h1 h2 H)
 ·simp only[z,O1,bF1,NH];have aq:rk ws key<R h:=by have:=ne h S;lia
  refine OV (O2 (OZ (λx c st'=>st'=st /\ ∃lo of,c=(Y,lo,of)/\x+1<=of/\lo<of/\lo<=h/\rk ws key<R (h-lo)) (Q:=λc st'=>st'=st /\ ∃lo of,c=(Y,lo,of)/\lo<of/\lo<=h/\rk ws key<R (h-lo) /\ ∀i,i<h+1-min of (h+1)->R i<rk ws key) ?_ ?_ ⟨O,0,1,O,by lia,by lia,by lia,aq⟩) ?_)
  ·rintro x c st' _ T ⟨rfl,lo,of,rfl,K,g,o,d⟩;dsimp only;by_cases am:of>=h+1
   ·rw[ak am];exact OX ⟨O,lo,of,O,g,o,d,λi u=>by lia⟩
   ·rw[aj am];refine OV (N (h-of) (by lia) ?_);by_cases t:R (h-of)<rk ws key
    ·simp only[t,O0,NJ];refine OX ⟨O,lo,of,O,g,o,d,λi u=>?_⟩;by_cases v:i=h-of
     ·rw[v];exact t
     ·exact bi (a i (h-of) (by lia) (by lia)) t
    ·simp only[t,O1,bF1,NH];have F:rk ws key<R (h-of):=by have:=ne (h-of) (by lia);lia
     exact OX ⟨O,of,2*of+1,O,by lia,by lia,by lia,F⟩
  ·rintro c st' ⟨rfl,lo,of,rfl,K,g,o,d⟩;exact⟨O,lo,of,O,g,o,d,λi u=>by lia⟩
  ·rintro c st' ⟨rfl,lo,of,rfl,g,o,d,B⟩;dsimp only;refine OV (L (h+1-min of (h+1)) (h-lo) (by lia) (by lia) B (λi u G=>?_) (λx c=>rfl) λk c h1 h2 H y u=>?_)
   ·by_cases v:i=h-lo
    ·rw[v];exact d
    ·exact bi d (a (h-lo) i (by lia) G)
   ·obtain⟨X,U,P⟩:=c;dsimp only at y u;subst y;subst u;exact OX (q P h1 h2 H)
end
noncomputable def Kx:Nat->StateT OR Sem Unit:=sortPriv%PySem.Builtin.setMinGallop
noncomputable def Lo:Array OP->Array OP->StateT OR Sem (Array OP):=sortPriv%PySem.Builtin.mergeLo
noncomputable def Lp:Array OP->Array OP->StateT OR Sem (Array OP):=sortPriv%PySem.Builtin.mergeHi
structure Sm (st st':OR):Prop where
 k:kindOf st'=kindOf st
 a:OS st'=OS st
 p:OU st'=OU st
 f:OT st'=OT st
theorem Sm.rfl{st:OR}:Sm st st:=⟨_root_.rfl,_root_.rfl,_root_.rfl,_root_.rfl⟩
theorem Sm.g{st st':OR}(h:Sm st st')(g:Nat):Sm st (Pe (kindOf st') (OS st') (OU st') g (OT st')):=⟨h.k,h.a,h.p,h.f⟩
def Srt(ws:List dM)(xs:List OP):Prop:=xs.Pairwise λp q=>rk ws p<rk ws q
def nw(ws:List dM)(xs ys:List OP):Prop:=∀x∈xs,∀y∈ys,rk ws x<rk ws y
section
variable{ws:List dM}{a b out xs ys zs:List OP}{i j k:Nat}
theorem Srt.app(h1:Srt ws xs)(h2:Srt ws ys)(h:nw ws xs ys):Srt ws (xs++ys):=cE.mpr ⟨h1,h2,h⟩
theorem nw.app(h1:nw ws xs zs)(h2:nw ws ys zs):nw ws (xs++ys) zs:=λx b y a=>(aG.mp b).elim (λh=>h1 x h y a) λh=>h2 x h y a
theorem nw.of(h:nw ws xs ys){a ys':List OP}(h1:∀x∈a,x∈xs)(h2:∀y∈ys',y∈ys):nw ws a ys':=λx b y c=>h x (h1 x b) y (h2 y c)
theorem Srt.split(h:Srt ws a)(i:Nat):nw ws (a.take i) (a.drop i):=by
 have:=h;unfold Srt at this;rw[<- cF i a]at this;exact(cE.mp this).2.2
structure J0 (ws:List dM)(a b out:List OP)(i j:Nat):Prop where
 la:i<=a.length
 lb:j<=b.length
 len:out.length=i+j
 pm:(out++(a.drop i++b.drop j)).Perm (a++b)
 so:Srt ws out
 ba:nw ws out (a.drop i)
 bb:nw ws out (b.drop j)
theorem J0.mvA(h:J0 ws a b out i j)(f:Srt ws a)(hk:i+k<=a.length)(hb:nw ws ((a.drop i).take k) (b.drop j)):J0 ws a b (out++(a.drop i).take k) (i+k) j:=by
 have e:a.drop i=(a.drop i).take k++a.drop (i+k):=by rw[<- bF,cF]
 have c:Srt ws (a.drop i):=f.sublist (cG _ _);refine⟨hk,h.lb,?_,?_,h.so.app (c.sublist (aW _ _)) (h.ba.of (λ_ h=>h) λ_ h=>cH h),?_,h.bb.app hb⟩
 ·rw[lA1,h.len,aT,aX];lia
 ·have:=h.pm;rw[e,bJ]at this;rw[bJ];exact this
 ·refine nw.app (h.ba.of (λ_ h=>h) λy d=>?_) ?_
  ·rw[e];exact mA1 _ d
  ·have:=c.split k
   rwa [bF]at this
theorem J0.swap(h:J0 ws a b out i j):J0 ws b a out j i:=⟨h.lb,h.la,by rw[h.len,Nat.add_comm],(Pp _ cI).trans (h.pm.trans cI),h.so,h.bb,h.ba⟩
theorem J0.mvB(h:J0 ws a b out i j)(c:Srt ws b)(hk:j+k<=b.length)(hb:nw ws ((b.drop j).take k) (a.drop i)):J0 ws a b (out++(b.drop j).take k) i (j+k):=(h.swap.mvA c hk hb).swap
theorem wu{x:OP}(h:a[i]?=Z x):(a.drop i).take 1=[x]:=by
 have b:=(Px h).1;rw[bX b,cJ,cK,(Px h).2]
def Mgd(ws:List dM)(a b r:List OP):Prop:=r.Perm (a++b)/\Srt ws r
theorem J0.dn(h:J0 ws a b out i j)(c:Srt ws a)(d:j=b.length):Mgd ws a b (out++a.drop i++b.drop j):=by
 have e:b.drop j=[]:=by rw[d,List.drop_length]
 refine⟨by rw[bJ];exact h.pm,?_⟩;rw[e,aP];exact h.so.app (c.sublist (cG _ _)) h.ba
theorem J0.ls(h:J0 ws a b out i j)(c:Srt ws a)(d:Srt ws b)(hb:nw ws (b.drop j) (a.drop i)):Mgd ws a b (out++b.drop j++a.drop i):=by
 refine⟨by rw[bJ];exact(Pp _ cI).trans h.pm,?_⟩;exact(h.so.app (d.sublist (cG _ _)) h.bb).app (c.sublist (cG _ _)) (h.ba.app hb)
theorem Srt.drop_gt(h:Srt ws a){x:OP}(hx:a[i]?=Z x):∀y∈a.drop i,rk ws x<=rk ws y:=λy b=>by
 have d:=(Px hx).1;rw[bX d,(Px hx).2]at b;have c:Srt ws (a.drop i):=h.sublist (cG _ _);rw[bX d,(Px hx).2]at c;rcases aF.mp b with rfl|b
 ·exact nR1 _
 ·exact aD ((cc.mp c).1 y b)
end
section
variable{κ:OQ}{ws:List dM}{a₀:Array OP}
theorem rl{st:OR}{g:Nat}{Q:Unit->OR->Prop}(h:Q () (Pe (kindOf st) (OS st) (OU st) g (OT st))):wpS (MN prog w) A E s (Kx g) Q st:=O3 h
theorem fF{st:OR}{arr:Array OP}{i:Nat}{p:OP}{Q:OP->OR->Prop}(h:arr[i]?=Z p)(q:Q p st):wpS (MN prog w) A E s (elem' arr i) Q st:=by
 rw[elem'_eq,h];exact OX q
structure MC (ws:List dM)(a₀ a b:Array OP):Prop where
 ma:∀p∈a,p∈a₀
 mb:∀p∈b,p∈a₀
 sa:Srt ws a.toList
 sb:Srt ws b.toList
 ne:∀p∈a,∀q∈b,rk ws p≠rk ws q
 pa:0<a.size
 pb:0<b.size
 last:∀x,a[a.size-1]?=some x -> ∀q∈b,rk ws q<rk ws x
 head:∀x,b[0]?=some x -> ∀q∈a,rk ws x<rk ws q
theorem MC.galA(C:js prog w A s κ ws a₀){a b:Array OP}(ao:MC ws a₀ a b){st:OR}{l:Bool}{ia ib:Nat}{y:OP}{Q:Option Nat->OR->Prop}(hk:kindOf st=κ)(hy:b[ib]? = Z y)(n:ia<a.size)(q:∀k,ia+k<=a.size->(∀x∈(a.toList.drop ia).take k,rk ws x<rk ws y)->(∀x∈a.toList.drop (ia+k),rk ws y<rk ws x)->Q (Z k) st):wpS (MN prog w) A E s (HL l y a ia (a.size-ia) 0) Q st:=by
 have e:y∈b:=cj hy;refine w9 (R:=λi=>(a[ia+i]?.map (rk ws)).getD 0) C hk (ao.mb y e) (by lia) (λi hi=>?_) (λi j m o=>?_) λk h1 h2 h=>q k (by lia) (λx g=>?_) λx g=>?_
 ·have c:ia+i<a.size:=by lia
  refine⟨a[ia+i],aG1 c,ao.ma _ (cM c),by rw[aG1 c];rfl,?_⟩;rw[aG1 c];exact ao.ne _ (cM c) _ e
 ·have c:ia+i<a.size:=by lia
  have f:ia+j<a.size:=by lia
  rw[aG1 c,aG1 f];have:=cC.mp ao.sa (ia+i) (ia+j) (by simpa using c) (by simpa using f) (by lia);simpa using this
 ·obtain⟨i,hi⟩:=bq g;have d:i<k:=by have:=(Px hi).1;rw[aT]at this;lia
  rw[aV d,cN,aT1]at hi;have:=h2 i d;rw[hi]at this;exact this
 ·obtain⟨i,hi⟩:=bq g;rw[cN,aT1]at hi;have c:=(Array.getElem?_eq_some_iff.mp hi).1;have:=h (k+i) (by lia) (by lia);rw[<- bn,hi]at this;exact this
theorem MC.galB(C:js prog w A s κ ws a₀){a b:Array OP}(ao:MC ws a₀ a b){st:OR}{l:Bool}{ia ib:Nat}{y:OP}{Q:Option Nat->OR->Prop}(hk:kindOf st=κ)(hy:a[ia]? = Z y)(m:ib<b.size)(q:∀k,ib+k<=b.size->(∀x∈(b.toList.drop ib).take k,rk ws x<rk ws y)->(∀x∈b.toList.drop (ib+k),rk ws y<rk ws x)->Q (Z k) st):wpS (MN prog w) A E s (HL l y b ib (b.size-ib) 0) Q st:=by
 have e:y∈a:=cj hy;refine w9 (R:=λi=>(b[ib+i]?.map (rk ws)).getD 0) C hk (ao.ma y e) (by lia) (λi hi=>?_) (λi j n o=>?_) λk h1 h2 h=>q k (by lia) (λx g=>?_) λx g=>?_
 ·have c:ib+i<b.size:=by lia
  refine⟨b[ib+i],aG1 c,ao.mb _ (cM c),by rw[aG1 c];rfl,?_⟩;rw[aG1 c];exact(ao.ne _ e _ (cM c)).symm
 ·have c:ib+i<b.size:=by lia
  have f:ib+j<b.size:=by lia
  rw[aG1 c,aG1 f];have:=cC.mp ao.sb (ib+i) (ib+j) (by simpa using c) (by simpa using f) (by lia);simpa using this
 ·obtain⟨i,hi⟩:=bq g;have d:i<k:=by have:=(Px hi).1;rw[aT]at this;lia
  rw[aV d,cN,aT1]at hi;have:=h2 i d;rw[hi]at this;exact this
 ·obtain⟨i,hi⟩:=bq g;rw[cN,aT1]at hi;have c:=(Array.getElem?_eq_some_iff.mp hi).1;have:=h (k+i) (by lia) (by lia);rw[<- bn,hi]at this;exact this
end
theorem mh(a:Array OP)(i:Nat):(a.extract i a.size).toList=a.toList.drop i:=by
 rw[cO,cP,cQ (by simp)]
theorem uz(a:Array OP)(i k:Nat):(a.extract i (i+k)).toList=(a.toList.drop i).take k:=by
 rw[cO,cP,bu]
section
variable{κ:OQ}{ws:List dM}{a₀:Array OP}
theorem Kc{i l j g τ:Type}{A G:Prop}{f:i->l->j->g->τ}{R:i->l->j->g->Prop}{x:τ}(h:A /\ ∃a b c d,x=f a b c d/\R a b c d)(k:A -> ∀a b c d,x=f a b c d->R a b c d->G):G:=by
 obtain⟨h,a,b,c,d,e,r⟩:=h;exact k h a b c d e r
theorem Kb{m g l i j τ:Type}{A G:Prop}{f:m->g->l->i->j->τ}{R:m->g->l->i->j->Prop}{x:τ}(h:A /\ ∃a b c d e,x=f a b c d e/\R a b c d e)(k:A -> ∀a b c d e,x=f a b c d e->R a b c d e->G):G:=by
 obtain⟨h,a,b,c,d,e,n,r⟩:=h;exact k h a b c d e n r
theorem Ka{o j n l m i τ:Type}{A G:Prop}{f:o->j->n->l->m->i->τ}{R:o->j->n->l->m->i->Prop}{x:τ}(h:A /\ ∃a b c d e g,x=f a b c d e g/\R a b c d e g)(k:A -> ∀a b c d e g,x=f a b c d e g->R a b c d e g->G):G:=by
 obtain⟨h,a,b,c,d,e,g,p,r⟩:=h;exact k h a b c d e g p r
theorem IV(C:js prog w A s κ ws a₀){a b:Array OP}(ao:MC ws a₀ a b){st:OR}{Q:Array OP->OR->Prop}(hk:kindOf st=κ)(q:∀r st',Sm st st'->Mgd ws a.toList b.toList r.toList->Q r st'):wpS (MN prog w) A E s (Lo a b) Q st:=by
 have dn:∀{out:Array OP} {ia ib:Nat},J0 ws a.toList b.toList out.toList ia ib->ib=b.size->Mgd ws a.toList b.toList (out++a.extract ia a.size++b.extract ib b.size).toList:=λ{out ia ib} h e=>by
  rw[cR,cR,mh,mh];exact h.dn ao.sa (by rw[e];simp)
 have lastX:∀{ia:Nat},ia+1=a.size -> ∀y∈a.toList.drop ia,∀q∈b,rk ws q<rk ws y:=λ{ia} e y K q hq=>by
  have hl:ia<a.toList.length:=by rw[aK];lia
  rw[bX hl,cS (by rw[aK];lia)]at K;have:y=a.toList[ia]:=by simpa using K
  exact ao.last y (by rw[this,show a.size-1=ia by lia];simp) q hq
 have ls:∀{out:Array OP} {ia ib:Nat},J0 ws a.toList b.toList out.toList ia ib->ia+1=a.size->Mgd ws a.toList b.toList (out++b.extract ib b.size++a.extract ia a.size).toList:=λ{out ia ib} h e=>by
  rw[cR,cR,mh,mh];exact h.ls ao.sa ao.sb λx D y K=>lastX e y K x (aO.mp (cT D))
 have R:∀{i:Nat},i<a.size -> ∃x,a[i]?=Z x/\x∈a/\a.toList[i]?=Z x:=λ{i} h=>⟨a[i],aG1 h,cM h,by rw[aT1,aG1 h]⟩;have V:∀{i:Nat},i<b.size -> ∃x,b[i]?=Z x/\x∈b/\b.toList[i]?=Z x:=λ{i} h=>⟨b[i],aG1 h,cM h,by rw[aT1,aG1 h]⟩;have I:∀{out:Array OP} {ia ib:Nat} {y:OP},J0 ws a.toList b.toList out.toList ia ib->b.toList[ib]?=Z y->(∀x∈a.toList.drop ia,rk ws y<rk ws x)->J0 ws a.toList b.toList (out.push y).toList ia (ib+1):=λ{out ia ib y} h K hb=>by
  have:=h.mvB (k:=1) ao.sb (by have:=(Px K).1;lia) (by rw[wu K];intro x D z hz;rw[cA.mp D];exact hb z hz)
  rwa [wu K,<- cu]at this
 have S:∀{out:Array OP} {ia ib:Nat} {y:OP},J0 ws a.toList b.toList out.toList ia ib->a.toList[ia]?=Z y->(∀x∈b.toList.drop ib,rk ws y<rk ws x)->J0 ws a.toList b.toList (out.push y).toList (ia+1) ib:=λ{out ia ib y} h K hb=>by
  have:=h.mvA (k:=1) ao.sa (by have:=(Px K).1;lia) (by rw[wu K];intro x D z hz;rw[cA.mp D];exact hb z hz)
  rwa [wu K,<- cu]at this
 refine Pq (V ao.pb) λb0 d=>?_;have hb0:=d.1;have mb0:=d.2.1;have lb0:=d.2.2;clear d
 unfold Lo;refine OV (OY (M9 ⟨O,?_⟩));refine OV (fF hb0 ?_);have j0:J0 ws a.toList b.toList (#[]:Array OP).toList 0 0:=⟨bj _,bj _,O,.refl _,.nil,λx D=>(by cases D),λx D=>(by cases D)⟩;have j1:J0 ws a.toList b.toList (#[b0]:Array OP).toList 0 (0+1):=I j0 lb0 λx D=>ao.head b0 hb0 x (aO.mp (cT D));clear j0;by_cases z:1=b.size
 ·rw[ak (by simpa using z)];exact OX (q _ _ .rfl (dn j1 z))
 rw[aj (by simpa using z)];by_cases z2:0+1=a.size
 ·rw[ak (by simpa using z2)];exact OX (q _ _ .rfl (ls j1 z2))
 rw[aj (by simpa using z2)];have hpa:=ao.pa;have hpb:=ao.pb;refine OV (OW ?_);refine OV (O2 (OZ (λx c st'=>Sm st st' /\ ∃out ia ib g,c=(Y,out,ia,ib,g)/\J0 ws a.toList b.toList out.toList ia ib/\ia+1<a.size/\ib<b.size/\x+1<=out.toList.length)
  (Q:=λc st'=>Sm st st' /\ ∃r,c.1=Z r/\Mgd ws a.toList b.toList r.toList) ?_ ?_ ⟨.rfl,_,_,_,_,O,j1,by lia,by lia,nR1 _⟩) ?_)
 ·intro x c st' _ D l;refine Kc l ?_;clear l;intro hs out ia ib g t d;subst t;have F:=d.1;have n:=d.2.1;have m:=d.2.2.1;have hn:=d.2.2.2;clear d
  dsimp only;refine OV (O2 (OZ (λy c B=>Sm st B /\ ∃f ia ib L N,c=(Y,f,ia,ib,L,N)/\J0 ws a.toList b.toList f.toList ia ib/\ia+1<a.size/\ib<b.size/\out.toList.length+y<=f.toList.length)
   (Q:=λc B=>Sm st B/\((∃r,c.1=Z r/\Mgd ws a.toList b.toList r.toList) \/ ∃f ia ib L N,c=(Y,f,ia,ib,L,N)/\J0 ws a.toList b.toList f.toList ia ib/\ia+1<a.size/\ib<b.size/\out.toList.length+1<=f.toList.length)) ?_ ?_ ⟨hs,_,_,_,_,_,O,F,n,m,nR1 _⟩) ?_)
  ·intro y c B _ K l;refine Kb l ?_;clear l;intro p f ia ib L N t d;subst t;have F:=d.1;have n:=d.2.1;have m:=d.2.2.1;have hn2:=d.2.2.2;clear d
   dsimp only;refine Pq (V m) λu d=>?_;have hu:=d.1;have mu:=d.2.1;have lu:=d.2.2;clear d
   refine Pq (R (show ia<a.size by lia)) λv d=>?_;have X:=d.1;have mv:=d.2.1;have lv:=d.2.2;clear d
   refine OV (fF hu (OV (fF X (OV (C.lt2 (p.k.trans hk) (ao.mb u mu) (ao.ma v mv) (ao.ne v mv u mu).symm ?_)))));by_cases z3:rk ws u<rk ws v
   ·simp only[z3,O0,NJ];refine OV (fF hu ?_);have H:=I F lu λx D=>nL1 z3 (ao.sa.drop_gt lv x D);have hl:(f.push u).toList.length=f.toList.length+1:=by simp
    by_cases am:ib+1=b.size
    ·rw[ak (by simpa using am)];exact OX ⟨p,.inl ⟨_,O,dn H am⟩⟩
    ·rw[aj (by simpa using am)];split
     ·exact OX ⟨p,.inr ⟨_,_,_,_,_,O,H,n,by lia,by lia⟩⟩
     ·exact OX ⟨p,_,_,_,_,_,O,H,n,by lia,by lia⟩
   ·simp only[z3,O1,bF1,NH];have z5:rk ws v<rk ws u:=by have:=ao.ne v mv u mu;lia
    refine OV (fF X ?_);have H:=S F lv λx D=>nL1 z5 (ao.sb.drop_gt lu x D);have hl:(f.push v).toList.length=f.toList.length+1:=by simp
    by_cases am:ia+1+1=a.size
    ·rw[ak (by simpa using am)];exact OX ⟨p,.inl ⟨_,O,ls H am⟩⟩
    ·rw[aj (by simpa using am)];split
     ·exact OX ⟨p,.inr ⟨_,_,_,_,_,O,H,by lia,m,by lia⟩⟩
     ·exact OX ⟨p,_,_,_,_,_,O,H,by lia,m,by lia⟩
  ·intro c B l;refine Kb l ?_;clear l;intro p f ia ib L N t d;subst t;have F:=d.1;have n:=d.2.1;have m:=d.2.2.1;have hn2:=d.2.2.2;clear d
   exfalso;have:=F.len;lia
  ·rintro c B ⟨p,⟨r,hr,hm⟩|⟨f,ia,ib,L,N,rfl,F,n,m,hn2⟩⟩
   ·obtain⟨c1,c2⟩:=c;dsimp only at hr;subst hr;exact OX ⟨p,r,O,hm⟩
   dsimp only;refine OV (OY (M9 ⟨O,?_⟩));refine OV (O2 (OZ (λy c B=>Sm st B /\ ∃j ia ib g L N,c=(Y,j,ia,ib,g,L,N)/\J0 ws a.toList b.toList j.toList ia ib/\ia+1<a.size/\ib<b.size/\f.toList.length+y<=j.toList.length)
    (Q:=λc B=>Sm st B/\((∃r,c.1=Z r/\Mgd ws a.toList b.toList r.toList) \/ ∃j ia ib g L N,c=(Y,j,ia,ib,g,L,N)/\J0 ws a.toList b.toList j.toList ia ib/\ia+1<a.size/\ib<b.size/\f.toList.length<=j.toList.length)) ?_ ?_ ⟨p,_,_,_,_,_,_,O,F,n,m,nR1 _⟩) ?_)
   ·intro y c au _ K l;refine Ka l ?_;clear l;intro P j ia ib g L N t d;subst t;have F:=d.1;have n:=d.2.1;have m:=d.2.2.1;have hn3:=d.2.2.2;clear d
    dsimp only;refine Pq (V m) λu d=>?_;have hu:=d.1;have mu:=d.2.1;have lu:=d.2.2;clear d
    refine(λ(aq:∀g':Nat,(?T:Nat->Prop) g')=>?go) ?mn
    case go=>
     by_cases hg:g>1
     ·rw[ak hg];generalize g-1=g';exact aq g'
     ·rw[aj hg];exact aq g
    intro g';refine OV (rl (OV (fF hu (OV (ao.galA (ia:=ia) C (P.k.trans hk) hu (by lia) λk h1 h2 h3=>?_)))));have G:=P.g g';generalize Pe (kindOf au) (OS au) (OU au) g' (OT au)=st4 at *
    dsimp only;refine(λ(W:∀(o:Array OP) (i:Nat),J0 ws a.toList b.toList o.toList i ib->i+1<a.size->(∀x∈a.toList.drop i,rk ws u<rk ws x)->f.toList.length+y<=o.toList.length->(?T2:Array OP->Nat->Prop) o i)=>?go2) ?mn2
    case go2=>
     by_cases U:k>0
     ·rw [if_pos U];have H:=F.mvA (k:=k) ao.sa (by rw [aK];exact h1) fun x D z hz=>nL1 (h2 x D) (ao.sb.drop_gt lu z hz);rw [<- uz,<- cR] at H;have hlt:ia+k≠a.size:=fun e=>by
       refine Pq (R (show a.size-1<a.size by lia)) λv d=>?_;have X:=d.1;have mv:=d.2.1;have lv:=d.2.2;clear d
       have h4:=ao.last v X u mu;have h5:=h2 v (gM1 (i:=a.size-1-ia) (by rw[aV (by lia),cN,show ia+(a.size-1-ia)=a.size-1 by lia];exact lv));lia
      have hl2:f.toList.length+y<=(j++a.extract ia (ia+k)).toList.length:=by rw[cR,lA1];lia
      by_cases am:ia+k+1=a.size
      ·rw[ak (by simpa using am)];exact OX ⟨G,.inl ⟨_,O,ls H am⟩⟩
      ·rw[aj (by simpa using am),aj (by simpa using hlt)];have h6:ia+k+1<a.size:=by lia
       generalize j++a.extract ia (ia+k)=o at H hl2 ⊢;have h8:=h3;generalize ia+k=i at H h6 h8 ⊢;exact W o i H h6 h8 hl2
     ·rw[aj U];have e:k=0:=by lia
      subst e;exact W j ia F n h3 hn3
    intro o i H hi hgt hlo;refine OV (fF hu ?_);have j2:=I H lu hgt;have hl2:(o.push u).toList.length=o.toList.length+1:=by simp
    by_cases am:ib+1=b.size
    ·rw[ak (by simpa using am)];exact OX ⟨G,.inl ⟨_,O,dn j2 am⟩⟩
    rw[aj (by simpa using am)];refine Pq (R (show i<a.size by lia)) λv d=>?_;have X:=d.1;have mv:=d.2.1;have lv:=d.2.2;clear d
    refine OV (fF X (OV (ao.galB (ib:=ib+1) C (G.k.trans hk) X (by lia) λwq e1 e2 e3=>?_)));dsimp only;generalize o.push u=o1 at *
    generalize ib+1=j1' at *
    refine(λ(T:∀(o3:Array OP) (jb:Nat),J0 ws a.toList b.toList o3.toList i jb->jb<b.size->(∀x∈b.toList.drop jb,rk ws v<rk ws x)->o1.toList.length<=o3.toList.length->(?T3:Array OP->Nat->Prop) o3 jb)=>?go3) ?mn3
    case go3=>
     by_cases U:wq>0
     ·rw[ak U];have j3:=j2.mvB (k:=wq) ao.sb (by rw[aK];exact e1) λx D z hz=>nL1 (e2 x D) (ao.sa.drop_gt lv z hz);rw[<- uz,<- cR]at j3;have hl3:o1.toList.length<=(o1++b.extract j1' (j1'+wq)).toList.length:=by rw[cR,lA1];lia
      by_cases z5:j1'+wq=b.size
      ·rw[ak (by simpa using z5)];exact OX ⟨G,.inl ⟨_,O,dn j3 z5⟩⟩
      ·rw[aj (by simpa using z5)];have h7:j1'+wq<b.size:=by lia
       generalize o1++b.extract j1' (j1'+wq)=o3 at j3 hl3 ⊢;have h8:=e3;generalize j1'+wq=jb at j3 h7 h8 ⊢;exact T o3 jb j3 h7 h8 hl3
     ·rw[aj U];have e:wq=0:=by lia
      subst e;exact T o1 j1' j2 (by have:=j2.lb;rw[aK]at this;lia) e3 (nR1 _)
    intro o3 jb j3 hjb hgt3 hl3;refine OV (fF X ?_);have j4:=S j3 lv hgt3;have hl4:(o3.push v).toList.length=o3.toList.length+1:=by simp
    by_cases z6:i+1+1=a.size
    ·rw[ak (by simpa using z6)];exact OX ⟨G,.inl ⟨_,O,ls j4 z6⟩⟩
    rw[aj (by simpa using z6)];split
    ·exact OX ⟨G,.inr ⟨_,_,_,_,_,_,O,j4,by lia,hjb,by lia⟩⟩
    ·exact OX ⟨G,_,_,_,_,_,_,O,j4,by lia,hjb,by lia⟩
   ·intro c au l;refine Ka l ?_;clear l;intro P j ia ib g L N t d;subst t;have F:=d.1;have n:=d.2.1;have m:=d.2.2.1;have hn3:=d.2.2.2;clear d
    exfalso;have:=F.len;lia
   ·rintro c au ⟨P,⟨r,hr,hm⟩|⟨j,ia,ib,g,L,N,rfl,F,n,m,hn3⟩⟩
    ·obtain⟨c1,c2⟩:=c;dsimp only at hr;subst hr;exact OX ⟨P,r,O,hm⟩
    dsimp only;refine OV (rl (OX ⟨P.g _,_,_,_,_,O,F,n,m,by lia⟩))
 ·intro c st' l;refine Kc l ?_;clear l;intro hs out ia ib g t d;subst t;have F:=d.1;have n:=d.2.1;have m:=d.2.2.1;have hn:=d.2.2.2;clear d
  exfalso;have:=F.len;lia
 ·rintro c st' ⟨hs,r,hr,hm⟩;obtain⟨c1,c2⟩:=c;dsimp only at hr;subst hr;exact OX (q r _ hs hm)
end
section
variable{ws:List dM}{a b out xs ys zs:List OP}{i j k t:Nat}
theorem nw.to(h1:nw ws xs ys)(h2:nw ws xs zs):nw ws xs (ys++zs):=λx a y b=>(aG.mp b).elim (λh=>h1 x a y h) λh=>h2 x a y h
structure K0 (ws:List dM)(a b out:List OP)(i j:Nat):Prop where
 la:i<=a.length
 lb:j<=b.length
 len:out.length+(i+j)=a.length+b.length
 pm:(a.take i++b.take j++out.reverse).Perm (a++b)
 so:Srt ws out.reverse
 ba:nw ws (a.take i) out
 bb:nw ws (b.take j) out
theorem K0.swap(h:K0 ws a b out i j):K0 ws b a out j i:=⟨h.lb,h.la,by have:=h.len;lia,((cI).append_right _).trans (h.pm.trans cI),h.so,h.bb,h.ba⟩
theorem K0.mvA(h:K0 ws a b out i j)(k:Srt ws a)(hk:t<=i)(hb:nw ws (b.take j) ((a.take i).drop t)):K0 ws a b (out++((a.take i).drop t).reverse) t j:=by
 have e:a.take i=a.take t++(a.take i).drop t:=by
  have:=(cF t (a.take i)).symm
  rwa [List.take_take,bC hk]at this
 have g:Srt ws (a.take i):=k.sublist (aW _ _);have l:=h.la;have len:=h.len;have sp:=g.split t;rw[List.take_take,bC hk]at sp;refine⟨by lia,h.lb,?_,?_,?_,?_,?_⟩
 ·rw[lA1,List.length_reverse,aX,aT];lia
 ·rw[List.reverse_append,List.reverse_reverse];refine List.Perm.trans ?_ h.pm;generalize (a.take i).drop t=c at e;rw[e,bJ,bJ,bJ];refine Pp _ ?_;rw[<- bJ,<- bJ];exact List.perm_append_comm.append_right _
 ·rw[List.reverse_append,List.reverse_reverse];exact Srt.app (g.sublist (cG _ _)) h.so λx d y f=>h.ba x (cT d) y (cU.mp f)
 ·exact(h.ba.of (λx d=>by rw[e];exact aH _ d) λ_ h=>h).to λx d y f=>sp x d y (cU.mp f)
 ·exact h.bb.to λx d y f=>hb x d y (cU.mp f)
theorem K0.mvB(h:K0 ws a b out i j)(c:Srt ws b)(hk:t<=j)(hb:nw ws (a.take i) ((b.take j).drop t)):K0 ws a b (out++((b.take j).drop t).reverse) i t:=(h.swap.mvA c hk hb).swap
theorem EJ{x:OP}(h:a[i]?=Z x):(a.take (i+1)).drop i=[x]:=by
 have b:=(Px h).1;rw[cv,h,cV (by rw[aT];lia),cS (by rw[aT];lia)];rfl
theorem K0.dn(h:K0 ws a b out i j)(d:Srt ws b)(hi:i=0):Mgd ws a b (a.take i++b.take j++out.reverse):=by
 refine⟨h.pm,?_⟩;rw[hi,cK,cW];exact Srt.app (d.sublist (aW _ _)) h.so λx c y e=>h.bb x c y (cU.mp e)
theorem K0.fs(h:K0 ws a b out i j)(e:Srt ws a)(f:Srt ws b)(hb:nw ws (b.take j) (a.take i)):Mgd ws a b (b.take j++a.take i++out.reverse):=by
 refine⟨(List.perm_append_comm.append_right _).trans h.pm,?_⟩;exact(Srt.app (f.sublist (aW _ _)) (e.sublist (aW _ _)) hb).app h.so (nw.app (λx c y d=>h.bb x c y (cU.mp d)) λx c y d=>h.ba x c y (cU.mp d))
theorem Srt.take_lt(h:Srt ws a){x:OP}(hx:a[i]?=Z x):∀y∈a.take (i+1),rk ws y<=rk ws x:=λy b=>by
 rw[cv,hx]at b;rcases aG.mp b with b|b
 ·have c:=(Px hx).1;exact aD (h.split i y b x (by rw[bX c,(Px hx).2];exact mS1))
 ·have:y=x:=by simpa using b
  rw[this];exact nR1 _
end
theorem xj(a:Array OP)(i:Nat):(a.extract 0 i).toList=a.toList.take i:=by
 rw[cO,cP,bZ,Nat.sub_zero]
theorem EI{a:Array OP}{i t:Nat}(h:t<=i):(a.extract t i).reverse.toList=((a.toList.take i).drop t).reverse:=by
 rw[cX,cO,cP,List.drop_take]
section
variable{κ:OQ}{ws:List dM}{a₀:Array OP}
theorem Jk(C:js prog w A s κ ws a₀){a:Array OP}{st:OR}{l:Bool}{n:Nat}{y:OP}{Q:Option Nat->OR->Prop}(hk:kindOf st=κ)(g:∀ p∈a,p∈a₀)(h:Srt ws a.toList)(hy:y∈a₀)(e:∀ p∈a,rk ws p≠rk ws y)(hn:0<n)(m:n<=a.size)(q:∀k,k<=n->(∀x∈a.toList.take k,rk ws x<rk ws y)->(∀x∈(a.toList.take n).drop k,rk ws y<rk ws x)->Q (Z k) st):wpS (MN prog w) A E s (HL l y a 0 n (n-1)) Q st:=by
 refine w9 (R:=λi=>(a[0+i]?.map (rk ws)).getD 0) C hk hy (by lia) (λi hi=>?_) (λi j r t=>?_) λk h1 h2 o=>q k h1 (λx f=>?_) λx f=>?_
 ·have b:0+i<a.size:=by lia
  refine⟨a[0+i],aG1 b,g _ (cM b),by rw[aG1 b];rfl,?_⟩;rw[aG1 b];exact e _ (cM b)
 ·have b:0+i<a.size:=by lia
  have d:0+j<a.size:=by lia
  rw[aG1 b,aG1 d];have:=cC.mp h (0+i) (0+j) (by simpa using b) (by simpa using d) (by lia);simpa using this
 ·obtain⟨i,hi⟩:=bq f;have c:i<k:=by have:=(Px hi).1;rw[aT]at this;lia
  rw[aV c,aT1]at hi;have:=h2 i c;rw[bQ,hi]at this;exact this
 ·obtain⟨i,hi⟩:=bq f;have b:=(Px hi).1;rw[aX,aT,aK]at b;rw[cN,aV (by lia),aT1]at hi;have:=o (k+i) (by lia) (by lia);rw[bQ,hi]at this;exact this
theorem IX(C:js prog w A s κ ws a₀){a b:Array OP}(ao:MC ws a₀ a b){st:OR}{Q:Array OP->OR->Prop}(hk:kindOf st=κ)(q:∀r st',Sm st st'->Mgd ws a.toList b.toList r.toList->Q r st'):wpS (MN prog w) A E s (Lp a b) Q st:=by
 have dn:∀{out:Array OP} {na nb:Nat},K0 ws a.toList b.toList out.toList na nb->na=0->Mgd ws a.toList b.toList (a.extract 0 na++b.extract 0 nb++out.reverse).toList:=λ{out na nb} h e=>by
  rw[cR,cR,xj,xj,cX];exact h.dn ao.sb e
 have firstX:∀{nb:Nat},nb=1 -> ∀y∈b.toList.take nb,∀q∈a,rk ws y<rk ws q:=λ{nb} e y au q hq=>by
  subst e;have hl:0<b.toList.length:=by rw[aK];exact ao.pb
  have:b.toList.take 1=[b.toList[0]]:=by
   conv=>lhs;rw[cv,cK,gG1 hl]
   rfl
  rw[this]at au;rw[cA.mp au];exact ao.head _ (by simp) q hq
 have fs:∀{out:Array OP} {na nb:Nat},K0 ws a.toList b.toList out.toList na nb->nb=1->Mgd ws a.toList b.toList (b.extract 0 nb++a.extract 0 na++out.reverse).toList:=λ{out na nb} h e=>by
  rw[cR,cR,xj,xj,cX];exact h.fs ao.sa ao.sb λx G y au=>firstX e x G y (aO.mp (cH au))
 have U:∀{i:Nat},i<a.size -> ∃x,a[i]?=Z x/\x∈a/\a.toList[i]?=Z x:=λ{i} h=>⟨a[i],aG1 h,cM h,by rw[aT1,aG1 h]⟩;have getB:∀{i:Nat},i<b.size -> ∃x,b[i]?=Z x/\x∈b/\b.toList[i]?=Z x:=λ{i} h=>⟨b[i],aG1 h,cM h,by rw[aT1,aG1 h]⟩;have X:∀{out:Array OP} {na nb:Nat} {y:OP},K0 ws a.toList b.toList out.toList na nb->0<nb->b.toList[nb-1]?=Z y->(∀x∈a.toList.take na,rk ws x<rk ws y)->K0 ws a.toList b.toList (out.push y).toList na (nb-1):=λ{out na nb y} h h0 au hb=>by
  have e:=EJ au;rw[show nb-1+1=nb by lia]at e;have:=h.mvB (t:=nb-1) ao.sb (by lia) (by rw[e];intro x G z hz;rw[cA.mp hz];exact hb x G);rw[e,List.reverse_singleton,<- cu]at this;exact this
 have K:∀{out:Array OP} {na nb:Nat} {y:OP},K0 ws a.toList b.toList out.toList na nb->0<na->a.toList[na-1]?=Z y->(∀x∈b.toList.take nb,rk ws x<rk ws y)->K0 ws a.toList b.toList (out.push y).toList (na-1) nb:=λ{out na nb y} h h0 au hb=>by
  have e:=EJ au;rw[show na-1+1=na by lia]at e;have:=h.mvA (t:=na-1) ao.sa (by lia) (by rw[e];intro x G z hz;rw[cA.mp hz];exact hb x G);rw[e,List.reverse_singleton,<- cu]at this;exact this
 have aq:∀{out:Array OP} {na nb:Nat},K0 ws a.toList b.toList out.toList na nb->out.toList.length+(na+nb)=a.size+b.size:=λ{out na nb} h=>by have:=h.len;rwa [aK (xs:=a),aK (xs:=b)]at this
 have hpa:=ao.pa;have hpb:=ao.pb;refine Pq (U (show a.size-1<a.size by lia)) λa1 d=>?_;have ha1:=d.1;have ma1:=d.2.1;have la1:=d.2.2;clear d
 have upA:∀{n:Nat} {v:OP},0<n->a.toList[n-1]?=Z v -> ∀x∈a.toList.take n,rk ws x<=rk ws v:=λ{n v} h hv x G=>ao.sa.take_lt hv x (by rw[show n-1+1=n by lia];exact G);have upB:∀{n:Nat} {v:OP},0<n->b.toList[n-1]?=Z v -> ∀x∈b.toList.take n,rk ws x<=rk ws v:=λ{n v} h hv x G=>ao.sb.take_lt hv x (by rw[show n-1+1=n by lia];exact G);unfold Lp;refine OV (OY (M9 ⟨O,?_⟩));refine OV (fF ha1 ?_);have j0:K0 ws a.toList b.toList (#[]:Array OP).toList a.size b.size:=⟨by simp,by simp,by simp,by rw[<- aK,<- aK,b4,b4];simp,.nil,λx G y au=>(by cases au),λx G y au=>(by cases au)⟩;have j1:K0 ws a.toList b.toList (#[a1]:Array OP).toList (a.size-1) b.size:=K j0 ao.pa la1 λx G=>ao.last a1 ha1 x (aO.mp (cH G));clear j0;by_cases z:a.size-1=0
 ·rw[ak (by simpa using z)];exact OX (q _ _ .rfl (dn j1 z))
 rw[aj (by simpa using z)];by_cases z2:b.size=1
 ·rw[ak (by simpa using z2)];exact OX (q _ _ .rfl (fs j1 z2))
 rw[aj (by simpa using z2)];refine OV (OW ?_);refine OV (O2 (OZ (λx c st'=>Sm st st' /\ ∃na nb out g,c=(Y,na,nb,out,g)/\K0 ws a.toList b.toList out.toList na nb/\0<na/\1<nb/\x+1<=out.toList.length)
  (Q:=λc st'=>Sm st st' /\ ∃r,c.1=Z r/\Mgd ws a.toList b.toList r.toList) ?_ ?_ ⟨.rfl,_,_,_,_,O,j1,by lia,by lia,nR1 _⟩) ?_)
 ·intro x c st' _ G l;refine Kc l ?_;clear l;intro hs na nb out g F d;subst F;have H:=d.1;have m:=d.2.1;have B:=d.2.2.1;have hn:=d.2.2.2;clear d
  dsimp only;refine OV (O2 (OZ (λy c I=>Sm st I /\ ∃na nb f P R,c=(Y,na,nb,f,P,R)/\K0 ws a.toList b.toList f.toList na nb/\0<na/\1<nb/\out.toList.length+y<=f.toList.length)
   (Q:=λc I=>Sm st I/\((∃r,c.1=Z r/\Mgd ws a.toList b.toList r.toList) \/ ∃na nb f P R,c=(Y,na,nb,f,P,R)/\K0 ws a.toList b.toList f.toList na nb/\0<na/\1<nb/\out.toList.length+1<=f.toList.length)) ?_ ?_ ⟨hs,_,_,_,_,_,O,H,m,B,nR1 _⟩) ?_)
  ·intro y c I _ au l;refine Kb l ?_;clear l;intro D na nb f P R F d;subst F;have H:=d.1;have m:=d.2.1;have B:=d.2.2.1;have hn2:=d.2.2.2;clear d
   dsimp only;have lna:=H.la;have lnb:=H.lb;rw[aK]at lna lnb;refine Pq (getB (show nb-1<b.size by lia)) λu d=>?_;have hu:=d.1;have mu:=d.2.1;have lu:=d.2.2;clear d
   refine Pq (U (show na-1<a.size by lia)) λv d=>?_;have hv:=d.1;have mv:=d.2.1;have lv:=d.2.2;clear d
   refine OV (fF hu (OV (fF hv (OV (C.lt2 (D.k.trans hk) (ao.mb u mu) (ao.ma v mv) (ao.ne v mv u mu).symm ?_)))));by_cases z3:rk ws u<rk ws v
   ·simp only[z3,O0,NJ];refine OV (fF hv ?_);have am:=K H m lv λx G=>bK (upB (by lia) lu x G) z3;have hl:(f.push v).toList.length=f.toList.length+1:=by simp
    by_cases N:na-1=0
    ·rw[ak (by simpa using N)];exact OX ⟨D,.inl ⟨_,O,dn am N⟩⟩
    ·rw[aj (by simpa using N)];split
     ·exact OX ⟨D,.inr ⟨_,_,_,_,_,O,am,by lia,B,by lia⟩⟩
     ·exact OX ⟨D,_,_,_,_,_,O,am,by lia,B,by lia⟩
   ·simp only[z3,O1,bF1,NH];have z5:rk ws v<rk ws u:=by have:=ao.ne v mv u mu;lia
    refine OV (fF hu ?_);have am:=X H (by lia) lu λx G=>bK (upA m lv x G) z5;have hl:(f.push u).toList.length=f.toList.length+1:=by simp
    by_cases N:nb-1=1
    ·rw[ak (by simpa using N)];exact OX ⟨D,.inl ⟨_,O,fs am N⟩⟩
    ·rw[aj (by simpa using N)];split
     ·exact OX ⟨D,.inr ⟨_,_,_,_,_,O,am,m,by lia,by lia⟩⟩
     ·exact OX ⟨D,_,_,_,_,_,O,am,m,by lia,by lia⟩
  ·intro c I l;refine Kb l ?_;clear l;intro D na nb f P R F d;subst F;have H:=d.1;have m:=d.2.1;have B:=d.2.2.1;have hn2:=d.2.2.2;clear d
   exfalso;have:=aq H;lia
  ·rintro c I ⟨D,⟨r,hr,hm⟩|⟨na,nb,f,P,R,rfl,H,m,B,hn2⟩⟩
   ·obtain⟨c1,c2⟩:=c;dsimp only at hr;subst hr;exact OX ⟨D,r,O,hm⟩
   dsimp only;refine OV (OY (M9 ⟨O,?_⟩));refine OV (O2 (OZ (λy c I=>Sm st I /\ ∃na nb j g P R,c=(Y,na,nb,j,g,P,R)/\K0 ws a.toList b.toList j.toList na nb/\0<na/\1<nb/\f.toList.length+y<=j.toList.length)
    (Q:=λc I=>Sm st I/\((∃r,c.1=Z r/\Mgd ws a.toList b.toList r.toList) \/ ∃na nb j g P R,c=(Y,na,nb,j,g,P,R)/\K0 ws a.toList b.toList j.toList na nb/\0<na/\1<nb/\f.toList.length<=j.toList.length)) ?_ ?_ ⟨D,_,_,_,_,_,_,O,H,m,B,nR1 _⟩) ?_)
   ·intro y c S _ au l;refine Ka l ?_;clear l;intro T na nb j g P R F d;subst F;have H:=d.1;have m:=d.2.1;have B:=d.2.2.1;have hn3:=d.2.2.2;clear d
    dsimp only;have lna:=H.la;have lnb:=H.lb;rw[aK]at lna lnb;refine Pq (getB (show nb-1<b.size by lia)) λu d=>?_;have hu:=d.1;have mu:=d.2.1;have lu:=d.2.2;clear d
    refine(λ(main:∀g':Nat,(?T:Nat->Prop) g')=>?go) ?mn
    case go=>
     by_cases hg:g>1
     ·rw[ak hg];generalize g-1=g';exact main g'
     ·rw[aj hg];exact main g
    intro g';refine OV (rl (OV (fF hu (OV (Jk (n:=na) C (T.k.trans hk) ao.ma ao.sa (ao.mb u mu) (λp hp=>ao.ne p hp u mu) m lna λk h1 h2 h3=>?_)))));have L:=T.g g';generalize Pe (kindOf S) (OS S) (OU S) g' (OT S)=st4 at *
    dsimp only;generalize hac:na-k=acc;refine(λ(main2:∀(o:Array OP) (i:Nat),K0 ws a.toList b.toList o.toList i nb->0<i->(∀x∈a.toList.take i,rk ws x<rk ws u)->f.toList.length+y<=o.toList.length->(?T2:Array OP->Nat->Prop) o i)=>?go2) ?mn2
    case go2=>
     by_cases W:acc>0
     ·rw[ak W];have am:=H.mvA (t:=k) ao.sa h1 λx G z hz=>bK (upB (by lia) lu x G) (h3 z hz);rw[<- EI h1,<- cR]at am;have hl2:f.toList.length+y<=(j++(a.extract k na).reverse).toList.length:=by rw[cR,lA1];lia
      by_cases N:k=0
      ·rw[ak (by simpa using N)];exact OX ⟨L,.inl ⟨_,O,dn am N⟩⟩
      ·rw[aj (by simpa using N)];generalize j++(a.extract k na).reverse=o at am hl2 ⊢;have wq:=h2;have h9:0<k:=by lia
       generalize k=i at am wq h9 ⊢;exact main2 o i am h9 wq hl2
     ·rw[aj W];have e:k=na:=by lia
      have wq:=h2;rw[e]at wq;exact main2 j na H m wq hn3
    intro o i am hi hgt hlo;refine OV (fF hu ?_);have j2:=X am (by lia) lu hgt;have hl2:(o.push u).toList.length=o.toList.length+1:=by simp
    by_cases N:nb-1=1
    ·rw[ak (by simpa using N)];exact OX ⟨L,.inl ⟨_,O,fs j2 N⟩⟩
    rw[aj (by simpa using N)];have li:=am.la;rw[aK]at li;refine Pq (U (show i-1<a.size by lia)) λv d=>?_;have hv:=d.1;have mv:=d.2.1;have lv:=d.2.2;clear d
    refine OV (fF hv (OV (Jk (n:=nb-1) C (L.k.trans hk) ao.mb ao.sb (ao.ma v mv) (λp hp=>(ao.ne v mv p hp).symm) (by lia) (by lia) λk2 e1 e2 e3=>?_)));dsimp only;generalize o.push u=o1 at *
    have hnb:0<nb-1:=by lia
    generalize nb-1=j1' at *
    generalize hac2:j1'-k2=acc2;refine(λ(V:∀(o3:Array OP) (jb:Nat),K0 ws a.toList b.toList o3.toList i jb->1<jb->(∀x∈b.toList.take jb,rk ws x<rk ws v)->o1.toList.length<=o3.toList.length->(?T3:Array OP->Nat->Prop) o3 jb)=>?go3) ?mn3
    case go3=>
     by_cases W:acc2>0
     ·rw[ak W];have j3:=j2.mvB (t:=k2) ao.sb e1 λx G z hz=>bK (upA hi lv x G) (e3 z hz);rw[<- EI e1,<- cR]at j3;have hl3:o1.toList.length<=(o1++(b.extract k2 j1').reverse).toList.length:=by rw[cR,lA1];lia
      by_cases z5:k2=1
      ·rw[ak (by simpa using z5)];exact OX ⟨L,.inl ⟨_,O,fs j3 z5⟩⟩
      ·have h0:k2≠0:=fun e=>by
        subst e;refine Pq (getB ao.pb) λb0 d=>?_;have hb0:=d.1;have mb0:=d.2.1;have lb0:=d.2.2;clear d
        have:=e3 b0 (gM1 (i:=0) (by rw[cN,aV (by lia)];exact lb0));have:=ao.head b0 hb0 v mv;lia
       rw[aj (by simpa using z5),aj (by simpa using h0)];generalize o1++(b.extract k2 j1').reverse=o3 at j3 hl3 ⊢;have wq:=e2;have h9:1<k2:=by lia
       generalize k2=jb at j3 wq h9 ⊢;exact V o3 jb j3 h9 wq hl3
     ·rw[aj W];have e:k2=j1':=by lia
      have wq:=e2;rw[e]at wq;exact V o1 j1' j2 (by lia) wq (nR1 _)
    intro o3 jb j3 hjb hgt3 hl3;refine OV (fF hv ?_);have j4:=K j3 hi lv hgt3;have hl4:(o3.push v).toList.length=o3.toList.length+1:=by simp
    by_cases z6:i-1=0
    ·rw[ak (by simpa using z6)];exact OX ⟨L,.inl ⟨_,O,dn j4 z6⟩⟩
    rw[aj (by simpa using z6)];split
    ·exact OX ⟨L,.inr ⟨_,_,_,_,_,_,O,j4,by lia,hjb,by lia⟩⟩
    ·exact OX ⟨L,_,_,_,_,_,_,O,j4,by lia,hjb,by lia⟩
   ·intro c S l;refine Ka l ?_;clear l;intro T na nb j g P R F d;subst F;have H:=d.1;have m:=d.2.1;have B:=d.2.2.1;have hn3:=d.2.2.2;clear d
    exfalso;have:=aq H;lia
   ·rintro c S ⟨T,⟨r,hr,hm⟩|⟨na,nb,j,g,P,R,rfl,H,m,B,hn3⟩⟩
    ·obtain⟨c1,c2⟩:=c;dsimp only at hr;subst hr;exact OX ⟨T,r,O,hm⟩
    dsimp only;refine OV (rl (OX ⟨T.g _,_,_,_,_,O,H,m,B,by lia⟩))
 ·intro c st' l;refine Kc l ?_;clear l;intro hs na nb out g F d;subst F;have H:=d.1;have m:=d.2.1;have B:=d.2.2.1;have hn:=d.2.2.2;clear d
  exfalso;have:=aq H;lia
 ·rintro c st' ⟨hs,r,hr,hm⟩;obtain⟨c1,c2⟩:=c;dsimp only at hr;subst hr;exact OX (q r _ hs hm)
end
theorem sS(c:Nat):∀ (m:List OP) (k:Nat) (arr:Array OP) (pre old b:List OP),arr.toList=pre++(old++b)->pre.length=c+k->old.length=m.length ->
  ((m.zipIdx k).foldl (λa (x:OP×Nat)=>a.setIfInBounds (c+x.2) x.1) arr).toList=pre++(m++b)
 |[],k,arr,pre,old,b,h1,h2,h3=>by
  have:old=[]:=cs.mp h3;subst this;exact h1
 |x::m,k,arr,pre,[],b,h1,h2,h3=>by simp at h3
 |x::m,k,arr,pre,o::old,b,h1,h2,h3=>by
  rw[bN,ca];have:=sS c m (k+1) (arr.setIfInBounds (c+k) x) (pre++[x]) old b (by
   rw[Array.toList_setIfInBounds,h1,<- h2,cY _ _ (nR1 _),cZ];simp) (by rw[lA1,h2];rfl) (by simpa using h3)
  rw[this];simp
def ga:Nat->List (List OP)->List (Nat×Nat×Nat)->Prop
 |_,[],[]=>True
 |s,r::rs,(t,n,_)::p=>t=s/\n=r.length/\ga (s+r.length) rs p
 |_,_,_=>False
theorem wF:∀ {s:Nat} {rs:List (List OP)} {p:List (Nat×Nat×Nat)},ga s rs p -> ∀ {i:Nat} {r1 r2:List OP},rs[i]? = some r1->rs[i+1]? = some r2 ->
  ∃d c,p[i]?=Z (s+(rs.take i).flatten.length,r1.length,d)/\p[i+1]?=Z (s+(rs.take i).flatten.length+r1.length,r2.length,c) /\
   ga s (rs.take i++(r1++r2)::rs.drop (i+2)) ((p.set i (s+(rs.take i).flatten.length,r1.length+r2.length,d)).eraseIdx (i+1))
 |s,[],p,h,i,r1,r2,h1,_=>by simp at h1
 |s,r::rs,[],h,i,r1,r2,_,_=>by cases h
 |s,r::rs,(t,n,d)::p,⟨e1,e2,h⟩,0,r1,r2,h1,h2=>by
  have g:r=r1:=by simpa using h1
  subst g
  match rs,p,h,h2 with
  |r2'::rs,(t2,n2,c)::p,⟨e,f,h⟩,h2=>
   have j:r2'=r2:=by simpa using h2
   subst j;subst e1;subst e2;subst e;subst f;refine⟨d,c,by simp,by simp,?_⟩;simp only[cK,List.flatten_nil,bg,c0,cW,List.drop_succ_cons,bZ,c5,c6,List.eraseIdx_cons_zero];exact⟨O,by rw[lA1],by rw[lA1,<- bn];exact h⟩
 |s,r::rs,(t,n,d)::p,⟨e1,e2,h⟩,i+1,r1,r2,h1,h2=>by
  obtain⟨a,b,e,f,k⟩:=wF h (i:=i) (by simpa using h1) (by simpa using h2);have el:s+((r::rs).take (i+1)).flatten.length=s+r.length+(rs.take i).flatten.length:=by rw[cJ,c7,lA1,bn]
  refine⟨a,b,by rw[el,gC1];exact e,by rw[el,gC1];exact f,?_⟩;rw[el,cJ,bm,c8,c6,List.drop_succ_cons];exact⟨e1,e2,k⟩
structure SR (ws:List dM)(κ:OQ)(a₀:Array OP)(rs:List (List OP))(rest:List OP)(st:OR):Prop where
 k:kindOf st=κ
 f:OT st=none
 pm:(OS st).Perm a₀
 ar:(OS st).toList=rs.flatten++rest
 so:∀r∈rs,Srt ws r/\r≠[]
 pe:ga 0 rs (OU st).toList
section
variable{κ:OQ}{ws:List dM}{a₀:Array OP}
theorem js.unlike(C:js prog w A s κ ws a₀){xs:Array OP}(p:xs.Perm a₀):xs.toList.Pairwise λu v=>rk ws u≠rk ws v:=by
 refine cC.mpr λi j hi a b e=>?_;rw[aK]at hi a;have:=C.inj p (i:=i) (j:=j) (by rw[<- p.size_eq];exact hi) (by rw[<- p.size_eq];exact a) (by unfold kR;rw[aG1 hi,aG1 a];simpa using e);lia
theorem Fo{σ:Type}{ao:Model}{st a:σ}{Q:Unit->σ->Prop}(h:Q () a):wpS ao A E s (set a:StateT σ Sem PUnit) Q st:=O3 (f:=λ_=>a) h
theorem Bt(xs:Array (Nat×Nat×Nat))(i:Nat):(xs.eraseIdxIfInBounds i).toList=xs.toList.eraseIdx i:=by
 unfold Array.eraseIdxIfInBounds;split
 ·rw[Array.toList_eraseIdx]
 ·rename_i h;rw[List.eraseIdx_of_length_le (by rw[aK];lia)]
theorem pY:∀{A B:List (List OP)} {r b:List OP} {s:Nat} {p:List (Nat×Nat×Nat)},ga s (A++r::B) p->r.length=b.length->ga s (A++b::B) p
 |[],B,r,b,s,[],h,_=>by cases h
 |[],B,r,b,s,(t,n,pw)::p,h,e=>by
  obtain⟨h1,h2,c⟩:=(show t=s/\n=r.length/\ga (s+r.length) B p from h);exact⟨h1,by rw[<- e];exact h2,by rw[<- e];exact c⟩
 |a::A,B,r,b,s,[],h,_=>by cases h
 |a::A,B,r,b,s,(t,n,pw)::p,h,e=>by
  obtain⟨h1,h2,c⟩:=(show t=s/\n=a.length/\ga (s+a.length) (A++r::B) p from h);exact⟨h1,h2,pY c e⟩
theorem Fd{rs:List (List OP)}{i:Nat}{b r2:List OP}(h1:rs[i]?=Z b)(h2:rs[i+1]?=Z r2):rs=rs.take i++b::r2::rs.drop (i+2):=by
 have c:=(Px h1);have a:=(Px h2);have:=(cF i rs).symm;rw[bX c.1,bX a.1,c.2,a.2]at this;exact this
theorem Jj(C:js prog w A s κ ws a₀){st:OR}{l:Bool}{key:OP}{X:Array OP}{pre r c:List OP}{h:Nat}{Q:Option Nat->OR->Prop}(hk:kindOf st=κ)(n:X.toList=pre++(r++c))(hm:∀ x∈X,x∈a₀)(b:key∈a₀)(p:Srt ws r)(d:∀ x∈r,rk ws x≠rk ws key)(t:h<r.length)(q:∀k,k<=r.length->(∀x∈r.take k,rk ws x<rk ws key)->(∀x∈r.drop k,rk ws key<rk ws x)->Q (Z k) st):wpS (MN prog w) A E s (HL l key X pre.length r.length h) Q st:=by
 have at_:∀i,i<r.length->X[pre.length+i]?=r[i]?:=λi hi=>by
  rw[<- aT1,n,gR1 (br _ _),bu,gL1 hi]
 refine w9 (R:=λi=>(r[i]?.map (rk ws)).getD 0) C hk b t (λi hi=>?_) (λi j g m=>?_) λk h1 h2 o=>q k h1 (λx f=>?_) λx f=>?_
 ·have e:=at_ i hi;rw[gG1 hi]at e;refine⟨r[i],e,hm _ (cj e),by rw[gG1 hi];rfl,?_⟩;rw[gG1 hi];exact d _ (bV hi)
 ·rw[gG1 (show i<r.length by lia),gG1 m];exact cC.mp p i j (by lia) m g
 ·obtain⟨i,hi⟩:=bq f;have a:i<k:=by have:=(Px hi).1;rw[aT]at this;lia
  rw[aV a]at hi;have:=h2 i a;rw[hi]at this;exact this
 ·obtain⟨i,hi⟩:=bq f;rw[cN]at hi;have:=o (k+i) (by lia) (Px hi).1;rw[hi]at this;exact this
theorem SR.merge(C:js prog w A s κ ws a₀){rs:List (List OP)}{rest:List OP}{st:OR}{i:Nat}{a r2:List OP}{Q:Bool->OR->Prop}(h:SR ws κ a₀ rs rest st)(h1:rs[i]? = Z a)(h2:rs[i+1]? = Z r2)(q:∀r st',SR ws κ a₀ (rs.take i++r::rs.drop (i+2)) rest st'->Q M st'):wpS (MN prog w) A E s (mergeAt' i) Q st:=by
 obtain⟨W,pw2,p1,p2,p3⟩:=wF h.pe h1 h2;rw[aT1,bQ]at p1 p2;rw[bQ]at p3;have hsp:=Fd h1 h2;obtain⟨K,n1⟩:=h.so a (gM1 h1);obtain⟨am,n2⟩:=h.so r2 (gM1 h2);have others:∀r∈rs.take i,Srt ws r/\r≠[]:=λr g=>h.so r (cH g);have others2:∀r∈rs.drop (i+2),Srt ws r/\r≠[]:=λr g=>h.so r (cT g);have l1:0<a.length:=c9.mpr n1;have l2:0<r2.length:=c9.mpr n2;have j:(OS st).toList=(rs.take i).flatten++(a++(r2++((rs.drop (i+2)).flatten++rest))):=by
  rw[h.ar]
  conv=>lhs;rw[hsp]
  simp
 generalize N:(rs.take i).flatten=pre at *
 generalize G:(rs.drop (i+2)).flatten++rest=post at *
 have f:∀x∈OS st,x∈a₀:=λx c=>h.pm.mem_iff.mp c;have un:=C.unlike h.pm;have S:∀x∈a,x∈OS st:=λx c=>by rw[<- aO,j];simp[c]
 have R:∀x∈r2,x∈OS st:=λx c=>by rw[<- aO,j];simp[c]
 have t:∀x∈a,∀y∈r2,rk ws x≠rk ws y:=λx c y B=>by
  rw[j]at un;exact(cE.mp (cE.mp un).2.1).2.2 x c y (aH _ B)
 have hs:∀{st':OR} {r:List OP},kindOf st'=kindOf st->OT st'=OT st->(OU st').toList=((OU st).toList.set i (pre.length,a.length+r2.length,W)).eraseIdx (i+1)->(OS st').toList=pre++(r++post)->r.Perm (a++r2)->Srt ws r->Q M st':=λ{st' r} o l g3 g4 T g6=>by
  refine q r st' ⟨o.trans h.k,l.trans h.f,?_,?_,?_,?_⟩
  ·refine Array.Perm.trans ?_ h.pm;rw[cf,g4,j,<- bJ a];exact Pp _ (T.append_right _)
  ·rw[g4,da,c7,N,bJ,bJ,G]
  ·intro x c;rcases aG.mp c with c|c
   ·exact others x c
   ·rcases aF.mp c with rfl|c
    ·exact⟨g6,λe=>by rw[e]at T;have:=T.length_eq;rw[lA1,bg]at this;lia⟩
    ·exact others2 x c
  ·rw[g3];exact pY p3 (by rw[lA1,T.length_eq,lA1])
 obtain⟨u,V⟩:∃u,r2[0]?=some u:=⟨_,gG1 l2⟩;have mu:=gM1 V;obtain⟨v,P⟩:∃v,a[a.length-1]?=some v:=⟨_,gG1 (by lia)⟩;have mv:=gM1 P;have hXu:(OS st)[pre.length+a.length]?=Z u:=by
  rw[<- aT1,j,gR1 (br _ _),bu,gR1 (nR1 _),cZ,gL1 l2];exact V
 have wq:(OS st)[pre.length+a.length-1]?=Z v:=by
  rw[<- aT1,j,gR1 (by lia),show pre.length+a.length-1-pre.length=a.length-1 by lia,gL1 (by lia)];exact P
 have L:(OS st).toList=(pre++a)++(r2++post):=by rw[j,bJ]
 unfold mergeAt';refine OV (OW ?_);dsimp only;rw[show(OU st)[i]?=_ from p1,show(OU st)[i+1]?=_ from p2];dsimp only;refine OV (Fo ?_);refine OV (fF hXu ?_);refine OV (Jj (pre:=pre) (r:=a) C h.k j f (f u (R u mu)) K (λx c=>t x c u mu) l1 λk e1 U e3=>?_);dsimp only;have n:(((OU st).setIfInBounds i (pre.length,a.length+r2.length,W)).eraseIdxIfInBounds (i+1)).toList=((OU st).toList.set i (pre.length,a.length+r2.length,W)).eraseIdx (i+1):=by rw[Bt,Array.toList_setIfInBounds]
 generalize ((OU st).setIfInBounds i (pre.length,a.length+r2.length,W)).eraseIdxIfInBounds (i+1)=au at *
 have I:∀x∈r2,rk ws u<=rk ws x:=λx c=>am.drop_gt (i:=0) V x (by rw[bZ];exact c);by_cases z:a.length-k=0
 ·rw[ak (by simpa using z)];have ek:k=a.length:=by lia
  subst ek;rw[b4]at U;exact OX (hs (r:=a++r2) O O n (by rw[bJ];exact j) (.refl _) (K.app am λx c y B=>nL1 (U x c) (I y B)))
 rw[aj (by simpa using z),show pre.length+k+(a.length-k)-1=pre.length+a.length-1 by lia];refine OV (fF wq ?_);rw[show pre.length+a.length=(pre++a).length by rw[lA1]];refine OV (Jj (pre:=pre++a) (r:=r2) C h.k L f (f v (S v mv)) am (λx c=>(t v mv x c).symm) (show r2.length-1<r2.length by lia) λk2 f1 f2 f3=>?_);dsimp only;have huv:rk ws u<rk ws v:=e3 v (gM1 (i:=a.length-1-k) (by rw[cN,show k+(a.length-1-k)=a.length-1 by lia];exact P));have X:k2≠0:=λe=>by
  subst e;have:=f3 u (by rw[bZ];exact mu);lia
 rw[aj (by simpa using X)];have ex:((OS st).extract (pre.length+k) (pre++a).length).toList=a.drop k:=by
  rw[cO,cP,j,<- bF,List.drop_left,cV e1,lA1,show pre.length+a.length-(pre.length+k)=(a.drop k).length by rw[aX];lia,db]
 have H:((OS st).extract (pre++a).length ((pre++a).length+k2)).toList=r2.take k2:=by
  rw[cO,cP,L,List.drop_left,bu,List.take_append_of_le_length f1]
 generalize c:(OS st).extract (pre.length+k) (pre++a).length=x at *
 generalize B:(OS st).extract (pre++a).length ((pre++a).length+k2)=y at *
 have lx:x.size=a.length-k:=by rw[<- aK,ex,aX]
 have ly:y.size=k2:=by rw[<- aK,H,aT];lia
 have ao:MC ws a₀ x y:=by
  refine⟨λp d=>?_,λp d=>?_,?_,?_,λp d r g=>?_,by lia,by lia,λp d r g=>?_,λp d r g=>?_⟩
  ·rw[<- aO,ex]at d;exact f p (S p (cT d))
  ·rw[<- aO,H]at d;exact f p (R p (cH d))
  ·rw[ex];exact K.sublist (cG _ _)
  ·rw[H];exact am.sublist (aW _ _)
  ·rw[<- aO,ex]at d;rw[<- aO,H]at g;exact t p (cT d) r (cH g)
  ·rw[<- aO,H]at g;rw[<- aT1,ex,cN,lx,show k+(a.length-k-1)=a.length-1 by lia,P]at d;cases d;exact f2 r g
  ·rw[<- aO,ex]at g;rw[<- aT1,H,aV (by lia),V]at d;cases d;exact e3 r g
 refine(λ(D:∀(m:Array OP) (b:OR),Sm (Pe (kindOf st) (OS st) au (gallopOf st) (OT st)) b->Mgd ws x.toList y.toList m.toList->(?T:Array OP->OR->Prop) m b)=>?go) ?mn
 case go=>
  by_cases z2:a.length-k<=k2
  ·rw[ak z2];refine OV (IV C ao h.k λm b o l=>?_);exact D m b o l
  ·rw[aj z2];refine OV (IX C ao h.k λm b o l=>?_);exact D m b o l
 intro m b o l;refine OV (O3 (OV (OW ?_)));dsimp only;have hf:OT b=Y:=o.f.trans h.f;rw[show(OT b).isNone=M by rw[hf];rfl];rw[ex,H]at l;have ml:m.toList.length=(a.drop k++r2.take k2).length:=l.1.length_eq;have wr:=sS (pre.length+k) m.toList 0 (OS b) (pre++a.take k) (a.drop k++r2.take k2) (r2.drop k2++post) (by
  rw[o.a];show(OS st).toList=_;rw[j]
  conv=>lhs;rw[<- cF k a,<- cF k2 r2]
  simp only[bJ]) (by rw[lA1,aT,c0];lia) ml.symm
 have bx:∀y∈m.toList,y∈a.drop k\/y∈r2.take k2:=λy B=>aG.mp (l.1.mem_iff.mp B);have sp1:=K.split k;have sp2:=am.split k2;have aq:∀y∈a,rk ws y<=rk ws v:=λy B=>K.take_lt P y (by rw[show a.length-1+1=a.length by lia,b4];exact B);refine OX (hs (r:=a.take k++(m.toList++r2.drop k2)) o.k o.f (by rw[show OU (Pe (kindOf b) _ (OU b) (gallopOf b) (OT b))=OU b from rfl,o.p];exact n) ?_ ?_ ?_)
 ·refine wr.trans ?_;simp only[bJ]
 ·conv=>rhs;rw[<- cF k a,<- cF k2 r2]
  rw[bJ];refine Pp _ ?_;rw[<- bJ];exact l.1.append_right _
 ·refine Srt.app (K.sublist (aW _ _)) (Srt.app l.2 (am.sublist (cG _ _)) λp d r g=>?_) (nw.to (λp d r g=>?_) λp d r g=>?_)
  ·rcases bx p d with F|F
   ·exact bK (aq p (cT F)) (f3 r g)
   ·exact sp2 p F r g
  ·rcases bx r g with F|F
   ·exact sp1 p d r F
   ·exact nL1 (U p d) (I r (cH F))
  ·exact nL1 (U p d) (I r (cT g))
end
def kO(ws:List dM)(lo:Nat)(xs:Array OP)(i:Nat):Nat:=kR ws xs (lo+i)
def xH(ws:List dM)(lo:Nat)(xs:Array OP)(k:Nat):Prop:=∀i j,i<j->j<k->kO ws lo xs i<kO ws lo xs j
def JQ(ws:List dM)(lo:Nat)(xs:Array OP)(k:Nat):Prop:=∀i j,i<j->j<k->kO ws lo xs j<kO ws lo xs i
structure SoL (κ:OQ)(a₀:Array OP)(lo:Nat)(st0 st:OR):Prop where
 perm:(OS st).Perm a₀
 kind:kindOf st=κ
 failed:OT st=OT st0
 pend:OU st=OU st0
 pre:∀i,i<lo->(OS st)[i]?=(OS st0)[i]?
theorem SoL.arr{κ:OQ}{a₀:Array OP}{lo:Nat}{st0 st:OR}(b:SoL κ a₀ lo st0 st){xs:Array OP}(p:xs.Perm (OS st))(hp:∀i,i<lo->xs[i]?=(OS st)[i]?):SoL κ a₀ lo st0 (setArr st xs):=⟨p.trans b.perm,b.kind,b.failed,b.pend,λi hi=>(hp i hi).trans (b.pre i hi)⟩
section
variable{κ:OQ}{ws:List dM}{a₀:Array OP}{lo:Nat}{st0:OR}
theorem js.cmpL(C:js prog w A s κ ws a₀){st:OR}{i j:Nat}{Q:Option Bool->OR->Prop}(b:SoL κ a₀ lo st0 st)(hi:i<a₀.size)(d:j<a₀.size)(c:i≠j)(h:Q (Z (decide (kR ws (OS st) i<kR ws (OS st) j))) st):wpS (MN prog w) A E s (ltAt' i j) Q st:=by
 obtain⟨x,q,f,e⟩:=C.at_ b.perm hi;obtain⟨y,r,k,g⟩:=C.at_ b.perm d;have a:kR ws (OS st) i≠kR ws (OS st) j:=λz=>c (C.inj b.perm hi d z);rw[ltAt'_eq];refine OV (OW ?_);show wpS _ _ _ _ (do let x<-elem' (OS st) i;let y<-elem' (OS st) j;lt' x y) Q st;rw[elem'_eq,elem'_eq,f,k];refine OV (OX (OV (OX ?_)));rw[lt'_eq];refine OV (OW ?_);rw[b.kind];exact OV (OY (Ol (C.lt x y _ _ e g a _ _ ⟨O,OX h⟩)))
theorem xH.one{xs:Array OP}:xH ws lo xs 1:=λi j h1 h2=>by lia
theorem xH.snoc{xs:Array OP}{n:Nat}(u:xH ws lo xs n)(h:kO ws lo xs (n-1)<kO ws lo xs n):xH ws lo xs (n+1):=λi j h1 h2=>by
 by_cases z:j<n
 ·exact u i j h1 z
 ·have a:j=n:=by lia
  subst a;by_cases b:i=j-1
  ·rw[b];exact h
  ·exact bi (u i (j-1) (by lia) (by lia)) h
theorem JQ.snoc{xs:Array OP}{n:Nat}(u:JQ ws lo xs n)(h:kO ws lo xs n<kO ws lo xs (n-1)):JQ ws lo xs (n+1):=λi j h1 h2=>by
 by_cases z:j<n
 ·exact u i j h1 z
 ·have a:j=n:=by lia
  subst a;by_cases b:i=j-1
  ·rw[b];exact h
  ·exact bi h (u i (j-1) (by lia) (by lia))
theorem A8(C:js prog w A s κ ws a₀){xs:Array OP}(p:xs.Perm a₀){i j:Nat}(hi:lo+i<a₀.size)(b:lo+j<a₀.size)(a:i≠j):kO ws lo xs i≠kO ws lo xs j:=λe=>by
 have:=C.inj p hi b e;lia
theorem Ik(C:js prog w A s κ ws a₀){st:OR}{l:Nat}{Q:Option Nat->OR->Prop}(hn:lo+l<=a₀.size)(h1:1<=l)(b:SoL κ a₀ lo st0 st)(h:∀m st',SoL κ a₀ lo st0 st'->1<=m->m<=l->xH ws lo (OS st') m->Q (Z m) st'):wpS (MN prog w) A E s (countRun' lo l) Q st:=by
 have q:∀ {st:OR} {a:Nat} {f:Nat->Option (Option Nat)×Nat->StateT OR Sem (ForInStep (Option (Option Nat)×Nat))} {Q:Option (Option Nat)×Nat->OR->Prop},SoL κ a₀ lo st0 st->1<=a->a<=l->xH ws lo (OS st) a ->
   (∀x c,f x c=(ltAt' (lo+c.2) (lo+c.2-1) >>= λr=>match r with
    |some z=>if z=M then pure (Po (Y,c.2))else pure (Od (Y,c.2+1))
    |_=>pure (Po (Z Y,c.2)))) ->
   (∀n,a<=n->n<=l->xH ws lo (OS st) n->(n=l\/kO ws lo (OS st) n<kO ws lo (OS st) (n-1))->Q (Y,n) st)->wpS (MN prog w) A E s (forIn [a:l] (Y,a) f) Q st:=λ{st a f Q} b R p u am H=>by
  refine OZ (λx c st'=>st'=st/\c=(Y,x)/\xH ws lo (OS st) x) ?_ ?_ ⟨O,O,u⟩
  ·rintro x c st' y v ⟨rfl,rfl,t⟩;rw[am];dsimp only;refine OV (C.cmpL b (by lia) (by lia) (by lia) ?_);have e:kR ws (OS st') (lo+x-1)=kO ws lo (OS st') (x-1):=by unfold kO;congr 1;lia
   rw[e];by_cases z:kO ws lo (OS st') x<kO ws lo (OS st') (x-1)
   ·rw[show decide (kR ws (OS st') (lo+x)<kO ws lo (OS st') (x-1))=M from ah z];exact OX (H x y (by lia) t (.inr z))
   ·rw[show decide (kR ws (OS st') (lo+x)<kO ws lo (OS st') (x-1))=J from ai z];have:=A8 C b.perm (lo:=lo) (i:=x) (j:=x-1) (by lia) (by lia) (by lia);exact OX ⟨O,O,t.snoc (by lia)⟩
  ·rintro c st' ⟨rfl,rfl,t⟩;rw[ci p]at t ⊢;exact H l p (nR1 _) t (.inl O)
 rw[countRun'_eq];refine OV (q b (nR1 1) h1 .one (λx c=>rfl) λn h2 D u or=>?_);dsimp only;by_cases z:n=l
 ·rw[ak (by simpa using z)];exact OX (h n st b h2 D u)
 rw[aj (by simpa using z)];have au:=or.resolve_left z;by_cases G:n>1
 ·rw[ak G];have N:=u 0 (n-1) (by lia) (by lia);refine OV (C.cmpL b (by lia) (by lia) (by lia) ?_);have e:kR ws (OS st) (lo+n-1)=kO ws lo (OS st) (n-1):=by unfold kO;congr 1;lia
  rw[e,show decide (kR ws (OS st) lo<kO ws lo (OS st) (n-1))=M from ah N];exact OX (h n st b h2 D u)
 rw[aj G];have e:n=1:=by lia
 subst e;refine OV (OY (M9 ⟨O,?_⟩));refine OV (O2 (OZ (λx c st'=>st'=st/\c=(Y,x,0)/\JQ ws lo (OS st) x) (Q:=λc st'=>st'=st /\ ∃m,c=(Y,m,0)/\2<=m/\m<=l/\JQ ws lo (OS st) m) ?_ ?_ ⟨O,O,λi j y v=>?_⟩) ?_)
 ·rintro x c st' y v ⟨rfl,rfl,o⟩;dsimp only;have e:kR ws (OS st') (lo+x-1)=kO ws lo (OS st') (x-1):=by unfold kO;congr 1;lia
  have ne:=A8 C b.perm (lo:=lo) (i:=x) (j:=x-1) (by lia) (by lia) (by lia);refine OV (C.cmpL b (by lia) (by lia) (by lia) ?_);rw[e];by_cases z:kO ws lo (OS st') x<kO ws lo (OS st') (x-1)
  ·rw[show decide (kR ws (OS st') (lo+x)<kO ws lo (OS st') (x-1))=M from ah z];exact OX ⟨O,O,o.snoc z⟩
  ·rw[show decide (kR ws (OS st') (lo+x)<kO ws lo (OS st') (x-1))=J from ai z];refine OV (C.cmpL b (by lia) (by lia) (by lia) ?_);rw[e,show decide (kO ws lo (OS st') (x-1)<kR ws (OS st') (lo+x))=M from ah (by show kO ws lo (OS st') (x-1)<kO ws lo (OS st') x;lia)];exact OX ⟨O,x,O,by lia,by lia,o⟩
 ·rintro c st' ⟨rfl,rfl,o⟩;rw[ci (by lia)]at o ⊢;exact⟨O,l,O,by lia,nR1 _,o⟩
 ·have P:i=0:=by lia
  have ao:j=1:=by lia
  subst P;subst ao;exact au
 ·rintro c st' ⟨rfl,m,rfl,m1,m2,d⟩;dsimp only;rw[aj (by lia)];have B:lo+m<=(OS st').size:=by rw[b.perm.size_eq];lia
  have F:∀k,(mirror (OS st') lo (lo+m) ((lo+m-lo)/2))[k]?=if lo<=k/\k<lo+m then(OS st')[lo+(lo+m)-1-k]? else(OS st')[k]?:=λk=>getElem?_mirror_all B k
  have I:SoL κ a₀ lo st0 (setArr st' (mirror (OS st') lo (lo+m) ((lo+m-lo)/2))):=b.arr (mirror_perm _ _ _ _) λk L=>by rw[F,aj (by lia)]
  have g:∀k,k<m->kO ws lo (mirror (OS st') lo (lo+m) ((lo+m-lo)/2)) k=kO ws lo (OS st') (m-1-k):=λk L=>gX (by
   rw[F,ak (by lia)]
   congr 1;lia)
  refine OV (wpS_reverse (OV (q I (by lia) m2 (λi j D K=>?_) (λx c=>rfl) λn y v u _=>OX (h n _ I (by lia) v u))));show kO ws lo (mirror (OS st') lo (lo+m) ((lo+m-lo)/2)) i<kO ws lo (mirror (OS st') lo (lo+m) ((lo+m-lo)/2)) j;rw[g i (by lia),g j K];exact d _ _ (by lia) (by lia)
theorem I7(C:js prog w A s κ ws a₀){st:OR}{n ok:Nat}{Q:Bool->OR->Prop}(hn:lo+n<=a₀.size)(G:ok<=n)(b:SoL κ a₀ lo st0 st)(u:xH ws lo (OS st) ok)(h:∀st',SoL κ a₀ lo st0 st'->xH ws lo (OS st') n->Q M st'):wpS (MN prog w) A E s (binarySort' lo n ok) Q st:=by
 rw[binarySort'_eq];refine OV (O2 (OZ (λk c st'=>c=(Y,())/\SoL κ a₀ lo st0 st'/\xH ws lo (OS st') (min k n)) (Q:=λc st'=>c=(Y,())/\SoL κ a₀ lo st0 st'/\xH ws lo (OS st') n) ?_ ?_ ⟨O,b,λi j h1 h2=>?_⟩) ?_)
 ·rintro k c st' I F ⟨rfl,f,d⟩;rw[bC (by lia)]at d;have t:lo+k<(OS st').size:=by rw[f.perm.size_eq];lia
  refine OV (O2 (OZ (λx c a=>a=st' /\ ∃l r,c=(Y,l,r)/\l<=r/\r<=k/\r-l<=k-x/\(∀i,i<l->kO ws lo (OS st') i<kO ws lo (OS st') k) /\ ∀i,r<=i->i<k->kO ws lo (OS st') k<kO ws lo (OS st') i)
   (Q:=λc a=>a=st' /\ ∃l r,c=(Y,l,r)/\l<=k/\(∀i,i<l->kO ws lo (OS st') i<kO ws lo (OS st') k) /\ ∀i,l<=i->i<k->kO ws lo (OS st') k<kO ws lo (OS st') i) ?_ ?_ ⟨O,0,k,O,by lia,by lia,by lia,λi h1=>by lia,λi h1 h2=>by lia⟩) ?_)
  ·rintro x c a _ L ⟨rfl,l,r,rfl,h1,h2,v,o,p⟩;dsimp only;by_cases z:l>=r
   ·rw[ak z];have e:l=r:=by lia
    subst e;exact OX ⟨O,l,l,O,h2,o,p⟩
   ·rw[aj z];have K:(l+r)/2<k:=by lia
    refine OV (C.cmpL f (by lia) (by lia) (by lia) ?_);by_cases m:kO ws lo (OS a) k<kO ws lo (OS a) ((l+r)/2)
    ·rw[show decide (kR ws (OS a) (lo+k)<kR ws (OS a) (lo+(l+r)/2))=M from ah m];refine OX ⟨O,l,(l+r)/2,O,by lia,by lia,by lia,o,λi am H=>?_⟩;by_cases q:(l+r)/2=i
     ·rw[<- q];exact m
     ·exact bi m (d _ i (by lia) H)
    ·rw [show decide (kR ws (OS a) (lo+k)<kR ws (OS a) (lo+(l+r)/2))=false from decide_eq_false m];refine OX ⟨rfl,(l+r)/2+1,r,rfl,by lia,by lia,by lia,fun i am=>?_,p⟩;have B:kO ws lo (OS a) ((l+r)/2)<kO ws lo (OS a) k:=by
      have:=A8 C f.perm (lo:=lo) (i:=k) (j:=(l+r)/2) (by lia) (by lia) (by lia);lia
     by_cases q:i=(l+r)/2
     ·rw[q];exact B
     ·exact bi (d i _ (by lia) (by lia)) B
  ·rintro c a ⟨rfl,l,r,rfl,h1,h2,v,o,p⟩;have e:l=r:=by lia
   subst e;exact⟨O,l,l,O,h2,o,p⟩
  ·rintro c a ⟨rfl,l,r,rfl,h1,h2,v⟩;show wpS _ _ _ _ (do moveDown' (lo+k) (lo+l);pure (Od (none,()))) _ _;rw [moveDown'_eq];have y:∀ i,(bubble (OS a) (lo+k) (lo+k-(lo+l)))[i]? = if i=lo+l then (OS a)[lo+k]? else if lo+l<i/\i<=lo+k then (OS a)[i-1]? else (OS a)[i]?:=fun i=>by
    have e:=getElem?_bubble t (lo+k-(lo+l)) (by lia) i;rw[show lo+k-(lo+k-(lo+l))=lo+l by lia]at e;exact e
   refine OV (O3 (OX ⟨O,f.arr (bubble_perm _ _ _) λi hi=>by rw[y,aj (by lia),aj (by lia)],?_⟩));rw[bC (by lia)];have g:∀i,kO ws lo (bubble (OS a) (lo+k) (lo+k-(lo+l))) i=if i=l then kO ws lo (OS a) k else if l<i/\i<=k then kO ws lo (OS a) (i-1)else kO ws lo (OS a) i:=λi=>by
    have e:=y (lo+i);by_cases D:i=l
    ·rw[ak (by lia)]at e;rw[ak D];exact gX e
    ·rw[aj (by lia)]at e;rw[aj D];by_cases m:l<i/\i<=k
     ·rw[ak (by lia)]at e;rw[ak m];refine gX (e.trans ?_)
      congr 1;lia
     ·rw[aj (by lia)]at e;rw[aj m];exact gX e
   intro i j o p;show kO ws lo (bubble (OS a) (lo+k) (lo+k-(lo+l))) i<kO ws lo (bubble (OS a) (lo+k) (lo+k-(lo+l))) j;rw[g,g]
   repeat' split
   all_goals first
    |(exfalso;lia)
    |exact h2 _ (by lia)
    |exact v _ (by lia) (by lia)
    |exact d _ _ (by lia) (by lia)
 ·rintro c st' ⟨hc,f,d⟩;refine⟨hc,f,?_⟩
  rwa [show min (max (max ok 1) n) n=n by lia]at d
 ·by_cases z:ok=0
  ·lia
  ·exact u i j h1 (by lia)
 ·rintro c st' ⟨rfl,f,d⟩;exact OX (h st' f d)
end
theorem ot:∀{s:Nat} {rs:List (List OP)} {p:List (Nat×Nat×Nat)},ga s rs p->p.length=rs.length
 |_,[],[],_=>rfl
 |_,[],_::_,h=>by cases h
 |_,_::_,[],h=>by cases h
 |s,r::rs,(t,n,pw)::p,⟨_,_,h⟩=>by rw[lC1,lC1,ot h]
theorem pX:∀{s:Nat} {rs:List (List OP)} {p:List (Nat×Nat×Nat)} {r:List OP} {pw:Nat},ga s rs p->ga s (rs++[r]) (p++[(s+rs.flatten.length,r.length,pw)])
 |_,[],[],_,_,_=>⟨by simp,O,trivial⟩
 |_,[],_::_,_,_,h=>by cases h
 |_,_::_,[],_,_,h=>by cases h
 |s,r::rs,(t,n,pw)::p,r',pw',⟨e1,e2,h⟩=>by
  refine⟨e1,e2,?_⟩;have:=pX (r:=r') (pw:=pw') h
  rwa [bn,<- lA1,<- c7]at this
theorem tK{g:Nat×Nat×Nat->Nat×Nat×Nat}(hg:∀x,(g x).1=x.1/\(g x).2.1=x.2.1):∀{s:Nat} {rs:List (List OP)} {p:List (Nat×Nat×Nat)} {k:Nat},ga s rs p->ga s rs (p.modify k g)
 |_,[],[],k,_=>by cases k<;>exact trivial
 |_,[],_::_,_,h=>by cases h
 |_,_::_,[],_,h=>by cases h
 |s,r::rs,(t,n,pw)::p,0,⟨e1,e2,h⟩=>by
  obtain⟨a,b⟩:=hg (t,n,pw);show ga s (r::rs) (g (t,n,pw)::p);exact⟨a.trans e1,b.trans e2,h⟩
 |s,r::rs,(t,n,pw)::p,k+1,⟨e1,e2,h⟩=>⟨e1,e2,tK hg h⟩
section
variable{κ:OQ}{ws:List dM}{a₀:Array OP}{rs:List (List OP)}{rest:List OP}{st st':OR}
theorem SR.size(h:SR ws κ a₀ rs rest st):rs.flatten.length+rest.length=a₀.size:=by
 have:=congrArg List.length h.ar;rw[aK,h.pm.size_eq,lA1]at this;exact this.symm
theorem SR.many(h:SR ws κ a₀ rs rest st):rs.length<=rs.flatten.length:=by
 have:∀{l:List (List OP)},(∀r∈l,r≠[])->l.length<=l.flatten.length:=by
  intro l
  induction l with
  |nil=>intro _;exact nR1 _
  |cons r l ih=>
   intro a;have h1:=ih λx b=>a x (mC1 _ b);have h2:0<r.length:=c9.mpr (a r mS1);rw[lC1,c7,lA1];lia
 exact this λr a=>(h.so r a).2
theorem SoL.sr(h:SR ws κ a₀ rs rest st)(b:SoL κ a₀ rs.flatten.length st st'):SR ws κ a₀ rs ((OS st').toList.drop rs.flatten.length) st':=by
 refine⟨b.kind,b.failed.trans h.f,b.perm,?_,h.so,by rw[b.pend];exact h.pe⟩;have:(OS st').toList.take rs.flatten.length=rs.flatten:=by
  have e:(OS st).toList.take rs.flatten.length=rs.flatten:=by rw[h.ar,db]
  rw[<- e];refine b5 λi=>?_;by_cases hi:i<rs.flatten.length
  ·rw[e,aV hi,<- e,aV hi,aT1,aT1];exact b.pre i hi
  ·rw[e,b6 (by rw[aT];lia),b6 (by lia)]
 conv=>lhs;rw[<- cF rs.flatten.length (OS st').toList,this]
theorem wm{lo n:Nat}(hp:(OS st').Perm a₀)(hn:lo+n<=a₀.size)(u:xH ws lo (OS st') n):Srt ws (((OS st').toList.drop lo).take n):=by
 refine cC.mpr λi j hi b a=>?_;rw[aT,aX]at hi b;have:=u i j a (by lia);have c:=hp.size_eq;rw[aK]at hi b;unfold kO kR at this;rw[aG1 (show lo+i<(OS st').size by lia),aG1 (show lo+j<(OS st').size by lia)]at this;simpa using this
theorem JB(C:js prog w A s κ ws a₀){Q:Unit->OR->Prop}(wq:SR ws κ a₀ [] a₀.toList st)(h2:2<=a₀.size)(q:∀st',(OS st').Perm a₀->OT st'=Y->Srt ws (OS st').toList->Q () st'):wpS (MN prog w) A E s sortRuns' Q st:=by
 rw[sortRuns'_eq];refine OV (OW ?_);dsimp only;generalize minRun' (OS st).size (OS st).size 0=mr;rw[wq.pm.size_eq];refine OV (O2 (OZ (λx c st'=>∃rs rest,SR ws κ a₀ rs rest st'/\c=(Y,rs.flatten.length)/\x<=rs.flatten.length)
  (Q:=λc st'=>∃rs lo,SR ws κ a₀ rs [] st'/\c=(Y,lo)) ?_ ?_ ⟨[],a₀.toList,wq,O,nR1 _⟩) ?_)
 ·rintro x c st' _ T ⟨rs,rest,h,rfl,K⟩;have y:=h.size;dsimp only;by_cases z:rs.flatten.length>=a₀.size
  ·rw[ak z];have e:rest=[]:=cs.mp (by lia);subst e;exact OX ⟨rs,_,h,O⟩
  rw[aj z];refine OV (Ik (lo:=rs.flatten.length) (st0:=st') C (by lia) (by lia) ⟨h.pm,h.k,O,O,λ_ _=>rfl⟩ λm st2 b m1 m2 u=>?_);dsimp only;have D:=b.sr h;have R:=D.size;refine(λ(t:∀(n:Nat) (j:OR) (a:List OP),SR ws κ a₀ rs a j->Srt ws (a.take n)->1<=n->n<=a.length->(?T:Nat->OR->Prop) n j)=>?go) ?mn
  case go=>
   by_cases U:m<mr
   ·rw[ak U];refine OV (OY (M9 ⟨O,?_⟩));refine OV (I7 (lo:=rs.flatten.length) (st0:=st') C (n:=min (a₀.size-rs.flatten.length) mr) (by lia) (by lia) b u λj b3 u3=>?_);simp only[b7,bF1,NH];have H:=b3.sr h;have X:=H.size;have l:=wm b3.perm (by lia) u3;have aq:1<=min (a₀.size-rs.flatten.length) mr:=by lia
    have F:min (a₀.size-rs.flatten.length) mr<=((OS j).toList.drop rs.flatten.length).length:=by lia
    generalize min (a₀.size-rs.flatten.length) mr=n at l aq F ⊢;exact t n j _ H l aq F
   ·rw[aj U];have l:=wm b.perm (by lia) u;have F:m<=((OS st2).toList.drop rs.flatten.length).length:=by lia
    generalize hst:st2=j at D l F ⊢;generalize hmn:m=n at l m1 F ⊢;exact t n j _ D l m1 F
  intro n j a N hs n1 L;refine OV (OW ?_);have S:=N.size;refine(λ(p:∀(f:List (List OP)) (d:OR),SR ws κ a₀ f a d->(?T2:OR->Prop) d)=>?go2) ?mn2
  case go2=>
   cases hb:(OU j).back? with
   |none=>
    dsimp only;exact p rs j N
   |some q1=>
    obtain⟨s1,v,pw1⟩:=q1;dsimp only;generalize power' a₀.size (2*s1+v) (2*s1+v+v+n) a₀.size=pv;refine OV (O2 (OZ (λx c d=>c=(Y,()) /\ ∃f,SR ws κ a₀ f a d) (Q:=λc d=>c=(Y,()) /\ ∃f,SR ws κ a₀ f a d) ?_ (λ_ _ h=>h) ⟨O,rs,N⟩) ?_)
    ·rintro x c d _ T ⟨rfl,f,k⟩;have B:=ot k.pe;rw[aK]at B;refine OV (OW ?_);by_cases hz:(OU d).size>1
     ·rw[ak hz,aG1 (show(OU d).size-2<(OU d).size by lia)];generalize (OU d)[(OU d).size-2]'(by lia)=pq;obtain⟨pa,pb,pc⟩:=pq;dsimp only;by_cases V:pc<=pv
      ·rw[ak V];exact OX ⟨O,f,k⟩
      ·rw[aj V];refine OV (k.merge C (i:=(OU d).size-2) (gG1 (by lia)) (gG1 (by lia)) λr o I=>?_);simp only[b7,bF1,NH];exact OX ⟨O,_,I⟩
     ·rw[aj hz];exact OX ⟨O,f,k⟩
    ·rintro c d ⟨rfl,f,k⟩;dsimp only;refine OV (O3 ?_);refine p f _ ⟨k.k,k.f,k.pm,k.ar,k.so,?_⟩;show ga 0 f ((OU d).modify ((OU d).size-1) _).toList;rw[Array.toList_modify];exact tK (g:=λx=>(x.1,x.2.1,pv)) (λx=>⟨O,O⟩) k.pe
  intro f d k;have W:=k.size;have G:rs.flatten.length=f.flatten.length:=by lia
  refine OV (O3 (OX ⟨f++[a.take n],a.drop n,⟨k.k,k.f,k.pm,?_,?_,?_⟩,?_,?_⟩))
  ·refine k.ar.trans ?_;rw[da,bJ];simp
  ·intro r au;rcases aG.mp au with am|am
   ·exact k.so r am
   ·rw[cA.mp am];exact⟨hs,λe=>by have:=congrArg List.length e;rw[aT,bg]at this;lia⟩
  ·show ga 0 _ ((OU d).push (rs.flatten.length,n,0)).toList;rw[cu,G];have:=pX (r:=a.take n) (pw:=0) k.pe
   rwa [bQ,aT,bC L]at this
  ·rw[da,lA1,G,List.flatten_singleton,aT,bC L]
  ·rw[da,lA1,List.flatten_singleton,aT,bC L];lia
 ·rintro c st' ⟨rs,rest,h,rfl,K⟩;have y:=h.size;have e:rest=[]:=cs.mp (by lia);subst e;exact⟨rs,_,h,O⟩
 ·rintro c st' ⟨rs,lo,h,rfl⟩;dsimp only;have y:=h.size;rw[bg,c0]at y;have ao:=h.many;refine OV (O2 (OZ (λx c st2=>c=(Y,()) /\ ∃rs,SR ws κ a₀ rs [] st2/\rs.length+x<=a₀.size) (Q:=λc st2=>c=(Y,()) /\ ∃rs,SR ws κ a₀ rs [] st2/\rs.length<=1) ?_ ?_ ⟨O,rs,h,by lia⟩) ?_)
  ·rintro x c st2 _ T ⟨rfl,rs,h,P⟩;have B:=ot h.pe;rw[aK]at B;refine OV (OW ?_);by_cases z:(OU st2).size<=1
   ·rw[ak z];exact OX ⟨O,rs,h,by lia⟩
   rw[aj z];have mg:∀i,i+1<rs.length -> ∀{Q:Bool->OR->Prop},(∀r o,SR ws κ a₀ r [] o->r.length+1=rs.length->Q M o)->wpS (MN prog w) A E s (mergeAt' i) Q st2:=λi hi Q hq=>
    h.merge C (i:=i) (gG1 (by lia)) (gG1 hi) λr o I=>hq _ o I (by rw[lA1,lC1,aT,aX];lia)
   refine OV (mg _ ?_ λr o I hl5=>?_)
   ·split<;>lia
   ·simp only[b7,bF1,NH];exact OX ⟨O,r,I,by lia⟩
  ·rintro c st2 ⟨rfl,rs,h,P⟩;exact⟨O,rs,h,by lia⟩
  ·rintro c st2 ⟨rfl,rs,h,P⟩;refine OX (q st2 h.pm h.f ?_);rw[h.ar,aP]
   match rs,P,h.so with
   |[],_,_=>exact .nil
   |[r],_,so=>simpa using(so r (by simp)).1
end
theorem Fc{ws:List dM}{xs a₀:Array OP}(p:xs.Perm a₀)(h:Srt ws xs.toList):Up ws xs a₀.size:=λi j a c=>by
 have b:=p.size_eq;have:=cC.mp h i j (by rw[aK];lia) (by rw[aK];lia) a;unfold kR;rw[aG1 (show i<xs.size by lia),aG1 (show j<xs.size by lia)];simpa using this
theorem zC {a:dP}{vs ws:List dM}{n:Nat}{κ:OQ}{P:Fin->dN->Prop}(ho:s.heap.get? a=some (O8 "list" vs.toArray n))(hz:vs.length<=dW)(hp:vs.Perm ws)
  (p:∀h',(∀b o,b≠a->s.heap.get? b=Z o->h'.get? b=Z o)->2<=vs.length->js prog w A {s with heap:=h'} κ ws (O4 vs) /\ ∀Q:OQ->dN->Prop,Q κ {s with heap:=h'}->dX (MN prog w) A (keyKind' vs.toArray) Q E {s with heap:=h'})
  (h:P (.done (.ret .none)) {s with heap:=O9 s.heap a vs ws.toArray}):dX (MN prog w) A (Builtin.«list.sort» ⟨[.ref a],[]⟩) P E s:=by
 rw[list_sort_plain];have u:a<s.heap.objs.size:=hL1 ho;refine wB1 (O7 ho O ?_);refine wB1 (Pa ho O ?_);obtain⟨i,d⟩:∃i,(s.heap.update a (NT λ_=> #[])).get? a=some (O8 "list" #[] i):=⟨_,get?_update_seq ho (λ_=> #[])⟩;refine wB1 (Pb d O (wB1 (On (wB1 (Pc (M5 ?_))))));have keep:∀b o,b≠a->s.heap.get? b=Z o->(((s.heap.update a (NT λ_=> #[])).push (O8 "tuple" vs.toArray 0)).push (O8 "list" #[] 0)).get? b=Z o:=λb o q e=>
  hP1 _ (hP1 _ (by rw[hU1 _ _ _ _ q];exact e))
 have c:(((s.heap.update a (NT λ_=> #[])).push (O8 "tuple" vs.toArray 0)).push (O8 "list" #[] 0)).get? a=Z (O8 "list" #[] i):=hP1 _ (hP1 _ d);show dX (MN prog w) A _ P E {s with heap:=((s.heap.update a (NT λ_=> #[])).push (O8 "tuple" vs.toArray 0)).push (O8 "list" #[] 0)};dsimp only;have l:vs.toArray.size=vs.length:=by simp
 have g:=hp.length_eq;have f:∀xs:Array OP,xs.map (·.2)=ws.toArray->P (.done (.ret .none)) {s with heap:=O9 s.heap a vs (xs.map (·.2))}:=λxs e=>by rw[e];exact h
 by_cases h2:vs.toArray.size<2
 ·rw [if_pos h2,if_pos h2];refine wB1 (wP1 ?_);rw [StateT.run_pure];refine wB1 (wP1 (wB1 (Pb c rfl ?_)));have e:((vs.toArray.zip vs.toArray).map (·.2):Array dM)=ws.toArray:=by
   have:vs=ws:=by
    match vs,ws,hp,h2 with
    |[],ws,hp,_=>exact(List.nil_perm.mp hp).symm
    |[x],ws,hp,_=>exact(List.singleton_perm.mp hp).symm ▸ rfl
    |_::_::_,_,_,h2=>simp at h2;lia
   subst this;apply Array.ext';simp;exact List.map_snd_zip (nR1 _)
  refine wB1 (Pa c O ?_ (hsz2:=by
   show(Array.map (·.2) (vs.toArray.zip vs.toArray)).size<=_;rw[e,sT1,<- g];lia))
  simp only[Pd,bF1,NH];exact wP1 (f _ e)
 ·rw [if_neg h2,if_neg h2];obtain ⟨C,K⟩:=p _ keep (by lia);refine wB1 (K _ ?_);refine wB1 (MQ (JB C (st:=Pe κ (vs.toArray.zip vs.toArray) #[] 7 none)
   (Q:=λ_ st'=>(OS st').Perm (O4 vs)/\OT st'=Y/\Srt ws (OS st').toList) ⟨O,O,Array.Perm.refl _,O,(λr t=>by cases t),trivial⟩ (by rw[pairsOf_size];lia) λst' a1 a2 a3=>⟨a1,a2,a3⟩) ?_ λ_ _ e=>e)
  rintro⟨⟨⟩,st'⟩ s' ⟨rfl,j,k,m⟩;have e:=zD C j (Fc j m);refine wB1 (Pb c O ?_);refine wB1 (Pa c O ?_ (hsz2:=by
   show(Array.map (·.2) (OS st')).size<=_;rw[e,sT1,<- g];lia))
  rw[k];simp only[Pd,bF1,NH];exact wP1 (f _ e)
theorem vj {v:dM}{vs ws:List dM}{κ:OQ}{Q:dM->dN->Prop}(hz:vs.length<=dW)(g:vs.Perm ws)
  (d:∀(E:dM->dN->Prop) (Q:List dM->dN->Prop),(∀h',(∀b u,s.heap.get? b=Z u->h'.get? b=Z u)->s.heap.objs.size<=h'.objs.size->Q vs {s with heap:=h'})->dX (MN prog w) A.in1 (collect v) Q E s)
  (l:∀a:dZ,(∀b u,s.heap.get? b=Z u->a.get? b=Z u)->js prog w A.in1.in1 {s with heap:=a} κ ws (O4 vs) /\
   (vs≠[] -> ∀(E:dM->dN->Prop) (Q:OQ->dN->Prop),Q κ {s with heap:=a}->dX (MN prog w) A.in1.in1 (keyKind' vs.toArray) Q E {s with heap:=a}))
  (i:∀(a:dZ) (L:dP) (n:Nat),(∀b u,s.heap.get? b=Z u->a.get? b=Z u)->s.heap.objs.size<=L->a.get? L=Z (O8 "list" ws.toArray n)->Q (.ref L) {s with heap:=a}):
  dX (MN prog w) A (call (.builtin "sorted") [v]) Q E s:=by
 refine Calls.call_function_entry kind_sorted plain_sorted entry_sorted (args_sorted1 _) ?_;unfold Builtin.«sorted»;refine wB1 (m:=checkCount "sorted" 1 1 _) (wP1 ?_);refine wB1 (d _ _ λh' keep f=>?_);refine wB1 (Pc (hsz:=hz) ?_);have c:(h'.push (O8 "list" vs.toArray 0)).get? h'.objs.size=Z (O8 "list" vs.toArray 0):=hS1 _ O;show dX _ _ _ _ _ {s with heap:=h'.push (O8 "list" vs.toArray 0)};refine wB1 (M5 (wE1 slot_list_sort ⟨_,c,O⟩ entry_list_sort (zC (s:={s with heap:=h'.push (O8 "list" vs.toArray 0)}) (κ:=κ) (ws:=ws) c hz g (λa k h2=>?_) ⟨_,O,?_⟩) (args_list_sort _)))
 ·have:=l a λb u e=>k b u (nN1 (hL1 (keep b u e))) (hP1 _ (keep b u e));exact⟨this.1,this.2 (λz=>by rw[z]at h2;simp at h2) _⟩
 ·obtain⟨n,h⟩:=sortedHeap_at (out:=ws.toArray) c;refine wP1 ⟨_,O,i _ h'.objs.size n (λb u e=>?_) f h⟩;have j:b<h'.objs.size:=hL1 (keep b u e);show(O9 (h'.push (O8 "list" vs.toArray 0)) h'.objs.size vs ws.toArray).get? b=Z u;rw[sortedHeap_old (nN1 j) (by rw[hZ1];exact cB j)];exact hP1 _ (keep b u e)
section
variable{P:dQ}{w:dS}{A:dR}{E:dM->dN->Prop}{s:dN}
variable{K:Type} [DecidableEq K] {knd:HeapKind P w K}
end
section
variable{ag:List (dP×Obj)}{σ:L2.St}{H:Hp}{s:dN}{mu:List dP}
end
section
variable{K:Fg1}{H:Hp}{mu nu:List dP}{a:dP}{h:Nat}
end
section
variable{ag:List (dP×Obj)}{σ:L2.St}{H:Hp}{s:dN}{mu:List dP}{S:d7}
end
open AutoSeq1 (wpAny_loadPart')
section
variable{P:dQ}{w:dS}{A:dR}{E:dM->dN->Prop}{s:dN}
end
section
variable{ag:List (dP×Obj)}{σ:L2.St}{H:Hp}{s:dN}{mu:List dP}
end
open PySem.SeqAt
open PySem.AutoSeq1 (wpAny_loadPart')
open PySem.MeetsSeq PySem.MeetsSeq2 PySem.MeetsSeq3
def Ej(A:dR)(s:dN)(y x:dM)(b:Bool):Prop:=∀(prog:dQ) (w:dS) (E:dM->dN->Prop) (Q:dM->dN->Prop),Q (.bool b) s->dX (MN prog w) A (OB .GtE y x) Q E s
inductive B6 (A:dR)(s:dN):List dM->List dM->Bool->Prop
 |nn:B6 A s [] [] true
 |nc (y:dM) (ys:List dM):B6 A s [] (y::ys) false
 |cn (x:dM) (xs:List dM):B6 A s (x::xs) [] true
 |eq {x y:dM} {xs ys:List dM} {k:Bool} (e:EqAt A.in1 s x y true) (t:B6 A s xs ys k):B6 A s (x::xs) (y::ys) k
 |lt {x y:dM} {xs ys:List dM} {k:Bool} (e:EqAt A.in1 s x y false) (t:Ej A.in1 s x y k):B6 A s (x::xs) (y::ys) k
theorem E2(l b:dP)(items items2:Array dM)(n B:Nat)(C q:Option dP)(G p:Array (Option dM))(c:Bool):
  Meets (Builtin.«tuple.__ge__» ⟨[.ref l,.ref b],[]⟩) (fun A R s=>s.heap.get? l=some {cls:=.type "tuple",dict:=C,data:=.seq items n,slots:=G}/\s.heap.get? b=some {cls:=.type "tuple",dict:=q,data:=.seq items2 B,slots:=p} /\
    B6 A s items.toList items2.toList c/\R (.ok (.ret (.bool c))) s):=
 .of_wp λprog w A R s h=>by
  obtain⟨u,g,d,tk,v⟩:=s;obtain⟨F,D,H,h⟩:=h;have I:=AutoSeq1.sub_tuple_tuple
  wp_walk using wpAny_loadPart' F,wpAny_loadPart' D,OC _ (λrest b s'=>b.1=Y/\s'=⟨u,g,d,tk,v⟩ /\ ∃vs ws:List dM,rest=vs.zip ws/\B6 A ⟨u,g,d,tk,v⟩ vs ws c/\vs.length+items2.size=ws.length+items.size) _
  case turn=>
   rintro⟨y,x⟩ rest b s' ⟨k,rfl,vs,ws,f,m,a⟩;cases m with
   |nn=>cases f
   |nc _ _=>cases f
   |cn _ _=>cases f
   |eq e t=>
    rw[bW]at f;injection f with j i;injection j with r o;subst r o
    simp only[lC1]at a;refine wB1 (e prog w _ _ ?_)
    wp_walk
    exact⟨O,O,_,_,i,t,by lia⟩
   |lt e t=>
    rw[bW]at f;injection f with j i;injection j with r o;subst r o
    refine wB1 (e prog w _ _ ?_);have z:=t prog w
    wp_walk using z
    exact⟨_,O,by simpa using h⟩
  case fin=>
   rintro⟨b1,b2⟩ s' ⟨k,rfl,vs,ws,f,m,a⟩;simp only at k;subst k;have E:c=decide (items2.size<=items.size):=by
    cases m with
    |nn=>simp only[bg]at a;exact(ah (by lia)).symm
    |nc _ _=>simp only[bg,lC1]at a;exact(ai (by lia)).symm
    |cn _ _=>simp only[bg,lC1]at a;exact(ah (by lia)).symm
    |eq _ _=>rw[bW]at f;cases f
    |lt _ _=>rw[bW]at f;cases f
   rw[E]at h
   wp_walk
   exact⟨_,O,by simpa[Builtin.Tuple.tupleCompareSizes]using h⟩
  case h=>exact⟨O,O,items.toList,items2.toList,O,H,by simp;lia⟩
theorem Fq{A:dR}{s:dN}{l b:dP}{xs ys:Array dM}{c:Bool}(z:SCo false s.heap l xs)(p:SCo false s.heap b ys)(u:A.units<Nt)(h:B6 A s xs.toList ys.toList c):Ej A s (.ref l) (.ref b) c:=fun prog w E Q q=>by
  obtain⟨⟨y,t,m,r⟩,o,hc,n,k⟩:=id z;obtain⟨⟨j,i,g,f⟩,d,a,v,e⟩:=id p;simp only at hc k a e;subst hc k a e;exact OF (op:=.GtE) ⟨_,o,O⟩ ⟨_,d,O⟩ PySem.F.slot_tuple_ge PySem.F.entry_tuple_ge (PySem.F.args_tuple_ge_2 _ _) (E2 l b xs ys n v t i r f c) ⟨o,d,h,show ae c≠OG/\Q (.bool c) s from⟨(λx=>nomatch x),q⟩⟩ u
noncomputable def J5:D->D->Option Bool
 | .int i,.int j=>Z (decide (j<=i))
 |_,_=>Y
def Hd(f:D->D->Option Bool):List D->List D->Option Bool
 |[],[]=>Z M
 |[],_::_=>Z J
 |_::_,[]=>Z M
 |x::xs,y::ys=>(f x y).bind λb=>if b=M then Hd f xs ys else J5 x y
def D5:G2:=λd e S=>match d,e with
 | .tup xs,.tup ys=>(Hd (hH S 59) xs ys).map λb=>(.bl b,S)
 |_,_=>(J5 d e).map λb=>(.bl b,S)
section
variable{ag:List (dP×Obj)}{σ:L2.St}{H:Hp}{s:dN}{mu:List dP}{S:d7}
theorem Bo{A:dR}{d e:D}{v w:V}{u z:dM}{b:Bool}(g:fc X.K H mu d v)(i:fc X.K H mu e w)(a:ew v u)(f:ew w z)(h:J5 d e=Z b):Ej A s u z b:=by
 unfold J5 at h;split at h
 ·cases h;cases g;cases i;obtain⟨t,rfl⟩:=a;obtain⟨c,rfl⟩:=f;exact λprog w E Q q=>(PyProof.Rows.ge_int q:dX (MN prog w) A (Nl .GtE (.int _ t) (.int _ c)) Q E s)
 ·cases h
theorem Hc(I:Inv X ag σ H s)(hs:Sim X.K H mu S){n:Nat}{A:dR}(m:A.units+1+n<Nt):
  ∀{xs ys:List D} {vs ws:List V} {d zs:List dM} {b:Bool},ej X.K H mu xs vs->ej X.K H mu ys ws->eH vs d->eH ws zs->Hd (hH S n) xs ys=Z b->B6 A s d zs b
 :=by
 intro xs
 induction xs with
 |nil=>
  intro ys vs ws d zs b a r2 e c h;cases a;cases e;cases r2 with
  |nil=>cases c;cases h;exact .nn
  |cons _ _=>cases c;cases h;exact .nc _ _
 |cons x xs p=>
  intro ys vs ws d zs b a r2 e c h;cases a with
  |cons a l=>
   cases e with
   |cons f o=>
    cases r2 with
    |nil=>cases c;cases h;exact .cn _ _
    |cons r2 j=>
     cases c with
     |cons g p2=>
      rw[Hd]at h;obtain⟨k,i,h⟩:=Py h;have eq:=(k7 I hs n (A:=A.in1) m a r2 f g i).1;cases k with
      |true=>exact .eq eq (p l j o p2 h)
      |false=>exact .lt eq (Bo a r2 f g h)
theorem IJ(am:X.A.units+64<Nt):gI X (Nl .GtE) (r2 X.K (b2 D5)):=by
 intro ag s σ H x y u w Q I p o h;obtain⟨mu,S,d,e,r,q,m,r2,g,c,hc⟩:=uY h;have f:∀b,Ej X.A s u w b->r = .bl b->q=S->dX (MN X.prog X.w) X.A (Nl .GtE u w) (EP X ag σ Q) X.xe s:=λb h1 h2 C=>by
  subst h2;subst C;exact h1 X.prog X.w X.xe _ ⟨.bl b,H,I,O,hc.now (.bl b) g⟩
 unfold D5 at c;split at c
 ·rename_i xs ys;obtain⟨b,j,c⟩:=Pz c;cases c;obtain⟨a,vs,rfl,z,D⟩:=er m g (show ei S (.tup xs)=Z (J,xs)from rfl);obtain⟨a2,v,rfl,E,B⟩:=er r2 g (show ei S (.tup ys)=Z (J,ys)from rfl);cases p;cases o;obtain⟨F,G,t,_⟩:=fg I z;obtain⟨l,k,i,_⟩:=fg I E;refine f b (Fq t i (by lia) ?_) O O;have:=Hc I g (A:=X.A) (n:=59) (by lia) D B G k j;simpa using this
 ·obtain⟨b,j,c⟩:=Pz c;cases c;exact f b (Bo m r2 p o j) O O
end
def l9:G1:=λd S=>match d with
 | .ref n=>(S[n]?).bind fun ob=>(A5 ob).bind fun kvs=>(si (kvs.map fun p=>lz p.1)).bind fun _=>
   if(m7 (lB (kvs.map λp=>lz p.1))&&decide (kvs.length<=100000))=M then Z (.ref S.length,S++[.lst (lB (kvs.map λp=>lz p.1))])else Y
 |_=>Y
theorem BF(l:X.calm=M)(hu:X.A.units+64<Nt):fi X (.builtin "sorted") (rN X.K (b1 l9)):=by
 intro ag s σ H xs us Q I r h;obtain⟨x,mu,S,d,r',S',rfl,B,i,b,hc⟩:=xX h;unfold l9 at b;split at b
 ·rename_i n;obtain⟨ob,z,b⟩:=Py b;obtain⟨kvs,D,b⟩:=Py b;obtain⟨f,ef,b⟩:=Py b;split at b
  ·rename_i c;cases b;rw[bA1,al]at c;obtain⟨u,rfl,r2⟩:=iN r;cases B with
   | @ref _ a P=>
   cases r2;obtain⟨ws,w,N,C,t,hz,_⟩:=DP i z D P;obtain⟨o,am,G⟩:=Hj I N C;obtain⟨R,g2,K,es,ep,T,m⟩:=G;have e:kvs.length=ws.length:=by have:=t.keys.length;simpa using this
   have au:es.size=ws.length:=by rw[<- aK,m,lM1]
   have U:eH (ws.map λx=>V.ref x.2.1) (es.toList.map (·.key)):=by
    rw[m,bv];exact pQ ws
   obtain⟨j,zs,ao,wq,F,v,aq⟩:=Ff I i (A:=X.A.in1.in1) (by show X.A.units+1+1+60<Nt;lia) (f:=f) t.keys U (tI kvs) (vO ef) c.1;have W:(es.toList.map (·.key)).length<=dW:=by rw[lM1,aK,No];lia
   refine vj W F (λE Q q=>vI (A:=X.A.in1) (I.ok.hd l) R am K.1 T (by rw[No];lia) q) aq (λy L n keep p k=>?_);have g:H L=Y:=I.hok.fresh p;refine⟨.ref L,_,I.laid (t':=s.toks) (o:=.lst j) keep p ⟨?_,zs,n,wq,k⟩,O,hc _ _ (mu++[L]) (Ext.new_ g) (.ref (gz i.len _)) (i.newL ao g)⟩;rw[v,lM1,<- e,No];lia
  ·cases b
 ·cases b
section
variable{prog:dQ}{w:dS}{A:dR}{R:Result->dN->Prop}{I S:dP}{fp wr:List dP}{n:Nat}{P:Nat->dM->Prop}{St:Nat->dZ->Prop}{bt:Nat->Nat->Bool}{Kp:dN->Prop}
theorem se {E:dM->dN->Prop}{s:dN}{xs:Array dM}{c:Nat}{Q:Option (Array dM)->dN->Prop}(a:s.heap.get? S=Z {cls:=.type "list",data:=.seq xs c})(q:Q (Z xs) s):dX (MN prog w) A (seqItems? (.ref S)) Q E s:=by
 unfold seqItems?
 wp_walk using PySem.AutoSeq1.wpAny_loadPart' a
 exact q
theorem ye(hw:Walks prog w A.in1 I fp wr n P St)(r:S∉fp)(am:∀ (s:dN) h' tk,Kp s->(∀ b o,b∉wr->b≠S->s.heap.get? b=some o->h'.get? b=some o)->Kp {s with heap:=h',toks:=tk})(cmp:∀i j H L (s:dN),Kp s->P i H->P j L -> ∀Q E,Q (.bool (bt i j)) s->dX (MN prog w) A.in1 (OB .Lt H L) Q E s):
  ∀(k j:Nat) (s:dN) (vb:dM) (c:Nat),n-(j+1)=k->j+1<=n->St (j+1) s.heap->P (Pr bt j) vb->Kp s->s.heap.get? S=Z {cls:=.type "list",data:=.seq #[vb,vb] c} ->
   (∀(v:dM) (h':dZ) (tk:Nat),P (Pr bt (n-1)) v->(∀b o,b∉wr->b≠S->s.heap.get? b=Z o->h'.get? b=Z o)->R (.ok (.ret v)) {s with heap:=h',toks:=tk}) ->
   dY (MN prog w) A (.builtin "min.loop" ⟨[.ref I,.none,.ref S],[]⟩) R s:=by
 intro k
 induction k with
 |zero=>
  intro j s vb c N ao m u p t g;refine wD1 F.entry_min_loop ?_;rw[OE Ps _];unfold Builtin.«min.loop»;refine wB1 (se t ?_);refine wB1 (Pt ?_);have U:n=j+1:=by lia
  refine hw.done s _ _ (by rw[U];exact m) λh' tk keep=>?_;have f:h'.get? S=Z {cls:=.type "list",data:=.seq #[vb,vb] c}:=keep S _ (λz=>r (hw.sub S z)) t;dsimp only;refine wB1 (Pi (s:={s with heap:=h',toks:=tk}) f O ?_);refine wB1 (Oq ?_);refine wP1 ?_;rw[show n-1=j by lia]at g;exact g _ _ _ u λb o d a e=>by
   show(h'.update S _).get? b=Z o;rw[hU1 _ _ _ _ a];exact keep b o d e
 |succ k ih=>
  intro j s vb c N ao m u p t g;refine wD1 F.entry_min_loop ?_;rw[OE Ps _];unfold Builtin.«min.loop»;refine wB1 (se t ?_);refine wB1 (Pt ?_);refine hw.item (j+1) s _ _ (by lia) m λv h' tk K l keep=>?_;have f:h'.get? S=Z {cls:=.type "list",data:=.seq #[vb,vb] c}:=keep S _ (λz=>r (hw.sub S z)) t;have h:Kp {s with heap:=h',toks:=tk}:=am _ _ _ p λb o d _ e=>keep b o d e;dsimp only;refine wB1 (wP1 ?_);refine wB1 (Pt (M5 ?_));refine wB1 (cmp (j+1) (Pr bt j) v vb {s with heap:=h',toks:=tk} h K u _ _ ?_);refine wB1 (M5 (MR ?_));refine wB1 (Oq ?_);refine wP1 ?_;have T:∀(h2:dZ),(∀b o,b≠S->h'.get? b=Z o->h2.get? b=Z o) -> ∀b o,b∉wr->b≠S->s.heap.get? b=Z o->h2.get? b=Z o:=λh2 e b o d a au=>e b o a (keep b o d au);cases d:bt (j+1) (Pr bt j)with
  |true=>
   rw[ak O];have C:P (Pr bt (j+1)) v:=by rw[Pr,d];exact K
   refine wB1 (Pi (s:={s with heap:=h',toks:=tk}) f O ?_);refine wB1 (Oq ?_);have G:=hW1 (NT λ_=> #[v,v]) f O;have y:∀b o,b≠S->h'.get? b=Z o->(h'.update S (NT λ_=> #[v,v])).get? b=Z o:=λb o a e=>by rw[hU1 _ _ _ _ a];exact e
   refine wP1 ⟨OD Ps _,ih (j+1) {s with heap:=h'.update S (NT λ_=> #[v,v]),toks:=tk} v _ (by lia) (by lia) (hw.frame _ _ _ l λb d o e=>y b o (λz=>r (z ▸ d)) e) C (am _ _ _ p (T _ y)) G λB h2 q D x=>g B h2 q D λb o d a e=>x b o d a (y b o a (keep b o d e))⟩
  |false=>
   rw[aj (by decide)];have C:P (Pr bt (j+1)) vb:=by rw[Pr,d];exact u
   refine wB1 (Oq ?_);refine wP1 ⟨OD Ps _,ih (j+1) {s with heap:=h',toks:=tk} vb c (by lia) (by lia) l C h f λB h2 q D x=>g B h2 q D λb o d a e=>x b o d a (keep b o d e)⟩
theorem vD (hw:Walks prog w A.in1 I fp wr n P St)(d:S∉fp)(x:0<n)(y:∀ (s:dN) h' tk,Kp s->(∀ b o,b∉wr->b≠S->s.heap.get? b=some o->h'.get? b=some o)->Kp {s with heap:=h',toks:=tk})
  (cmp:∀i j u B (s:dN),Kp s->P i u->P j B -> ∀Q E,Q (.bool (bt i j)) s->dX (MN prog w) A.in1 (OB .Lt u B) Q E s) {s:dN} {c:Nat} (k:St 0 s.heap) (l:Kp s)
  (t:s.heap.get? S=Z {cls:=.type "list",data:=.seq #[] c})
  (r:∀(v:dM) (h':dZ) (tk:Nat),P (Pr bt (n-1)) v->(∀b o,b∉wr->b≠S->s.heap.get? b=Z o->h'.get? b=Z o)->R (.ok (.ret v)) {s with heap:=h',toks:=tk}):
  dY (MN prog w) A (.builtin "min.loop" ⟨[.ref I,.none,.ref S],[]⟩) R s:=by
 refine wD1 F.entry_min_loop ?_;rw[OE Ps _];unfold Builtin.«min.loop»;refine wB1 (se t ?_);refine wB1 (Pt ?_);refine hw.item 0 s _ _ x k λv h' tk H h keep=>?_;have g:h'.get? S=Z {cls:=.type "list",data:=.seq #[] c}:=keep S _ (λz=>d (hw.sub S z)) t;dsimp only;refine wB1 (wP1 ?_);refine wB1 (Pi (s:={s with heap:=h',toks:=tk}) g O ?_);have q:=hW1 (NT λ_=> #[v,v]) g O;have m:∀b o,b≠S->h'.get? b=Z o->(h'.update S (NT λ_=> #[v,v])).get? b=Z o:=λb o a e=>by rw[hU1 _ _ _ _ a];exact e
 refine wP1 ⟨OD Ps _,ye hw d y cmp (n-1) 0 {s with heap:=h'.update S (NT λ_=> #[v,v]),toks:=tk} v _ O x (hw.frame _ _ _ h λb f o e=>m b o (λz=>d (z ▸ f)) e) H (y _ _ _ l λb o f a e=>m b o a (keep b o f e)) q λD h2 p G C=>r D h2 p G λb o f a e=>C b o f a (m b o a (keep b o f e))⟩
theorem yf{E:dM->dN->Prop}{s:dN}{l:dP}{items:Array dM}{Q:dM->dN->Prop}(B:A.handled=none)(n:s.heap.IsList l items)(x:0<items.size)(cmp:∀i j f g h' tk,(∀b o,s.heap.get? b=some o->h'.get? b=some o)->items[i]?=some f->items[j]?=some g -> ∀Q E,Q (.bool (bt i j)) {s with heap:=h',toks:=tk}->dX (MN prog w) A.in1 (OB .Lt f g) Q E {s with heap:=h',toks:=tk})(q:∀(v:dM) (h':dZ) (tk:Nat),items[Pr bt (items.size-1)]?=some v->(∀b o,s.heap.get? b=some o->h'.get? b=some o)->Q v {s with heap:=h',toks:=tk}):
  dX (MN prog w) A (call (.builtin "min") [.ref l]) Q E s:=by
 have p:l<s.heap.objs.size:=by
  obtain⟨o,t,_⟩:=id n;exact hL1 t
 refine call_function_any F.kind_min F.plain_min F.entry_min (F.args_min1 _) ?_;unfold Builtin.«min»;refine wB1 ?_;refine wP1 (a:=[Y,Y]) ?_;dsimp only;refine wB1 (wP1 ?_);refine wB1 (wpAny_pyIter_list n ?_);refine wB1 (Pc ?_);have m:∀b o,s.heap.get? b=Z o->(s.heap.push {cls:=.type "list_iterator",data:=.fields #[.ref l,.int 0 0]}).get? b=Z o:=λb o e=>hP1 _ e;have C:(s.heap.push {cls:=.type "list_iterator",data:=.fields #[.ref l,.int 0 0]}).get? s.heap.objs.size=Z {cls:=.type "list_iterator",data:=.fields #[.ref l,.int 0 0]}:=hS1 _ O;have D:(s.heap.push {cls:=.type "list_iterator",data:=.fields #[.ref l,.int 0 0]}).objs.size=s.heap.objs.size+1:=hZ1 _ _;generalize s.heap.push {cls:=.type "list_iterator",data:=.fields #[.ref l,.int 0 0]}=h1 at *
 have k:∀b o,h1.get? b=Z o->(h1.push {cls:=.type "list",data:=.seq ([]:List dM).toArray}).get? b=Z o:=λb o e=>hP1 _ e;have u:(h1.push {cls:=.type "list",data:=.seq ([]:List dM).toArray}).get? h1.objs.size=Z {cls:=.type "list",data:=.seq ([]:List dM).toArray}:=hS1 _ O;dsimp only;generalize h1.push {cls:=.type "list",data:=.seq ([]:List dM).toArray}=h2 at *
 have old:∀b o,s.heap.get? b=Z o->b∉[s.heap.objs.size]/\b≠h1.objs.size:=λb o e=>by
  have:=hL1 e;exact⟨by simp;lia,by lia⟩
 refine wP1 ⟨OD Ps _,vD (Walks.list (w:=w) (prog:=prog) (A:=A.in1) B s.heap.objs.size l (nN1 p) items) (by simp;lia) x (Kp:=λs'=>∃h tk,s'={s with heap:=h,toks:=tk} /\ ∀b o,s.heap.get? b=Z o->h.get? b=Z o) (λs' h' tk a b=>by
  obtain⟨h,d,rfl,a⟩:=a;exact⟨h',tk,O,λc o e=>b c o (old c o e).1 (old c o e).2 (a c o e)⟩) (λi j f g s' a b c=>by
  obtain⟨h,d,rfl,a⟩:=a;exact cmp i j f g h d a b c) ⟨⟨_,k _ _ C,O,O⟩,?_⟩ ⟨_,_,O,λb o e=>k b o (m b o e)⟩ u λv h' tk y z=>q v h' tk y λb o e=>z b o (old b o e).1 (old b o e).2 (k b o (m b o e))⟩
 obtain⟨o,t,r⟩:=id n;exact⟨o,k _ _ (m _ _ t),r⟩
end
def ur:G1:=λd S=>match ei S d with
 | some (true,xs)=>if (decide (0<xs.length)&&xs.all fun a=>xs.all fun b=>(k4 S 51 a b).isSome)=true then
   Z (xs.getD (Pr (λi j=>k4 S 51 (xs.getD i .non) (xs.getD j .non) == Z M) (xs.length-1)) .non,S)else Y
 |_=>Y
theorem Ij{K:Fg1}{H:Hp}{mu:List dP}:∀{ds:List D} {vs:List V} {a:List dM} {i:Nat} {v:dM},ej K H mu ds vs->eH vs a->a[i]?=Z v -> ∃d w,ds[i]?=Z d/\fc K H mu d w/\ew w v:=by
 intro ds
 induction ds with
 |nil=>
  intro vs a i v t r h;cases t;cases r;cases h
 |cons x xs ih=>
  intro vs a i v t r h;cases t with
  |cons c e=>
   cases r with
   |cons b r2=>
    cases i with
    |zero=>cases h;exact⟨x,_,O,c,b⟩
    |succ i=>
     rw[gC1]at h ⊢;exact ih e r2 h
theorem Hs(o:X.calm=M)(hu:X.A.units+64<Nt):fi X (.builtin "min") (rN X.K (b1 ur)):=by
 intro ag s σ H xs us Q I r h;obtain⟨x,mu,S,d,r',aq,rfl,au,B,k,hc⟩:=xX h;unfold ur at k;split at k
 ·rename_i ds U;split at k
  ·rename_i c;cases k;rw[bA1,al,bD]at c;obtain⟨T,m⟩:=c;obtain⟨a,vs,rfl,q,t⟩:=er au B U;obtain⟨u,rfl,r2⟩:=iN r;cases r2;obtain⟨f,L,ao,wq⟩:=I.list q;have n:f.length=ds.length:=by rw[<- L.length,<- t.length]
   have at_:∀(i:Nat) (v:dM),f[i]?=Z v -> ∃d w,ds[i]?=Z d/\d∈ds/\ds.getD i .non=d/\fc X.K H mu d w/\ew w v:=λi v e=>by
    obtain⟨d,w,g,p,q⟩:=Ij t L e;exact⟨d,w,g,gM1 g,by rw[bM,g];rfl,p,q⟩
   have l:f.toArray.size=ds.length:=by rw[sT1,n]
   refine yf (bt:=λi j=>k4 S 51 (ds.getD i .non) (ds.getD j .non) == Z M) (I.ok.hd o) ao.isList (by rw[l];exact T) (λi j R V h' tk keep g F Q E K=>?_) λv h' tk e keep=>?_
   ·rw[ck]at g F;obtain⟨D,G,_,m1,z,C,y⟩:=at_ i R g;obtain⟨P,w2,_,m2,N,p2,W⟩:=at_ j V F;have hc:=bD.mp (m D m1) P m2;obtain⟨b,am⟩:=aS.mp hc;refine rY (I.kept keep) B 51 (A:=X.A.in1) (by show X.A.units+1+51<Nt;lia) C p2 y W am X.prog X.w E Q ?_;rw[z,N,am]at K;cases b<;>exact K
   ·rw[ck,l]at e;obtain⟨D,G,_,m1,z,C,y⟩:=at_ _ v e;rw[z]at hc;exact⟨G,H,I.kept keep,y,hc.now C B⟩
  ·cases k
 ·cases k
def W{α:Type}(o:Option α)(Q:α->Prop):Prop:=∃x,o=Z x/\Q x
section
variable{α β:Type}{Q:α->Prop}
theorem ez{x:α}:W (Z x) Q↔Q x:=⟨λ⟨_,e,h⟩=>(by cases e;exact h),λh=>⟨x,O,h⟩⟩
theorem k9:W (Y:Option α) Q↔False:=⟨λ⟨_,e,_⟩=>(by cases e),MU⟩
theorem d9{o:Option β}{f:β->Option α}:W (o.bind f) Q↔W o λx=>W (f x) Q:=by
 cases o with
 |none=>exact⟨λ⟨_,e,_⟩=>(by cases e),λ⟨_,e,_⟩=>(by cases e)⟩
 |some x=>exact⟨λh=>⟨x,O,h⟩,λ⟨_,e,h⟩=>by cases e;exact h⟩
theorem j7{o:Option β}{f:β->α}:W (o.map f) Q↔W o λx=>Q (f x):=by
 cases o with
 |none=>exact⟨λ⟨_,e,_⟩=>(by cases e),λ⟨_,e,_⟩=>(by cases e)⟩
 |some x=>exact⟨λ⟨_,e,h⟩=>(by cases e;exact⟨x,O,h⟩),λ⟨_,e,h⟩=>(by cases e;exact⟨_,O,h⟩)⟩
theorem uR{c:Prop}[Decidable c]{a b:Option α}:W (if c then a else b) Q↔if c then W a Q else W b Q:=by split<;>exact Iff.rfl
theorem W.mono{o:Option α}{Q':α->Prop}(h:W o Q)(k:∀x,Q x->Q' x):W o Q':=let ⟨x,e,q⟩:=h;⟨x,e,k x q⟩
theorem W.of{o:Option α}{x:α}(e:o=Z x)(h:Q x):W o Q:=⟨x,e,h⟩
end
theorem eV{a b:FS}{r:Ev}{S:d7}{Q:Fl×Ev×d7->Prop}(R:Ev->d7->Prop)(h1:W (a r S) λp=>p.1 = .nx/\R p.2.1 p.2.2)(h2:∀r S,R r S->W (b r S) Q):W (eu a b r S) Q:=by
 obtain⟨⟨f,g,h⟩,e,c,d⟩:=h1;dsimp only at c d;subst c;unfold eu;rw[e];exact h2 g h d
theorem lf{n:Nat}{b:FS}{ds:List D}{S:d7}{Q:D×d7->Prop}(h:W (b (ig n ds) S) fun p=>match p.1 with
  | .rt d=>Q (d,p.2.2)
  | .nx=>Q (.non,p.2.2)
  |_=>False):W (iz n b ds S) Q:=by
 obtain⟨⟨f,c,a⟩,e,q⟩:=h;unfold iz;rw[e];cases f with
 |rt d=>exact⟨_,O,q⟩
 |nx=>exact⟨_,O,q⟩
 |bk=>exact q.elim
 |ct=>exact q.elim
theorem xu{n:Nat}{f:FN}{ds:List D}{S:d7}{Q:D×d7->Prop}(hn:ds.length=n)(a:D.unds 0 ds=J)(h:W (f ds S) λp=>Q (gc S.length p)):W (ea n f ds S) Q:=by
 obtain⟨⟨d,b⟩,e,q⟩:=h;exact⟨_,qt e hn a,q⟩
theorem g0{n:Nat}{f:FN}{ds:List D}{S:d7}{Q:D×d7->Prop}(hn:ds.length=n)(b:D.unds 0 ds=M)(h:W (f ds []) λp=>p.1.und 0=M/\Q (p.1,S)):W (ea n f ds S) Q:=by
 obtain⟨⟨d,g⟩,e,a,c⟩:=h;exact⟨_,qr e hn b a,c⟩
mutual
theorem nY{n:Nat}:∀{d:D},d.und 0=M->d.und n=M
 | .non,_=>rfl
 | .bl _,_=>rfl
 | .int _,_=>rfl
 | .str _,_=>rfl
 | .tup xs,h=>by rw[D.und]at h ⊢;exact iO h
 | .rol xs,h=>by rw[D.und]at h ⊢;exact iO h
 | .fn _,_=>rfl
 | .ref k,h=>by simp[D.und]at h
theorem iO{n:Nat}:∀{ds:List D},D.unds 0 ds=M->D.unds n ds=M
 |[],_=>rfl
 |d::ds,h=>by
  rw[D.unds,bA1]at h ⊢;exact⟨nY h.1,iO h.2⟩
end
theorem xy{n:Nat}{f:FN}{ds:List D}{o:Ob}{T:d7}{Q:D×d7->Prop}(hn:ds.length=n)(b:D.unds 0 ds=J)(g:T.all (Ob.und (T.length+1))=M)(h:W (f ds (o::T)) λp=>∃d o' G,p=(d,o'::(T++G))/\d.und 0=M/\o'.und (T.length+1)=M/\Q (d,o'::T)):W (ea n f ds (o::T)) Q:=by
 refine xu hn b (h.mono ?_);rintro p ⟨d,o',G,rfl,c,a,q⟩;have e:(o'::(T++G)).take (T.length+1)=o'::T:=by simp
 unfold gc;dsimp only[lC1];rw[ak (by rw[e,nY c,bS,a,g];rfl),e];exact q
theorem e9{c:List (Nat×List D)}{g:FG}{b:FS}{Q:Fl×Ev×d7->Prop}(I:Nat->Ev->d7->Prop):∀ (items:List D) (k:Nat) (r:Ev) (S:d7),I k r S ->
  (∀i r S,I i r S->pA S c=M) ->
  (∀i d,items[i]?=Z d -> ∀r S,I (k+i) r S->W (g d r S) λp=>W (b p.1 p.2) λq=>q.1 = .nx/\I (k+i+1) q.2.1 q.2.2) ->
  (∀r S,I (k+items.length) r S->Q (.nx,r,S))->W (jk c g b items r S) Q
 |[],k,r,S,hi,hok,_,hq=>by rw[jk];dsimp only;rw[ak (hok _ _ _ hi),ez];exact hq r S (by simpa using hi)
 |d::ds,k,r,S,hi,hok,hs,hq=>by
  rw[jk];dsimp only;rw[ak (hok _ _ _ hi),d9];obtain⟨p,j,h1⟩:=hs 0 d O r S (by simpa using hi);refine⟨p,j,?_⟩;dsimp only;rw[d9];obtain⟨⟨f,l,o⟩,n,h2,e⟩:=h1;refine⟨_,n,?_⟩;dsimp only at h2 e ⊢;subst h2;refine e9 I ds (k+1) l o (by simpa using e) hok (λi h m r S a=>?_) λr S a=>hq r S (by rw[lC1,show k+(ds.length+1)=k+1+ds.length by lia];exact a);have:=hs (i+1) h (by simpa using m) r S (by rw[show k+(i+1)=k+1+i by lia];exact a);rw[show k+(i+1)+1=k+1+i+1 by lia]at this;exact this
theorem gm{c:List (Nat×List D)}{g:FG}{t:FT}{e:FE}{Q:List D×Ev×d7->Prop}(I:Nat->List D->Ev->d7->Prop):∀ (items:List D) (k:Nat) (acc:List D) (r:Ev) (S:d7),I k acc r S ->
  (∀i acc r S,I i acc r S->pA S c=M) ->
  (∀i d,items[i]?=Z d -> ∀acc r S,I (k+i) acc r S->W (g d r S) λp=>W (t p.1 p.2) λb=>if b.1=M then W (e p.1 b.2) λx=>I (k+i+1) (acc++[x.1]) p.1 x.2 else I (k+i+1) acc p.1 b.2) ->
  (∀xs r S,I (k+items.length) (acc++xs) r S->Q (xs,r,S))->W (fM c g t (eT e) items r S) Q
 |[],k,acc,r,S,hi,hok,_,hq=>by rw[fM];dsimp only;rw[ak (hok _ _ _ _ hi),ez];exact hq [] r S (by simpa using hi)
 |d::ds,k,acc,r,S,hi,hok,hs,hq=>by
  rw[fM];dsimp only;rw[ak (hok _ _ _ _ hi),d9];obtain⟨p,l,h1⟩:=hs 0 d O acc r S (by simpa using hi);refine⟨p,l,?_⟩;dsimp only;rw[d9];obtain⟨⟨b,q⟩,o,h2⟩:=h1;refine⟨_,o,?_⟩;have step:∀i f,ds[i]?=Z f -> ∀acc r S,I (k+1+i) acc r S->W (g f r S) λp=>W (t p.1 p.2) λb=>if b.1=M then W (e p.1 b.2) λx=>I (k+1+i+1) (acc++[x.1]) p.1 x.2 else I (k+1+i+1) acc p.1 b.2:=λi f n acc r S a=>by
   have:=hs (i+1) f (by simpa using n) acc r S (by rw[show k+(i+1)=k+1+i by lia];exact a);rw[show k+(i+1)+1=k+1+i+1 by lia]at this;exact this
  dsimp only at h2 ⊢;cases b with
  |true=>
   rw[ak O]at h2 ⊢;rw[d9,eT,j7];obtain⟨⟨x,j⟩,m,h⟩:=h2;refine⟨_,m,?_⟩;dsimp only at h ⊢;rw[j7];refine gm I ds (k+1) (acc++[x]) p.1 j (by simpa using h) hok step λxs r S a=>?_;refine hq _ r S ?_;rw[lC1,show k+(ds.length+1)=k+1+ds.length by lia];simpa using a
  |false=>
   rw[aj (by decide)]at h2 ⊢;refine gm I ds (k+1) acc p.1 q (by simpa using h2) hok step λxs r S a=>?_;refine hq _ r S ?_;rw[lC1,show k+(ds.length+1)=k+1+ds.length by lia];exact a
theorem E4{S:d7}{b:Bool}:mF S (.bl b)=Z b:=rfl
theorem JT{S:d7}:mF S .non=Z J:=rfl
theorem JU{S:d7}{i:Int}:mF S (.int i)=Z (i != 0):=rfl
theorem D6{x y:Int}{S:d7}:gEq (.int x) (.int y) S=Z (.bl (x == y),S):=rfl
theorem D0{x y:Int}{S:d7}:gNe (.int x) (.int y) S=Z (.bl (!(x == y)),S):=rfl
theorem D3{x y:Int}{S:d7}:gLt (.int x) (.int y) S=Z (.bl (decide (x<y)),S):=rfl
theorem J8{x y:Str}{S:d7}:gEq (.str x) (.str y) S=Z (.bl (x == y),S):=rfl
theorem J7{x y:Str}{S:d7}:gNe (.str x) (.str y) S=Z (.bl (!(x == y)),S):=rfl
theorem ite_and'{c p:Prop}[Decidable c]:(if c then p else False)↔c/\p:=by split<;>simp[*]
def yR(j:Int):Bool:=decide (-(2^62)<=j)&&decide (j<2^62)
theorem eW{n:Nat}(h:n<2^60):yR n=M:=by
 unfold yR;rw[bA1,al,al];lia
theorem Hv{j:Int}(h: -(2^60)<=j)(h':j<2^60):yR j=M:=by
 unfold yR;rw[bA1,al,al];lia
def Il(p:List D×d7)(Q:yO×d7->Prop):Prop:=match p.1 with
 |[.int j]=>yR j=M/\Q (⟨gb 0 j.toNat,[]⟩,p.2)
 |_=>False
def JW(p:List D×d7)(Q:yO×d7->Prop):Prop:=match p.1 with
 |[.int i,.int j]=>yR i=M/\yR j=M/\Q (⟨gb i (j-i).toNat,[]⟩,p.2)
 |_=>False
theorem EN{m:FA}{r:Ev}{S:d7}{Q:yO×d7->Prop}:W (pL m r S) Q↔W (m r S) λp=>Il p Q:=by
 unfold pL;rw[d9];constructor
 ·refine λh=>h.mono λp q=>?_;unfold Il;split at q
  ·rename_i j e
   try rw[e]
   rw[uR]at q;split at q
   ·rename_i hc;exact⟨by unfold yR;rw[bA1,al,al];exact hc,ez.mp q⟩
   ·exact(k9.mp q).elim
  ·exact(k9.mp q).elim
 ·refine λh=>h.mono λp q=>?_;unfold Il at q;split at q
  ·rename_i j e;obtain⟨a,b⟩:=q;unfold yR at a;rw[bA1,al,al]at a
   try rw[e]
   try dsimp only
   rw[ak a];exact ez.mpr b
  ·exact q.elim
theorem JF{m:FA}{r:Ev}{S:d7}{Q:yO×d7->Prop}:W (Hb m r S) Q↔W (m r S) λp=>JW p Q:=by
 unfold Hb;rw[d9];constructor
 ·refine λh=>h.mono λp q=>?_;unfold JW;split at q
  ·rename_i i j e
   try rw[e]
   rw[uR]at q;split at q
   ·rename_i hc;refine⟨?_,?_,ez.mp q⟩
    ·unfold yR;rw[bA1,al,al];exact⟨hc.1,hc.2.1⟩
    ·unfold yR;rw[bA1,al,al];exact hc.2.2
   ·exact(k9.mp q).elim
  ·exact(k9.mp q).elim
 ·refine λh=>h.mono λp q=>?_;unfold JW at q;split at q
  ·rename_i i j e;obtain⟨a,b,c⟩:=q;unfold yR at a b;rw[bA1,al,al]at a b
   try rw[e]
   try dsimp only
   rw[ak ⟨a.1,a.2,b⟩];exact ez.mpr c
  ·exact q.elim
def fits(n:Nat):Bool:=decide (n<=dW)
theorem ed{n:Nat}(h:n<=100000):fits n=M:=by unfold fits;rw[al];exact aC h (by decide)
theorem uv{n:Nat}:fits n=M↔n<=dW:=by unfold fits;rw[al]
theorem Mh:fits 0=M:=ed (by decide)
theorem Mg:fits 1=M:=ed (by decide)
theorem Lu:fits 2=M:=ed (by decide)
theorem Mf:fits 3=M:=ed (by decide)
theorem Mr:fits 4=M:=ed (by decide)
theorem Mq:fits 5=M:=ed (by decide)
theorem Me:fits 6=M:=ed (by decide)
theorem Mo:fits 7=M:=ed (by decide)
theorem Mn:fits 8=M:=ed (by decide)
theorem iL{α:Type}{n:Nat}{o:Option α}{Q:α->Prop}:W (if n<=dW then o else Y) Q↔fits n=M/\W o Q:=by
 rw[uv,uR];split
 ·rename_i h;exact⟨λq=>⟨h,q⟩,λq=>q.2⟩
 ·rename_i h;exact⟨λq=>(k9.mp q).elim,λq=>absurd q.1 h⟩
theorem BV{a:FA}{r:Ev}{S:d7}{Q:D×d7->Prop}:W (fw a r S) Q↔W (a r S) λp=>fits p.1.length=M/\Q (.tup p.1,p.2):=by
 unfold fw;rw[d9];exact⟨λh=>h.mono λp q=>(iL.mp q).imp_right ez.mp,λh=>h.mono λp q=>iL.mpr (q.imp_right ez.mpr)⟩
theorem Hz{a:FA}{r:Ev}{S:d7}{Q:D×d7->Prop}:W (hM a r S) Q↔W (a r S) λp=>fits p.1.length=M/\Q (.ref p.2.length,p.2++[.lst p.1]):=by
 unfold hM;rw[d9];exact⟨λh=>h.mono λp q=>(iL.mp q).imp_right ez.mp,λh=>h.mono λp q=>iL.mpr (q.imp_right ez.mpr)⟩
theorem xF{k:Nat}{keep:List Nat}{m:FI}{g:FG}{t:FT}{b:FV}{r:Ev}{S:d7}{Q:D×d7->Prop}:W (e6 k keep m g t b r S) Q↔W (m r S) λp=>W (fM p.1.chk g t b p.1.items (vN k keep r) p.2) λq=>fits q.1.length=M/\Q (.ref q.2.2.length,q.2.2++[.lst q.1]):=by
 unfold e6;rw[d9];refine⟨λh=>h.mono λp q=>?_,λh=>h.mono λp q=>?_⟩
 ·rw[d9]at q;exact q.mono λz w=>(iL.mp w).imp_right ez.mp
 ·rw[d9];exact q.mono λz w=>iL.mpr (w.imp_right ez.mpr)
theorem HD{xs ys:List D}{S:d7}{Q:D×d7->Prop}:W (gj (.tup xs) (.tup ys) S) Q↔fits (xs.length+ys.length)=M/\Q (.tup (xs++ys),S):=
 ⟨λq=>(iL.mp q).imp_right ez.mp,λq=>iL.mpr (q.imp_right ez.mpr)⟩
theorem BY{x y:Int}{S:d7}{Q:D×d7->Prop}:W (gj (.int x) (.int y) S) Q↔Q (.int (x+y),S):=ez
theorem BX{a b:Nat}{xs ys:List D}{S:d7}{Q:D×d7->Prop}(h1:S[a]?=Z (.lst xs))(h2:S[b]?=Z (.lst ys)):W (gj (.ref a) (.ref b) S) Q↔fits (xs.length+ys.length)=M/\Q (.ref S.length,S++[.lst (xs++ys)]):=by
 rw[gj];simp only[h1,h2];exact⟨λq=>(iL.mp q).imp_right ez.mp,λq=>iL.mpr (q.imp_right ez.mpr)⟩
theorem kW{n:Nat}{v:D}{xs:List D}{S:d7}{Q:D×d7->Prop}(h:S[n]?=Z (.lst xs)):W (iC (.ref n) v S) Q↔fits (xs.length+1)=M/\Q (.non,S.set n (.lst (xs++[v]))):=by
 rw[iC];simp only[h];rw[uR,uv];split
 ·rename_i a;exact⟨λq=>⟨a,ez.mp q⟩,λq=>ez.mpr q.2⟩
 ·rename_i a;exact⟨λq=>(k9.mp q).elim,λq=>absurd q.1 a⟩
theorem nt{n:Nat}{i:Nat}{xs:List D}{x:D}{S:d7}{Q:D×d7->Prop}(h:S[n]?=Z (.lst xs))(hx:xs[i]?=Z x)(q:Q (x,S)):W (eA (.ref n) (.int i) S) Q:=by
 refine W.of (x:=(x,S)) ?_ q;have a:=(Px hx).1;simp only[eA,me,xg,h,ei,uP,vK,oS1,ak (show(0:Int)<=i by lia)];rw[ak (by lia)];simp[hx]
theorem j8{i:Nat}{xs:List D}{x:D}{S:d7}{Q:D×d7->Prop}(hx:xs[i]?=Z x)(q:Q (x,S)):W (eA (.tup xs) (.int i) S) Q:=by
 refine W.of (x:=(x,S)) ?_ q;have a:=(Px hx).1;simp only[eA,me,xg,ei,uP,vK,oS1,ak (show(0:Int)<=i by lia)];rw[ak (by lia)];simp[hx]
theorem L6:aR 0 (Y:Option D)=[]:=rfl
theorem Ll:aR 1 (Y:Option D)=[Y]:=rfl
theorem LV:aR 2 (Y:Option D)=[Y,Y]:=rfl
theorem LS:aR 3 (Y:Option D)=[Y,Y,Y]:=rfl
theorem LR:aR 4 (Y:Option D)=[Y,Y,Y,Y]:=rfl
theorem Mm:aR 5 (Y:Option D)=[Y,Y,Y,Y,Y]:=rfl
theorem Ml:aR 6 (Y:Option D)=[Y,Y,Y,Y,Y,Y]:=rfl
theorem LQ:aR 7 (Y:Option D)=[Y,Y,Y,Y,Y,Y,Y]:=rfl
theorem LP:aR 8 (Y:Option D)=[Y,Y,Y,Y,Y,Y,Y,Y]:=rfl
theorem Lk:aR 9 (Y:Option D)=[Y,Y,Y,Y,Y,Y,Y,Y,Y]:=rfl
theorem L5:aR 10 (Y:Option D)=[Y,Y,Y,Y,Y,Y,Y,Y,Y,Y]:=rfl
theorem L4:aR 11 (Y:Option D)=[Y,Y,Y,Y,Y,Y,Y,Y,Y,Y,Y]:=rfl
theorem KB:aR 12 (Y:Option D)=[Y,Y,Y,Y,Y,Y,Y,Y,Y,Y,Y,Y]:=rfl
theorem L3:aR 13 (Y:Option D)=[Y,Y,Y,Y,Y,Y,Y,Y,Y,Y,Y,Y,Y]:=rfl
theorem L1:aR 14 (Y:Option D)=[Y,Y,Y,Y,Y,Y,Y,Y,Y,Y,Y,Y,Y,Y]:=rfl
theorem L0:aR 15 (Y:Option D)=[Y,Y,Y,Y,Y,Y,Y,Y,Y,Y,Y,Y,Y,Y,Y]:=rfl
theorem LZ:aR 16 (Y:Option D)=[Y,Y,Y,Y,Y,Y,Y,Y,Y,Y,Y,Y,Y,Y,Y,Y]:=rfl
theorem LY:aR 17 (Y:Option D)=[Y,Y,Y,Y,Y,Y,Y,Y,Y,Y,Y,Y,Y,Y,Y,Y,Y]:=rfl
theorem LX:aR 18 (Y:Option D)=[Y,Y,Y,Y,Y,Y,Y,Y,Y,Y,Y,Y,Y,Y,Y,Y,Y,Y]:=rfl
theorem LW:aR 19 (Y:Option D)=[Y,Y,Y,Y,Y,Y,Y,Y,Y,Y,Y,Y,Y,Y,Y,Y,Y,Y,Y]:=rfl
theorem LU:aR 20 (Y:Option D)=[Y,Y,Y,Y,Y,Y,Y,Y,Y,Y,Y,Y,Y,Y,Y,Y,Y,Y,Y,Y]:=rfl
theorem fJ{α:Type}{T G:List α}{k:Nat}:(T++G)[T.length+k]?=G[k]?:=by rw[gR1 (by lia)];congr 1;lia
theorem ee{α:Type}{T G:List α}:(T++G)[T.length]?=G[0]?:=by rw[gR1 (by lia)];congr 1;lia
theorem xa{S:d7}{i j:Nat}{xs:List D}(h:S[i]?=Z (.lst xs))(h':S[j]?=Z (.lst [])):gNe (.ref i) (.ref j) S=Z (.bl (!xs.isEmpty),S):=by
 unfold gNe eL;rw[show(60:Nat)=59+1 from rfl,hH];simp only[ei,h,h'];cases xs with
 |nil=>simp[xn]
 |cons x xs=>simp
theorem rQ:∀(n:Nat) (lo:Int),gb lo n=(af n).map λi:Nat=>D.int (lo+i)
 |0,lo=>rfl
 |n+1,lo=>by
  rw[gb,rQ n (lo+1),List.range_succ_eq_map,mP1,bv]
  congr 1
  ·simp
  ·apply de;intro i _;simp only[Function.comp_apply,Nat.succ_eq_add_one]
   congr 1
   push_cast
   lia
theorem jj(n:Nat):gb 0 n=(af n).map λi:Nat=>D.int i:=by
 rw[rQ];apply de;intro i _;simp
theorem jo{α:Type}{c:List (Nat×List D)}{g:FG}{t:FT}{e:FE}{S:d7}{f:α->D}{Q:List D×Ev×d7->Prop}(F:α->D)(P:Ev->Prop)(d:pA S c=true):∀ (xs:List α) (r:Ev),P r ->
  (∀a∈xs,∀r,P r->W (g (f a) r S) λp=>W (t p.1 p.2) λb=>b.1=M/\W (e p.1 b.2) λx=>x.1=F a/\x.2=S/\P p.1) ->
  (∀i,P i->Q (xs.map F,i,S))->W (fM c g t (eT e) (xs.map f) r S) Q
 |[],r,hr,_,h=>by rw[bc,fM];dsimp only;rw[ak d,ez];exact h r hr
 |a::xs,r,hr,hs,h=>by
  rw[mP1,fM];dsimp only;rw[ak d,d9];obtain⟨p,l,⟨b,u,s,⟨x,m,n,q,k⟩⟩⟩:=hs a mS1 r hr;refine⟨p,l,?_⟩;dsimp only;rw[d9];refine⟨b,u,?_⟩;dsimp only;rw[ak s,d9,eT,j7];refine⟨x,m,?_⟩;dsimp only;rw[q,j7];refine jo F P d xs p.1 k (λa o=>hs a (mC1 _ o)) λi j=>?_;have:=h i j;rw[mP1,<- n]at this;exact this
theorem su{α:Type}{c:List (Nat×List D)}{g:FG}{t:FT}{e:FE}{S:d7}{f:α->D}{Q:List D×Ev×d7->Prop}(k:α->Bool)(F:α->D)(P:Ev->Prop)(d:pA S c=true):∀ (xs:List α) (r:Ev),P r ->
  (∀a∈xs,∀r,P r->W (g (f a) r S) λp=>W (t p.1 p.2) λb=>b.1=k a/\b.2=S/\P p.1/\(k a=M->W (e p.1 S) λx=>x.1=F a/\x.2=S)) ->
  (∀j,P j->Q ((xs.filter k).map F,j,S))->W (fM c g t (eT e) (xs.map f) r S) Q
 |[],r,hr,_,h=>by rw[bc,fM];dsimp only;rw[ak d,ez];exact h r hr
 |a::xs,r,hr,hs,h=>by
  rw[mP1,fM];dsimp only;rw[ak d,d9];obtain⟨p,u,⟨b,w,s,q,o,m⟩⟩:=hs a mS1 r hr;refine⟨p,u,?_⟩;dsimp only;rw[d9];refine⟨b,w,?_⟩;dsimp only;cases hk:k a with
  |true=>
   rw[s,hk,ak O,d9,eT,j7,q];obtain⟨x,v,m,l⟩:=m hk;refine⟨x,v,?_⟩;dsimp only;rw[l,j7];refine su k F P d xs p.1 o (λa n=>hs a (mC1 _ n)) λj i=>?_;have:=h j i;rw[List.filter_cons,hk,ak O,mP1,<- m]at this;exact this
  |false=>
   rw[s,hk,aj (by decide),q];refine su k F P d xs p.1 o (λa n=>hs a (mC1 _ n)) λj i=>?_;have:=h j i;rw[List.filter_cons,hk,aj (by decide)]at this;exact this
theorem j5{α:Type}{f:α->Bool}:∀xs:List α,Mi.BS (xs.map λx=>D.bl (f x))=Z (xs.all f)
 |[]=>rfl
 |x::xs=>by rw[mP1,Mi.BS,j5 xs];rfl
mutual
theorem EU{n m:Nat}(h:n<=m):∀{d:D},d.und n=M->d.und m=M
 | .non,_=>rfl
 | .bl _,_=>rfl
 | .int _,_=>rfl
 | .str _,_=>rfl
 | .tup xs,q=>by rw[D.und]at q ⊢;exact i5 h q
 | .rol xs,q=>by rw[D.und]at q ⊢;exact i5 h q
 | .fn _,_=>rfl
 | .ref k,q=>by simp[D.und]at q ⊢;lia
theorem i5{n m:Nat}(h:n<=m):∀{ds:List D},D.unds n ds=M->D.unds m ds=M
 |[],_=>rfl
 |d::ds,q=>by
  rw[D.unds,bA1]at q ⊢;exact⟨EU h q.1,i5 h q.2⟩
end
theorem iT{n m:Nat}(h:n<=m):∀{o:Ob},o.und n=M->o.und m=M
 | .lst xs,q=>by rw[Ob.und]at q ⊢;exact i5 h q
 | .dct xs,q=>by rw[Ob.und]at q ⊢;exact i5 h q
 | .dcT xs,q=>by rw[Ob.und]at q ⊢;exact i5 h q
 | .dcF xs,q=>by rw[Ob.und]at q ⊢;exact i5 h q
 | .iset _,_=>rfl
 | .tst _,_=>rfl
theorem K3{k:Nat}{T G:d7}(h:T.all (Ob.und (T.length+k))=M)(hg:G.all (Ob.und 0)=M):(T++G).all (Ob.und ((T++G).length+k))=M:=by
 rw[df,bA1];rw[bD]at h hg;refine⟨bD.mpr λo a=>iT (by rw[lA1];lia) (h o a),bD.mpr λo a=>iT (bj _) (hg o a)⟩
theorem BW{n:Nat}{xs:List Int}{S:d7}{Q:D×d7->Prop}(h:S[n]?=Z (.iset xs))(q:Q (.int xs.length,S)):W (oQ (.ref n) S) Q:=by
 refine W.of ?_ q;unfold oQ;simp only[h]
theorem fj{α:Type}{n:Nat}{f:α->D}:∀{xs:List α},(∀x∈xs,(f x).und n=M)->D.unds n (xs.map f)=M
 |[],_=>rfl
 |x::xs,h=>by rw[mP1,D.unds,h x mS1,fj λy a=>h y (mC1 _ a)];rfl
theorem Lw{x:Nat}:x+1+1=x+2:=rfl
theorem My{x:Nat}:x+2+1=x+3:=rfl
theorem Mx{x:Nat}:x+3+1=x+4:=rfl
theorem Mw{x:Nat}:x+4+1=x+5:=rfl
theorem Mv{x:Nat}:x+5+1=x+6:=rfl
theorem Mt{x:Nat}:x+6+1=x+7:=rfl
theorem Mj{x:Nat}:x+1+2=x+3:=rfl
theorem wU{xs:List D}{S:d7}:eR (.tup xs) S=Z (.int xs.length,S):=rfl
theorem J4{xs:List D}{S:d7}:eR (.rol xs) S=Z (.int xs.length,S):=rfl
theorem IZ{S:d7}:eR (.str "") S=Z (.int 0,S):=rfl
theorem ke{xs:List D}{S:d7}:ei S (.tup xs)=Z (J,xs):=rfl
theorem JV{xs:List D}{S:d7}:ei S (.rol xs)=Z (M,xs):=rfl
theorem Ea{xs:List D}{S:d7}:jV S (.tup xs)=[]:=rfl
theorem Kd{xs:List D}{S:d7}:jV S (.rol xs)=[]:=rfl
theorem gP{n:Nat}{xs:List D}{S:d7}(h:S[n]?=Z (.lst xs)):ei S (.ref n)=Z (M,xs):=by simp only[ei,h]
theorem sw{n:Nat}{xs:List D}{S:d7}(h:S[n]?=Z (.lst xs)):jV S (.ref n)=[(n,xs)]:=by simp only[jV,h]
def sW(S:d7)(d:D)(Q:List D×List (Nat×List D)->Prop):Prop:=W (ei S d) λq=>Q (q.2,jV S d)
theorem i7{xs:List D}{S:d7}{Q:List D×List (Nat×List D)->Prop}:sW S (.tup xs) Q↔Q (xs,[]):=ez
theorem eF{n:Nat}{xs:List D}{S:d7}{Q:List D×List (Nat×List D)->Prop}(h:S[n]?=Z (.lst xs))(q:Q (xs,[(n,xs)])):sW S (.ref n) Q:=by
 unfold sW;rw[gP h,sw h,ez];exact q
theorem sI{m:FE}{r:Ev}{S:d7}{Q:yO×d7->Prop}:W (gZ m r S) Q↔W (m r S) λp=>sW p.2 p.1 λq=>Q (⟨q.1,q.2⟩,p.2):=by
 unfold gZ;rw[d9];refine⟨λh=>h.mono λp q=>?_,λh=>h.mono λp q=>?_⟩
 ·rw[d9]at q;exact q.mono λz w=>ez.mp w
 ·rw[d9];exact W.mono (show W (ei p.2 p.1) _ from q) λz w=>ez.mpr w
theorem wa{d:D}{S:d7}{Q:D×d7->Prop}:W (Mi.gTup d S) Q↔sW S d λq=>Q (.tup q.1,S):=by
 unfold Mi.gTup;rw[j7];exact Iff.rfl
theorem JD{n:Nat}{S:d7}{Q:D×d7->Prop}:W (eR (.ref n) S) Q↔sW S (.ref n) λq=>Q (.int q.1.length,S):=by
 unfold eR sW;rw[j7]
noncomputable def pD(e:Nat×Nat):D:=.tup [.int e.1,.int e.2]
theorem oU{S:d7}{n:Nat}{a b:Nat×Nat}:hH S (n+2) (pD a) (pD b)=Z (a == b):=by
 obtain⟨a1,a2⟩:=a;obtain⟨b1,b2⟩:=b;rw[hH];have d:∀x y:Nat,hH S (n+1) (.int x) (.int y)=Z ((x:Int) == (y:Int)):=λx y=>rfl;have c:∀x y:Nat,((x:Int) == (y:Int))=(x == y):=λx y=>by
  rw[bT,Pn,Pn];lia
 simp[pD,ei,xn,d,c];rfl
theorem xk{S:d7}{n:Nat}{e:Nat×Nat}:∀b:List (Nat×Nat),yA (hH S (n+2)) (pD e) (b.map pD)=Z (b.map λa=>a == e)
 |[]=>rfl
 |a::b=>by rw[mP1,yA,oU,xk b];rfl
theorem HA{S:d7}{n j:Nat}{row:List (Nat×Nat)}{e:Nat×Nat}{Q:D×d7->Prop}(h:S[n]?=Z (.lst (row.map pD)))(b:row.length<1000)(a:row.findIdx? (· == e)=Z j)(q:Q (.int j,S)):W (Bq (.ref n) (pD e) S) Q:=by
 refine W.of ?_ q;unfold Bq eL;simp only[h,show(60:Nat)=58+2 from rfl,xk,oS1,lM1];rw[ak (by lia),List.findIdx?_map];simp[Function.comp_def,a]
theorem iK{f:FN}{o:FE}{a:FA}{r:Ev}{S:d7}{Q:D×d7->Prop}(h:W (o r S) λp=>∃n xs,p.1 = .ref n/\p.2[n]?=Z (.lst xs)/\W (a r p.2) λq=>W (f (.ref n::q.1) q.2) Q):W (nz f o a r S) Q:=by
 unfold nz;rw[d9];refine h.mono ?_;rintro⟨d,b⟩ ⟨n,xs,rfl,e,q⟩;dsimp only at e q ⊢;rw[e];dsimp only;rw[d9];exact q
theorem rp:∀{k n i:Nat},i<k->(kw n k)[i]?=Z (.ref (n+i))
 |k+1,n,0,_=>rfl
 |k+1,n,i+1,h=>by rw[kw,gC1,rp (Nat.lt_of_succ_lt_succ h),show n+1+i=n+(i+1) by lia]
theorem lT:∀k n:Nat,(kw n k).length=k
 |0,_=>rfl
 |k+1,n=>by rw[kw,lC1,lT]
noncomputable def tot(E:List (List (Nat×Nat))):Nat:=(E.map List.length).sum
noncomputable def et(rs:List Nat):List D:=rs.map λi:Nat=>D.int i
theorem eY(rs:List Nat):(et rs).length=rs.length:=by simp[et]
theorem fv(rs:List Nat):D.unds 0 (et rs)=M:=fj λ_ _=>rfl
theorem A0{κ:Type}[DecidableEq κ]{k:κ}:eg ([]:List (κ×D)) k=Y:=rfl
theorem fW{κ:Type}[DecidableEq κ]{k a:κ}{d:D}{r:List (κ×D)}:eg ((a,d)::r) k=if a=k then Z d else eg r k:=by
 unfold eg;rw[bd];by_cases h:a=k
 ·simp[h]
 ·simp[h]
theorem oH{κ:Type}[DecidableEq κ]{k:κ}{b:List (κ×D)}:∀{a:List (κ×D)},eg (a++b) k=(eg a k).or (eg b k)
 |[]=>rfl
 |(x,d)::a=>by
  rw[bm,fW,fW,oH (a:=a)];split<;>rfl
theorem mO{κ:Type}[DecidableEq κ]{k:κ}:∀{a:List (κ×D)},(a.any λp=>decide (p.1=k))=J->eg a k=Y
 |[],_=>rfl
 |(x,d)::a,h=>by
  simp only[bf,dg,decide_eq_false_iff_not]at h;rw[fW,aj h.1];exact mO h.2
theorem mM{κ:Type}[DecidableEq κ]{k k':κ}{v:D}:∀{a:List (κ×D)},(a.any λp=>decide (p.1=k))=M->eg (a.map λp=>if p.1=k then(p.1,v)else p) k'=if k'=k then Z v else eg a k'
 |[],h=>by simp at h
 |(x,d)::a,h=>by
  rw[mP1];by_cases f:x=k
  ·subst f;rw[ak (show(x,d).1=x from rfl)];rw[fW,fW];by_cases c:k'=x
   ·subst c;simp
   ·rw[aj (ML c),aj (ML c),aj c];by_cases g:(a.any λp=>decide (p.1=x))=M
    ·rw[mM g,aj c]
    ·have:(a.map fun p=>if p.1=x then (p.1,v) else p)=a:=by
      have b:(a.any λp=>decide (p.1=x))=J:=dh.mpr g;rw[aN]at b
      conv=>rhs;rw[<- di a]
      apply de;intro p i;have:=b p i;simp at this;simp[this]
     rw[this]
  ·simp only[bf,ai f,Bool.false_or]at h;rw[aj (show¬ (x,d).1=k from f)];rw[fW,fW,mM h];by_cases e:x=k'
   ·subst e;simp[f]
   ·simp[e]
theorem fE{κ:Type}[DecidableEq κ]{k k':κ}{v:D}{a:List (κ×D)}:eg (fT a k v) k'=if k'=k then Z v else eg a k':=by
 unfold fT;split
 ·rename_i h;exact mM h
 ·rename_i h;have h':(a.any λp=>decide (p.1=k))=J:=dh.mpr h;rw[oH,fW,A0];by_cases b:k'=k
  ·subst b;rw[mO h',ak O];rfl
  ·rw[aj (ML b),aj b];cases eg a k'<;>rfl
theorem rq{κ:Type}[DecidableEq κ]{k:κ}{v:D}{a:List (κ×D)}:(fT a k v).length<=a.length+1:=by
 unfold fT;split
 ·rw[lM1];lia
 ·rw[lA1];simp
theorem FF{κ:Type}[DecidableEq κ]{k:κ}{v:D}{a:List (κ×D)}:fT a k v≠[]:=by
 unfold fT;split
 ·rename_i h;intro z;cases a with
  |nil=>simp at h
  |cons x xs=>simp at z
 ·simp
def dO(F:List (TK×D)):Ob:=if F=[]then .dct []else .dcT F
theorem v7{U:d7}{n:Nat}{F:List (TK×D)}{key v:D}{k:TK}{Q:D×d7->Prop}(h:U[n]?=Z (dO F))(hk:kx key=Z k)(b:F.length<1000)(q:Q (.non,U.set n (dO (fT F k v)))):W (f0 (.ref n) key v U) Q:=by
 refine W.of ?_ q;unfold dO at h ⊢;rw[aj FF];by_cases a:F=[]
 ·subst a;rw[ak O]at h;simp only[f0,h,hk];rfl
 ·rw[aj a]at h;simp only[f0,h,hk,oS1];rw[ak (nL1 b (by decide))]
theorem HB{U:d7}{n:Nat}{F:List (TK×D)}{key v:D}{k:TK}{Q:D×d7->Prop}(h:U[n]?=Z (dO F))(hk:kx key=Z k)(hv:eg F k=Z v)(q:Q (v,U)):W (eA (.ref n) key U) Q:=by
 refine W.of ?_ q;unfold dO at h;by_cases a:F=[]
 ·subst a;cases hv
 ·rw[aj a]at h;simp only[eA,h,hk,oS1,hv,oP1]
theorem v8{U:d7}{n i:Nat}{xs:List D}{x:D}{Q:D×d7->Prop}(h:U[n]?=Z (.lst xs))(hx:xs[i]?=Z x)(hb:i<1000)(q:Q (x,U.set n (.lst (xs.eraseIdx i)))):W (vQ (.ref n) (.int i) U) Q:=by
 have a:=(Px hx).1;refine W.of ?_ q;simp only[vQ,h];rw[ak ⟨by lia,by lia⟩];simp only[vK,ak (show(0:Int)<=i by lia)];rw[ak (by lia)];simp[hx]
theorem He{d:D}{S G:d7}(hd:d.und 0=M)(a:S.all (Ob.und S.length)=M):gc S.length (d,S++G)=(d,S):=by
 unfold gc;dsimp only;rw[db,ak (by rw[nY hd,a];rfl)]
theorem px{m:FA}{r:Ev}{S:d7}{xs:List D}{Q:yO×d7->Prop}(hm:m r S=Z ([.tup xs],S))(q:Q (⟨u4 0 xs,[]⟩,S)):W (oP m r S) Q:=by
 refine W.of (x:=(⟨u4 0 xs,[]⟩,S)) ?_ q;simp only[oP,hm,oS1,ke,Ea]
theorem Bx{α:Type}{f:α->D}:∀(l:List α) (k:Nat),u4 k (l.map f)=(l.zipIdx k).map λp=>D.tup [.int (p.2:Nat),f p.1]
 |[],_=>rfl
 |a::l,k=>by rw[mP1,u4,Bx l (k+1),bN];rfl
theorem xK{α:Type}{l:List α}{p:α×Nat}(h:p∈l.zipIdx):l[p.2]?=Z p.1:=by
 have:=dj.mp h;exact this
mutual
theorem zF{n:Nat}:∀{d:D},d.und 0=M->d.sh n=d
 | .non,_=>rfl
 | .bl _,_=>rfl
 | .int _,_=>rfl
 | .str _,_=>rfl
 | .tup xs,h=>by rw[D.und]at h;rw[D.sh,nJ h]
 | .rol xs,h=>by rw[D.und]at h;rw[D.sh,nJ h]
 | .fn _,_=>rfl
 | .ref k,h=>by simp[D.und]at h
theorem nJ{n:Nat}:∀{ds:List D},D.unds 0 ds=M->D.shs n ds=ds
 |[],_=>rfl
 |d::ds,h=>by
  rw[D.unds,bA1]at h;rw[D.shs,zF h.1,nJ h.2]
end
theorem w4(xs:List Nat):mQ (et xs)=Z (xs.map λ(r:Nat)=>(r:Int)):=by
 induction xs with
 |nil=>rfl
 |cons x xs ih=>
  show(mQ (et xs)).map _=_;rw[ih];rfl
end Mi
end
local macro_rules | `(tactic| walk_at"w") => `(tactic| simp only[Mi.ez, Mi.k9, Mi.ite_and', Mi.d9, Mi.j7, Mi.uR, Mi.eu, Mi.eG, Mi.fV, Mi.eX, Mi.fQ, Mi.ny, Mi.mN, Mi.d5, Mi.d6, Mi.m2, Mi.m1, Mi.mV, Mi.mC, Mi.BV, Mi.Hz, Mi.mB, Mi.rW, Mi.mOr, Mi.rT, Mi.kM, Mi.t8, Mi.IW, Mi.fu, Mi.mTr, Mi.E4, Mi.gN, Mi.gT, Mi.fO, Mi.jm, Mi.gS, Mi.b1, Mi.b2, Mi.b3, Mi.iz, Mi.ig, Mi.xF, Mi.EN, Mi.JF, Mi.Il, Mi.JW, Mi.fz, Mi.vN, Mi.HD, Mi.BY, Mi.kB, Mi.ut, Mi.D6, Mi.D0, Mi.D3, Mi.Mh, Mi.Mg, Mi.Lu, Mi.Mf, Mi.Me, true_and, Mi.fJ, Mi.ee, bJ, lA1, dk, gC1, List.getElem?_nil, c5, c8, lC1, bg, mP1, bc, Mi.L6, Mi.Ll, Mi.LV, Mi.LS, Mi.LR, Mi.LQ, Mi.LP, Mi.Lk, Mi.KB, cW, bm, aP, dm, Nat.reduceSub, dq, Option.join_none, oP1, Option.map_none, oS1, Option.bind_none, NJ, NH, bF1, b7, cm, ite_true, ite_false, reduceIte, O0, O1, Mi.Lw, Mi.Mj, Mi.wU, Mi.ke, Mi.sI, Mi.wa, Mi.JD])
noncomputable section
namespace Law
local macro_rules | `(tactic| wp_walk using $e,*) => `(tactic| ((try walk_at"w");repeat(simp only[$[$e:term],*];try walk_at"w")))
open PySem PySem.Spec PyProof.Rows L2 Mi
noncomputable def top (i:Nat):d3:=PySem.Challenge.pw_ringmeet_k19_standings_told.main.body.getD i (.Pass ⟨0,0,0,0⟩)
abbrev BL:List Str:=["all","bool","enumerate","int","isinstance","len","list","max","min","range","set","sorted","tuple","zip"]
section
variable{P:dQ}{w:dS}{K:Fg1}{mg:Str->Option dM}{base h:dZ}(X:K.In h) (G:h.Ns dU mg) (B:Blt BL mg)
include X G B
abbrev n8:d3:=top 1
def vX:FS:=(eX (kM (nA .int (mV 0)) (t8 (nA .bool (mV 0)))))
def je:FN:=iz 1 vX
theorem tQ {f:dP}(F:eP K "is_whole" n8 f):
  Own P w K mg base 1 "is_whole" 1 je:=xq ["thing"] X G F λa=>
 (qG (qU (i4 (ii xv) (kb (wl (ii xv))))))
abbrev kF:d3:=top 3
def kQ:FS:=(eX (kM (nA .tuple (mV 0)) (m2 (b2 gEq) (mN (b1 eR) (d5 (mV 0) d6)) (mV 1))))
def fL:FN:=iz 2 kQ
theorem ow {f:dP}(F:eP K "is_tuple_of" kF f):
  Own P w K mg base 1 "is_tuple_of" 2 fL:=xq ["thing","many"] X G F λa=>
 (qG (qU (i4 (ii xv) (kb (ce (oq rP) (cn eU (a1 xv)) xv)))))
abbrev wz:d3:=top 4
def p0:FS:=(eu (fV (rT (mB (mCh (b2 (kB fun i j=>decide (i<=j))) (b2 gLt) (mC (D.int 0)) (mV 5) (mN (b1 eR) (d5 (m2 (b2 eA) (mV 0) (mV 4)) d6))))) (eX (mN (b1 gTup) (d5 (mV 3) d6))) ny)
  (eu (eG (m2 (b2 eA) (m2 (b2 eA) (mV 0) (mV 4)) (mV 5)) (gT 2 (fO (gN 4) (fO (gN 6) jm))))
  (fQ (nz (b2 iC) (mV 3) (d5 (fw (d5 (mV 4) (d5 (mV 6) d6))) d6)))))
def xB:FS:=(eu (eG (hM d6) (gN 3))
  (eu (eG (mV 1) (gN 4))
  (eu (fz (gZ (mV 2)) (gN 5) p0)
  (eX (mN (b1 gTup) (d5 (mV 3) d6))))))
def l5:FN:=iz 7 xB
theorem Ao {f:dP}(F:eP K "stops" wz f):
  Own P w K mg base 1 "stops" 3 l5:=xq ["web","room","walk","found","here","door","back"] X G F λa=>
 (qF (sq (fC qN)) (qF (sq xv) (qF (fo (qd xv) gq (qF (qV (nF (xL IG (oq jQ) qK xv (cn eU (a1 (jq xv xv))))) (qG (qU (cz fh (a1 xv)))) qQ) (qF (qR (jq (jq xv xv) xv) (tg2 gq gq)) (qG (lq ap xv (a1 (eK (a2 xv xv)))))))) (qG (qU (cz fh (a1 xv)))))))
abbrev lI:d3:=top 6
def mo:FS:=(eX (m2 (b2 gEq) (mN (b1 oQ) (d5 (mN (b1 hW) (d5 (mV 0) d6)) d6)) (mN (b1 eR) (d5 (mV 0) d6))))
def gC:FN:=iz 1 mo
theorem pF {f:dP}(F:eP K "all_unlike" lI f):
  Own P w K mg base 1 "all_unlike" 1 gC:=xq ["colours"] X G F λa=>
 (qG (qU (ce (oq rP) (cn BH (a1 (cz (BG a) (a1 xv)))) (cn eU (a1 xv)))))
abbrev zL:d3:=top 9
def tP:FS:=(fV (mB (m2 (b2 fX) (mV 7) (mV 2))) (eu (eG (m2 (b2 gj) (m2 (b2 eA) (mV 2) (mV 5)) (fw (d5 (mV 6) d6))) (gS (b3 f0) (mV 2) (mV 7)))
  (fQ (nz (b2 iC) (mV 3) (d5 (mV 7) d6)))) ny)
def tO:FT:=(mB (m2 (b2 gLt) (mV 4) (mN (b1 eR) (d5 (mV 3) d6))))
def tN:FS:=(eu (eG (m2 (b2 eA) (mV 3) (mV 4)) (gN 5))
  (eu (fz (oP (d5 (m2 (b2 eA) (mV 0) (mV 5)) d6)) (gT 2 (fO (gN 6) (fO (gT 2 (fO (gN 7) (fO (gN 8) jm))) jm))) tP)
  (Du 4 (b2 Br) (mC (D.int 1)))))
def BM:FS:=(eu (eG (wP [((mV 1),(fw d6))]) (gN 2))
  (eu (eG (hM (d5 (mV 1) d6)) (gN 3))
  (eu (eG (mC (D.int 0)) (gN 4))
  (eu (sU tO tN 100000)
  (eX (mN (b1 gTup) (d5 (e6 1 [2] (pL (d5 (mN (b1 eR) (d5 (mV 0) d6)) d6)) (gN 0) fu (eT (AO (mV 1) (mV 0)))) d6)))))))
def mL:FN:=iz 9 BM
theorem C6 {f:dP}(F:eP K "ways" zL f):
  Own P w K mg base 1 "ways" 2 mL:=xq ["web","room","found","queue","at","here","door","there","back"] X G F λa=>
 (qF (sq (sR (sQ xv (eK qN) wk))) (qF (sq (fC (a1 xv))) (qF (sq qK) (qF (ka 100000 Pm (ct (oq jQ) xv (cn eU (a1 xv))) (qF (sq (jq xv xv)) (qF (fo (ie (a1 (jq xv xv))) (tg2 gq (tg2 gq gq)) (qG (qV (ct (oq lX) xv xv (by with_unfolding_all rfl)) (qF (qR (qI gt (jq xv xv) (eK (a1 xv))) (iD xv xv (jB a.units))) (qG (lq ap xv (a1 xv)))) qQ))) (qG (Ca 4 (iG O) O (by first|exact Or.inl rfl|exact Or.inr rfl) qK DT))))) (qG (qU (cz fh (a1 (fk ["other"] (ir (a1 (cn eU (a1 xv)))) ⟨gq,eI,(xN a.units xv xv)⟩)))))))))
abbrev lH:d3:=top 13
def mm:FS:=(eX (m2 (b2 gEq) (m2 (b2 eA) (mV 0) (m2 (b2 eA) (mV 1) (mV 2))) (mN (b1 gTup) (d5 (e6 2 [1] (gZ (m2 (b2 eA) (mV 0) (mV 2))) (gT 2 (fO (gN 0) (fO (gN 1) jm))) fu (eT (fw (d5 (m2 (b2 eA) (mV 2) (mV 0)) (d5 (mV 1) d6))))) d6))))
def gB:FN:=iz 3 mm
theorem pE {f:dP}(F:eP K "is_carried" lH f):
  Own P w K mg base 1 "is_carried" 3 gB:=xq ["web","order","room"] X G F λa=>
 (qG (qU (ce (oq rP) (jq xv (jq xv xv)) (cz fh (a1 (fk ["there","back"] (qd (jq xv xv)) ⟨(tg2 gq gq),eI,(eK (a2 (jq xv xv) xv))⟩))))))
abbrev tj:d3:=top 15
def uN:FS:=(eX (mN (b1 gTup) (d5 (mN (b1 gH) (d5 (e6 1 [0] (gZ (mV 1)) (gN 0) fu (eT (m2 (b2 eA) (mV 1) (mV 0)))) d6)) d6)))
def jR:FN:=iz 2 uN
theorem yb {f:dP}(F:eP K "turned" tj f):
  Own P w K mg base 1 "turned" 2 jR:=xq ["turn","rooms"] X G F λa=>
 (qG (qU (cz fh (a1 (cn sC (a1 (fk ["room"] (qd xv) ⟨gq,eI,(jq xv xv)⟩)))))))
abbrev lG:d3:=top 19
def jG:FS:=(eG (e6 2 [0] (gZ (mV 2)) (gN 0) fu (uy (Hb (d5 (IW (mTr (mV 0)) (m2 (b2 gj) (m2 (b2 eA) (mV 0) (m1 (b1 Bp) (mC (D.int 1)))) (mC (D.int 1))) (mC (D.int 0))) (d5 (mV 2) d6))) (gN 1) fu (eT (m2 (b2 gj) (mV 0) (fw (d5 (mV 1) d6)))))) (gN 2))
def mj:FS:=(eu (eG (hM (d5 (fw d6) d6)) (gN 2))
  (eu (fz (pL (d5 (mV 1) d6)) (gN 3) jG)
  (eX (mV 2))))
def gA:FN:=iz 4 mj
theorem pC {f:dP}(F:eP K "some_rooms" lG f):
  Own P w K mg base 1 "some_rooms" 2 gA:=xq ["bound","many","found","k"] X G F λa=>
 (qF (sq (fC (a1 (eK qN)))) (qF (fo (ir (a1 xv)) gq (qG (xP 2 O (T:=["rooms","room"]) (keep:=[0]) ⟨O,by decide+kernel,(kc "bound" (cD _))⟩ O (qd xv) (λ_ _ _=>⟨gq,eI,(kX O (bz B) (a2 (za (hK xv) (qI gt (jq xv (yY EB qK)) qK) qK) xv)),gq,eI,(qI gt xv (eK (a1 xv)))⟩) (iG O) O (by first|exact Or.inl rfl|exact Or.inr rfl)))) (qG (qU xv))))
abbrev og:d3:=top 22
def pp:FS:=(eX (mN (b1 gTup) (d5 (e6 1 [0] (pL (d5 (mN (b1 xc) (d5 (mV 0) d6)) d6)) (gN 0) fu (eT (m2 (b2 eA) (mV 1) (mV 0)))) d6)))
def gM:FN:=iz 1 pp
theorem tU {f:dP}(F:eP K "in_order" og f):
  Own P w K mg base 1 "in_order" 1 gM:=xq ["numbered"] X G F λa=>
 (qG (qU (cz fh (a1 (fk ["number"] (ir (a1 (cn Hu (a1 xv)))) ⟨gq,eI,(jq xv xv)⟩)))))
abbrev m5:d3:=top 24
def jX:FS:=(eu (eG (mC (D.int 0)) (gN 2))
  (eu (fV (mB (m2 (b2 gLt) (mV 1) (mN (b1 eR) (d5 (mV 0) d6)))) (eG (m2 (b2 eA) (mV 0) (mV 1)) (gN 2)) ny)
  (eu (eG (m2 (b2 mT) (m2 (b2 vP) (mC (D.int 10)) (mC (D.int 60))) (m2 (b2 vP) (mC (D.int 10)) (mC (D.int 30)))) (gN 3))
  (eX (hM (d5 (m2 (b2 mT) (m2 (b2 md) (mV 2) (mV 3)) (mN (b1 ut) (d5 (m2 (b2 (kB λi j=>decide (j<=i))) (mV 2) (m2 (b2 vP) (mC (D.int 10)) (mC (D.int 18)))) d6))) (d5 (m2 (b2 md) (m2 (b2 gj) (m2 (b2 gj) (m2 (b2 md) (mV 2) (mC (D.int 2305843009213693951))) (m2 (b2 mT) (mC (D.int 7919)) (mV 1))) (mC (D.int 5))) (mC (D.int 2305843009213693951))) (d5 (mC (D.int 0)) d6))))))))
def fP:FN:=iz 4 jX
theorem rO {f:dP}(F:eP K "_law_hand" m5 f):
  Own P w K mg base 1 "_law_hand" 2 fP:=xq ["_law_script","_law_k","_law_cell","_law_far"] X G F λa=>
 (qF (sq qK) (qF (qV (ct (oq jQ) xv (cn eU (a1 xv))) (qG (sq (jq xv xv))) qQ) (qF (sq (qI m9 (qI Aq qK qK) (qI Aq qK qK))) (qG (qU (fC (a3 (qI m9 (qI ng xv xv) (cz BK (a1 (ce IK xv (qI Aq qK qK))))) (qI ng (qI gt (qI gt (qI ng xv qK) (qI m9 qK xv)) qK) qK) qK)))))))
abbrev m3:d3:=top 25
def jW:FS:=(eu (fV (mB (m2 (b2 (kB fun i j=>decide (j<i))) (m2 (b2 eA) (mV 0) (mC (D.int 0))) (mC (D.int 0)))) (eu (eG (m2 (b2 md) (m2 (b2 eA) (mV 0) (mC (D.int 0))) (mV 1)) (gN 2))
  (eu (eG (m2 (b2 sm) (m2 (b2 eA) (mV 0) (mC (D.int 0))) (mV 1)) (gS (b3 f0) (mV 0) (mC (D.int 0))))
  (eX (mV 2)))) ny)
  (eu (eG (m2 (b2 gj) (m2 (b2 eA) (mV 0) (mC (D.int 2))) (mC (D.int 1))) (gS (b3 f0) (mV 0) (mC (D.int 2))))
  (eu (eG (m2 (b2 md) (m2 (b2 mT) (m2 (b2 gj) (m2 (b2 gj) (m2 (b2 eA) (mV 0) (mC (D.int 1))) (m2 (b2 mT) (m2 (b2 mT) (mC (D.int 9973)) (m2 (b2 eA) (mV 0) (mC (D.int 2)))) (m2 (b2 eA) (mV 0) (mC (D.int 2))))) (mC (D.int 17))) (mC (D.int 69621))) (mC (D.int 2305843009213693921))) (gN 3))
  (eu (eG (m2 (b2 md) (m2 (b2 mT) (mV 3) (m2 (b2 gj) (m2 (b2 md) (mV 3) (mC (D.int 999983))) (m2 (b2 mT) (mC (D.int 7919)) (m2 (b2 eA) (mV 0) (mC (D.int 2)))))) (mC (D.int 2305843009213693907))) (gN 3))
  (eX (m2 (b2 md) (m2 (b2 gj) (m2 (b2 sm) (mV 3) (mC (D.int 101))) (m2 (b2 sm) (mV 3) (mC (D.int 1000003)))) (mV 1)))))))
def eB:FN:=iz 4 jW
theorem rK {f:dP}(F:eP K "_law_take" m3 f):
  Own P w K mg base 1 "_law_take" 2 eB:=xq ["_law_hand_here","_law_many","_law_digit","_law_mixed"] X G F λa=>
 (qF (qV (ct KI (jq xv qK) qK) (qF (sq (qI ng (jq xv qK) xv)) (qF (qR (qI wK (jq xv qK) xv) (iD xv qK (jB a.units))) (qG (qU xv)))) qQ) (qF (qR (qI gt (jq xv qK) qK) (iD xv qK (jB a.units))) (qF (sq (qI ng (qI m9 (qI gt (qI gt (jq xv qK) (qI m9 (qI m9 qK (jq xv qK)) (jq xv qK))) qK) qK) qK)) (qF (sq (qI ng (qI m9 xv (qI gt (qI ng xv qK) (qI m9 qK (jq xv qK)))) qK)) (qG (qU (qI ng (qI gt (qI wK xv qK) (qI wK xv qK)) xv)))))))
abbrev lN:d3:=top 31
def jM:FS:=(fV (mB (m2 (b2 gNe) (m2 (b2 eA) (m2 (b2 eA) (mV 0) (m2 (b2 eA) (mV 1) (mV 2))) (mV 4)) (fw (d5 (m2 (b2 eA) (mV 1) (mV 5)) (d5 (mV 6) d6))))) (eX (mC (D.bl J))) ny)
def jL:FS:=(eu (fV (mB (m2 (b2 gNe) (mN (b1 eR) (d5 (m2 (b2 eA) (mV 0) (m2 (b2 eA) (mV 1) (mV 2))) d6)) (mN (b1 eR) (d5 (mV 3) d6)))) (eX (mC (D.bl false))) ny)
  (fz (oP (d5 (mV 3) d6)) (gT 2 (fO (gN 4) (fO (gT 2 (fO (gN 5) (fO (gN 6) jm))) jm))) jM))
def mx:FS:=(eu (fz (oP (d5 (mV 0) d6)) (gT 2 (fO (gN 2) (fO (gN 3) jm))) jL)
  (eX (mC (D.bl M))))
def fU:FN:=iz 7 mx
theorem pJ {f:dP}(F:eP K "_law_keeps" lN f):
  Own P w K mg base 1 "_law_keeps" 2 fU:=xq ["_law_web_here","_law_turn","_law_room","_law_row","_law_door","_law_other","_law_back"] X G F λa=>
 (qF (fo (ie (a1 xv)) (tg2 gq gq) (qF (qV (ct (oq yd) (cn eU (a1 (jq xv (jq xv xv)))) (cn eU (a1 xv))) (qG (qU ju)) qQ) (qG (fo (ie (a1 xv)) (tg2 gq (tg2 gq gq)) (qG (qV (ct (oq yd) (jq (jq xv (jq xv xv)) xv) (eK (a2 (jq xv xv) xv))) (qG (qU ju)) qQ)))))) (qG (qU ju)))
abbrev lJ:d3:=top 32
def jJ:FS:=(fV (mB (m2 (b2 fX) (mV 5) (mV 1))) (eu (eG (m2 (b2 gj) (m2 (b2 eA) (mV 1) (mV 3)) (fw (d5 (mV 4) d6))) (gS (b3 f0) (mV 1) (mV 5)))
  (fQ (nz (b2 iC) (mV 2) (d5 (mV 5) d6)))) ny)
def jI:FT:=(mB (m2 (b2 gNe) (mV 2) (hM d6)))
def jH:FS:=(eu (eG (nz (b2 vQ) (mV 2) (d5 (mC (D.int 0)) d6)) (gN 3))
  (fz (oP (d5 (m2 (b2 eA) (mV 0) (mV 3)) d6)) (gT 2 (fO (gN 4) (fO (gT 2 (fO (gN 5) (fO (gN 6) jm))) jm))) jJ))
def mq:FS:=(eu (eG (fw (d5 (wP [((mC (D.int 0)),(fw d6))]) (d5 (hM (d5 (mC (D.int 0)) d6)) d6))) (gT 2 (fO (gN 1) (fO (gN 2) jm))))
  (eu (sU jI jH 100000)
  (eX (e6 1 [1] (pL (d5 (mN (b1 eR) (d5 (mV 0) d6)) d6)) (gN 0) fu (eT (m2 (b2 eA) (mV 1) (mV 0)))))))
def gD:FN:=iz 7 mq
theorem pG {f:dP}(F:eP K "_law_walks" lJ f):
  Own P w K mg base 1 "_law_walks" 1 gD:=xq ["_law_web_here","_law_found","_law_waiting","_law_room","_law_door","_law_other","_law_back"] X G F λa=>
 (qF (qR (eK (a2 (sR (sQ qK (eK qN) wk)) (fC (a1 qK)))) (tg2 gq gq)) (qF (ka 100000 Pm (ct (oq yd) xv (fC qN)) (qF (sq (qe Pu Pv zq xv (a1 qK))) (qG (fo (ie (a1 (jq xv xv))) (tg2 gq (tg2 gq gq)) (qG (qV (ct (oq lX) xv xv (by with_unfolding_all rfl)) (qF (qR (qI gt (jq xv xv) (eK (a1 xv))) (iD xv xv (jB a.units))) (qG (lq ap xv (a1 xv)))) qQ)))))) (qG (qU (fk ["_law_room"] (ir (a1 (cn eU (a1 xv)))) ⟨gq,eI,(jq xv xv)⟩)))))
abbrev oi:d3:=top 33
def lV:FS:=(eu (fV (mOr (mB (m2 (b2 Hh) (mV 1) (mC D.non))) (mB (m2 (b2 (kB fun i j=>decide (j<=i))) (mV 3) (mN (b1 eR) (d5 (m2 (b2 eA) (mV 0) (mV 1)) d6))))) (eX (mC D.non)) ny)
  (eG (m2 (b2 eA) (m2 (b2 eA) (m2 (b2 eA) (mV 0) (mV 1)) (mV 3)) (mC (D.int 0))) (gN 1)))
def pu:FS:=(eu (fz (gZ (mV 2)) (gN 3) lV)
  (eX (mV 1)))
def iy:FN:=iz 4 pu
theorem tW {f:dP}(F:eP K "_law_led" oi f):
  Own P w K mg base 1 "_law_led" 3 iy:=xq ["_law_web_here","_law_room","_law_walk","_law_door"] X G F λa=>
 (qF (fo (qd xv) gq (qF (qV (sP (u7 (ct IH xv nG) (qL (ct IK xv (cn eU (a1 (jq xv xv))))))) (qG (qU nG)) qQ) (qG (sq (jq (jq (jq xv xv) xv) qK))))) (qG (qU xv)))
abbrev m4:d3:=top 36
def kI:FS:=(eG (m2 (b2 gj) (mV 2) (e6 1 [1,3] (gZ (mV 2)) (gN 0) (mB (m2 (b2 gLt) (mN (b1 eR) (d5 (mV 0) d6)) (mV 1))) (eT (m2 (b2 gj) (mV 0) (fw (d5 (mV 2) d6)))))) (gN 2))
def nq:FS:=(eu (eG (hM (d5 (fw d6) d6)) (gN 2))
  (eu (fz (pL (d5 (mV 0) d6)) (gN 3) kI)
  (eX (e6 1 [1] (gZ (mV 2)) (gN 0) (mB (m2 (b2 gEq) (mN (b1 eR) (d5 (mV 0) d6)) (mV 1))) (eT (mV 0))))))
def gW:FN:=iz 4 nq
theorem rL {f:dP}(F:eP K "_law_sets" m4 f):
  Own P w K mg base 1 "_law_sets" 2 gW:=xq ["_law_rooms","_law_many","_law_found","_law_room"] X G F λa=>
 (qF (sq (fC (a1 (eK qN)))) (qF (fo (ir (a1 xv)) gq (qG (sq (qI gt xv (fk ["_law_some"] (qd xv) ⟨gq,(jt (ct (oq jQ) (cn eU (a1 xv)) xv)),(qI gt xv (eK (a1 xv)))⟩))))) (qG (qU (fk ["_law_some"] (qd xv) ⟨gq,(jt (ct (oq rP) (cn eU (a1 xv)) xv)),xv⟩)))))
abbrev oe:d3:=top 2
def pk:FS:=(eX (kM (mN (ea 1 je) (d5 (mV 0) d6)) (mCh (b2 (kB λi j=>decide (i<=j))) (b2 gLt) (mC (D.int 0)) (mV 0) (mV 1))))
def iw:FN:=iz 2 pk
theorem tT {f:dP}(F:eP K "is_below" oe f)(a:Own P w K mg base 1 "is_whole" 1 je):
  Own P w K mg base 2 "is_below" 2 iw:=xq ["thing","bound"] X G F λb=>
 (qG (qU (i4 (wn a (a1 xv)) (kb (xO IG (oq jQ) qK xv xv)))))
abbrev Eu:d3:=top 8
def EK:FS:=(eu (eG (mN (ea 3 l5) (d5 (mV 0) (d5 (mV 1) (d5 (mV 2) d6)))) (gN 3))
  (eu (fV (mB (m2 (b2 gLt) (mN (b1 eR) (d5 (mV 3) d6)) (mN (b1 eR) (d5 (mV 2) d6)))) (eX (mC D.non)) ny)
  (eX (IW (mTr (mV 3)) (m2 (b2 eA) (m2 (b2 eA) (mV 3) (m1 (b1 Bp) (mC (D.int 1)))) (mC (D.int 0))) (mV 1)))))
def t7:FN:=iz 4 EK
theorem Gj {f:dP}(F:eP K "led" Eu f)(a:Own P w K mg base 1 "stops" 3 l5):
  Own P w K mg base 2 "led" 3 t7:=xq ["web","room","walk","passed"] X G F λb=>
 (qF (sq (wn a (a3 xv xv xv))) (qF (qV (ct (oq jQ) (cn eU (a1 xv)) (cn eU (a1 xv))) (qG (qU nG)) qQ) (qG (qU (za (hK xv) (jq (jq xv (yY EB qK)) qK) xv)))))
abbrev oa:d3:=top 18
def ph:FS:=(eX (mN (b1 mU) (d5 (e6 1 [1] (gZ (mV 0)) (gN 0) fu (eT (m2 (b2 D5) (mN (ea 2 jR) (d5 (mV 0) (d5 (mV 1) d6))) (mV 1)))) d6)))
def iu:FN:=iz 2 ph
theorem tS {f:dP}(F:eP K "is_least" oa f)(a:Own P w K mg base 1 "turned" 2 jR):
  Own P w K mg base 2 "is_least" 2 iu:=xq ["orders","rooms"] X G F λb=>
 (qG (qU (cn (xz O) (a1 (fk ["order"] (qd xv) ⟨gq,eI,(ce (oq IJ) (wn a (a2 xv xv)) xv)⟩)))))
abbrev pS:d3:=top 21
def m8:FS:=(eG (mN (b1 gTup) (d5 (e6 2 [1] (gZ (mV 4)) (gT 2 (fO (gN 0) (fO (gN 1) jm))) fu (eT (fw (d5 (m2 (b2 eA) (mV 2) (mV 0)) (d5 (mV 1) d6))))) d6)) (gS (b3 f0) (mV 2) (m2 (b2 eA) (mV 1) (mV 3))))
def qB:FS:=(eu (eG l6 (gN 2))
  (eu (fz (oP (d5 (mV 0) d6)) (gT 2 (fO (gN 3) (fO (gN 4) jm))) m8)
  (eX (mN (ea 1 gM) (d5 (mV 2) d6)))))
def iW:FN:=iz 5 qB
theorem vx {f:dP}(F:eP K "renamed" pS f)(b:Own P w K mg base 1 "in_order" 1 gM):
  Own P w K mg base 2 "renamed" 2 iW:=xq ["web","order","rooms","room","doors"] X G F λa=>
 (qF (sq lm) (qF (fo (ie (a1 xv)) (tg2 gq gq) (qG (qR (cz fh (a1 (fk ["there","back"] (qd xv) ⟨(tg2 gq gq),eI,(eK (a2 (jq xv xv) xv))⟩))) (iD xv (jq xv xv) (jB a.units))))) (qG (qU (wn b (a1 xv))))))
abbrev kH:d3:=top 26
def hE:FT:=(mB (m2 (b2 gNe) (mV 4) (hM d6)))
def hD:FS:=(fQ (nz (b2 iC) (mV 5) (d5 (nz (b2 vQ) (mV 4) (d5 (mN (ea 2 eB) (d5 (mV 0) (d5 (mN (b1 eR) (d5 (mV 4) d6)) d6))) d6)) d6)))
def hC:FS:=(eu (eG (fw (d5 (mN (b1 D4) (d5 (mV 3) d6)) (d5 (hM d6) d6))) (gT 2 (fO (gN 4) (fO (gN 5) jm))))
  (eu (sU hE hD 100000)
  (fQ (nz (b2 iC) (mV 2) (d5 (mV 5) d6)))))
def hB:FS:=(fQ (nz (b2 iC) (oE (mV 6) (mV 9) (hM d6)) (d5 (fw (d5 (mV 7) (d5 (mV 8) d6))) d6)))
def ji:FS:=(fz (oP (d5 (mV 5) d6)) (gT 2 (fO (gN 8) (fO (gN 9) jm))) hB)
def kT:FS:=(eu (eG (hM d6) (gN 2))
  (eu (fz (gZ (mV 1)) (gN 3) hC)
  (eu (eG l6 (gN 6))
  (eu (fz (oP (d5 (mV 2) d6)) (gT 2 (fO (gN 7) (fO (gN 5) jm))) ji)
  (eX (mN (b1 gTup) (d5 (e6 2 [6] (oP (d5 (mV 2) d6)) (gT 2 (fO (gN 0) (fO (gN 1) jm))) fu (eT (mN (b1 gTup) (d5 (e6 2 [2,0] (oP (d5 (mV 1) d6)) (gT 2 (fO (gN 0) (fO (gN 1) jm))) fu (eT (m2 (b2 eA) (m2 (b2 eA) (mV 2) (mV 1)) (mN (b1 ut) (d5 (m2 (b2 gEq) (m2 (b2 eA) (m2 (b2 eA) (mV 2) (mV 1)) (mC (D.int 0))) (fw (d5 (mV 3) (d5 (mV 0) d6)))) d6))))) d6)))) d6)))))))
def gh:FN:=iz 10 kT
theorem oy {f:dP}(F:eP K "_law_doored" kH f)(a:Own P w K mg base 1 "_law_take" 2 eB):
  Own P w K mg base 2 "_law_doored" 2 gh:=xq ["_law_hand_here","_law_ends","_law_rows","_law_some","_law_left","_law_row","_law_places","_law_room","_law_door","_law_way"] X G F λb=>
 (qF (sq (fC qN)) (qF (fo (qd xv) gq (qF (lh 4 5 O (iG O) O O (by decide) O O (a2 (cz Ht (a1 xv)) (fC qN))) (qF (ka 100000 Pm (ct (oq yd) xv (fC qN)) (qG (lq ap xv (a1 (qe Pu Pv zq xv (a1 (wn a (a2 xv (cn eU (a1 xv)))))))))) (qG (lq ap xv (a1 xv)))))) (qF (sq lm) (qF (fo (ie (a1 xv)) (tg2 gq gq) (qG (fo (ie (a1 xv)) (tg2 gq gq) (qG (lq ap (Cd xv xv (fC qN)) (a1 (eK (a2 xv xv)))))))) (qG (qU (cz fh (a1 (fk ["_law_room","_law_row"] (ie (a1 xv)) ⟨(tg2 gq gq),eI,(cz fh (a1 (fk ["_law_door","_law_way"] (ie (a1 xv)) ⟨(tg2 gq gq),eI,(jq (jq xv xv) (cz BK (a1 (ce (oq rP) (jq (jq xv xv) qK) (eK (a2 xv xv))))))⟩)))⟩)))))))))
abbrev lM:d3:=top 28
def mw:FS:=(eu (eG (AN (d5 (mV 1) d6)) (gN 2))
  (eX (e6 1 [2,0] (pL (d5 (mV 1) d6)) (gN 0) fu (eT (nz (b2 vQ) (mV 1) (d5 (mN (ea 2 eB) (d5 (mV 2) (d5 (mN (b1 eR) (d5 (mV 1) d6)) d6))) d6))))))
def fy:FN:=iz 3 mw
theorem pI {f:dP}(F:eP K "_law_order" lM f)(a:Own P w K mg base 1 "_law_take" 2 eB):
  Own P w K mg base 2 "_law_order" 2 fy:=xq ["_law_hand_here","_law_many","_law_left"] X G F λb=>
 (qF (sq (u9 O O (bz B) O (bz B) (a1 xv))) (qG (qU (fk ["_law_k"] (ir (a1 xv)) ⟨gq,eI,(qe Pu Pv zq xv (a1 (wn a (a2 xv (cn eU (a1 xv))))))⟩))))
abbrev lK:d3:=top 34
def jK:FS:=(eu (eG (mN (b1 gTup) (d5 (e6 1 [0,3] (gZ (mV 2)) (gN 0) fu (eT (mN (ea 3 iy) (d5 (mV 1) (d5 (mV 2) (d5 (mV 0) d6)))))) d6)) (gN 4))
  (fV (rW (mB (m2 (b2 fX) (mC D.non) (mV 4))) (rW (mB (m2 (b2 gEq) (mN (b1 oQ) (d5 (mN (b1 hW) (d5 (mV 4) d6)) d6)) (mN (b1 eR) (d5 (mV 4) d6)))) (mTr (mN (ea 2 fU) (d5 (mV 0) (d5 (mV 4) d6)))))) (fQ (nz (b2 iC) (mV 1) (d5 (mV 4) d6))) ny))
def ms:FS:=(eu (eG (fw (d5 (hM d6) (d5 (mN (ea 1 gD) (d5 (mV 0) d6)) d6))) (gT 2 (fO (gN 1) (fO (gN 2) jm))))
  (eu (fz (pL (d5 (mN (b1 eR) (d5 (mV 0) d6)) d6)) (gN 3) jK)
  (eX (mN (b1 gH) (d5 (mV 1) d6)))))
def gE:FN:=iz 5 ms
theorem pH {f:dP}(F:eP K "_law_turns" lK f)(b:Own P w K mg base 1 "_law_keeps" 2 fU)(a:Own P w K mg base 1 "_law_led" 3 iy)(d:Own P w K mg base 1 "_law_walks" 1 gD):
  Own P w K mg base 2 "_law_turns" 1 gE:=xq ["_law_web_here","_law_found","_law_walks_here","_law_room","_law_turn"] X G F λc=>
 (qF (lh 1 2 O (iG O) O O (by decide) O O (a2 (fC qN) (wn d (a1 xv)))) (qF (fo (ir (a1 (cn eU (a1 xv)))) gq (qF (sq (cz fh (a1 (fk ["_law_walk"] (qd xv) ⟨gq,eI,(wn a (a3 xv xv xv))⟩)))) (qG (qV (sP (qM (ct (oq lX) nG xv (by with_unfolding_all rfl)) (qM (ct (oq rP) (cn BH (a1 (cz (BG c) (a1 xv)))) (cn eU (a1 xv))) (sO (hK (wn b (a2 xv xv))))))) (qG (lq ap xv (a1 xv))) qQ)))) (qG (qU (cn sC (a1 xv))))))
abbrev kG:d3:=top 37
def jh:FS:=(eG (mC (D.bl M)) (gS (b3 f0) (mV 3) (mN (b1 ur) (d5 (e6 1 [4] (gZ (mV 0)) (gN 0) fu (eT (mN (b1 gTup) (d5 (mN (b1 gH) (d5 (e6 1 [0] (gZ (mV 1)) (gN 0) fu (eT (m2 (b2 eA) (mV 1) (mV 0)))) d6)) d6)))) d6))))
def kS:FS:=(eu (eG l6 (gN 3))
  (eu (fz (gZ (mN (ea 2 gW) (d5 (mV 1) (d5 (mV 2) d6)))) (gN 4) jh)
  (eX (mN (b1 gTup) (d5 (mN (b1 l9) (d5 (mV 3) d6)) d6)))))
def gg:FN:=iz 5 kS
theorem ox {f:dP}(F:eP K "_law_leasts" kG f)(b:Own P w K mg base 1 "_law_sets" 2 gW):
  Own P w K mg base 2 "_law_leasts" 3 gg:=xq ["_law_every","_law_rooms","_law_many","_law_found","_law_some"] X G F λa=>
 (qF (sq lm) (qF (fo (qd (wn b (a2 xv xv))) gq (qG (qR ju (iD xv (cn (Hs O a.units) (a1 (fk ["_law_turn"] (qd xv) ⟨gq,eI,(cz fh (a1 (cn sC (a1 (fk ["_law_room"] (qd xv) ⟨gq,eI,(jq xv xv)⟩)))))⟩))) (jB a.units))))) (qG (qU (cz fh (a1 (cn (BF O a.units) (a1 xv))))))))
abbrev n9:d3:=top 12
def pf:FS:=(eu (fV (rT (mTr (mN (ea 2 fL) (d5 (mV 1) (d5 (mN (b1 eR) (d5 (mV 0) d6)) d6))))) (eX (mC (D.bl false))) ny)
  (eX (kM (mN (b1 mU) (d5 (e6 1 [0] (gZ (mV 1)) (gN 0) fu (eT (mN (ea 2 iw) (d5 (mV 0) (d5 (mN (b1 eR) (d5 (mV 1) d6)) d6))))) d6)) (mN (ea 1 gC) (d5 (mV 1) d6)))))
def iq:FN:=iz 2 pf
theorem tR {f:dP}(F:eP K "is_order" n9 f)(c:Own P w K mg base 1 "all_unlike" 1 gC)(b:Own P w K mg base 2 "is_below" 2 iw)(a:Own P w K mg base 1 "is_tuple_of" 2 fL):
  Own P w K mg base 3 "is_order" 2 iq:=xq ["web","thing"] X G F λd=>
 (qF (qV (nF (hK (wn a (a2 xv (cn eU (a1 xv)))))) (qG (qU ju)) qQ) (qG (qU (i4 (cn (xz O) (a1 (fk ["room"] (qd xv) ⟨gq,eI,(wn b (a2 xv (cn eU (a1 xv))))⟩))) (kb (wn c (a1 xv)))))))
abbrev iS:d3:=top 27
def gr:FS:=(eu (eG (e6 1 [4] (pL (d5 (mV 5) d6)) (gN 0) (mB (m2 (b2 gLt) (mN (b1 eR) (d5 (m2 (b2 eA) (mV 1) (mV 0)) d6)) (mC (D.int 4)))) (eT (mV 0))) (gN 6))
  (eu (eG (m2 (b2 eA) (mV 6) (mN (ea 2 eB) (d5 (mV 0) (d5 (mN (b1 eR) (d5 (mV 6) d6)) d6)))) (gN 7))
  (eu (fQ (nz (b2 iC) (m2 (b2 eA) (mV 4) (mV 5)) (d5 (mV 3) d6)))
  (eu (fQ (nz (b2 iC) (m2 (b2 eA) (mV 4) (mV 7)) (d5 (mV 3) d6)))
  (eG (m2 (b2 gj) (mV 3) (mC (D.int 1))) (gN 3))))))
def gp:FS:=(eu (eG (fw (d5 (mN (ea 2 eB) (d5 (mV 0) (d5 (mV 2) d6))) (d5 (mN (ea 2 eB) (d5 (mV 0) (d5 (mV 2) d6))) d6))) (gT 2 (fO (gN 9) (fO (gN 7) jm))))
  (fV (rW (mB (m2 (b2 gLt) (m2 (b2 gj) (mN (b1 eR) (d5 (m2 (b2 eA) (mV 4) (mV 9)) d6)) (mN (b1 ut) (d5 (m2 (b2 gEq) (mV 9) (mV 7)) d6))) (mC (D.int 4)))) (mB (m2 (b2 gLt) (mN (b1 eR) (d5 (m2 (b2 eA) (mV 4) (mV 7)) d6)) (mC (D.int 4))))) (eu (fQ (nz (b2 iC) (m2 (b2 eA) (mV 4) (mV 9)) (d5 (mV 3) d6)))
  (eu (fQ (nz (b2 iC) (m2 (b2 eA) (mV 4) (mV 7)) (d5 (mV 3) d6)))
  (eG (m2 (b2 gj) (mV 3) (mC (D.int 1))) (gN 3)))) ny))
def i0:FS:=(eu (eG (fw (d5 (m2 (b2 gj) (mC (D.int 1)) (mN (ea 2 eB) (d5 (mV 0) (d5 (mV 1) d6)))) (d5 (mC (D.int 0)) d6))) (gT 2 (fO (gN 2) (fO (gN 3) jm))))
  (eu (eG (e6 1 [] (pL (d5 (mV 2) d6)) (gN 0) fu (eT (hM d6))) (gN 4))
  (eu (fz (Hb (d5 (mC (D.int 1)) (d5 (mV 2) d6))) (gN 5) gr)
  (eu (fz (pL (d5 (mN (ea 2 eB) (d5 (mV 0) (d5 (mC (D.int 6)) d6))) d6)) (gN 8) gp)
  (eX (mN (ea 2 gh) (d5 (mV 0) (d5 (mV 4) d6))))))))
def fD:FN:=iz 10 i0
theorem lW {f:dP}(F:eP K "_law_plain_web" iS f)(b:Own P w K mg base 2 "_law_doored" 2 gh)(a:Own P w K mg base 1 "_law_take" 2 eB):
  Own P w K mg base 3 "_law_plain_web" 2 fD:=xq ["_law_hand_here","_law_most","_law_rooms","_law_many","_law_ends","_law_room","_law_some","_law_other","_law_turn","_law_one"] X G F λc=>
 (qF (lh 2 3 O (iG O) O O (by decide) O O (a2 (qI gt qK (wn a (a2 xv xv))) qK)) (qF (sq (fk ["_law_room"] (ir (a1 xv)) ⟨gq,eI,(fC qN)⟩)) (qF (fo (kX O (bz B) (a2 qK xv)) gq (qF (kd 6 O (T:=["_law_other"]) (keep:=[4]) ⟨O,by decide+kernel,(kc "_law_ends" (cD _))⟩ O (ir (a1 xv)) (λ_ _ _=>⟨gq,(jt (ct (oq jQ) (cn eU (a1 (jq xv xv))) qK)),xv⟩) (iG O) O (by first|exact Or.inl rfl|exact Or.inr rfl)) (qF (sq (jq xv (wn a (a2 xv (cn eU (a1 xv)))))) (qF (lq ap (jq xv xv) (a1 xv)) (qF (lq ap (jq xv xv) (a1 xv)) (qG (sq (qI gt xv qK)))))))) (qF (fo (ir (a1 (wn a (a2 xv qK)))) gq (qF (lh 9 7 rfl (iG rfl) rfl rfl (by decide) rfl rfl (a2 (wn a (a2 xv xv)) (wn a (a2 xv xv)))) (qG (qV (sP (qM (ct (oq jQ) (qI gt (cn eU (a1 (jq xv xv))) (cz BK (a1 (ce (oq rP) xv xv)))) qK) (sO (ct (oq jQ) (cn eU (a1 (jq xv xv))) qK)))) (qF (lq ap (jq xv xv) (a1 xv)) (qF (lq ap (jq xv xv) (a1 xv)) (qG (sq (qI gt xv qK))))) qQ)))) (qG (qU (wn b (a2 xv xv))))))))
abbrev lO:d3:=top 29
def ip:FS:=(eu (eG (fw (d5 (mV 7) (d5 (mV 10) (d5 (mV 8) d6)))) (gS (b3 f0) (mV 3) (fw (d5 (mV 4) (d5 (mV 9) (d5 (mV 6) d6))))))
  (eG (fw (d5 (mV 4) (d5 (mV 9) (d5 (mV 6) d6)))) (gS (b3 f0) (mV 3) (fw (d5 (mV 7) (d5 (mV 10) (d5 (mV 8) d6)))))))
def jP:FS:=(fV (mB (m2 (b2 gLt) (fw (d5 (mV 4) (d5 (mV 6) d6))) (fw (d5 (mV 7) (d5 (mV 8) d6))))) (fz (oP (d5 (mN (ea 2 fy) (d5 (mV 0) (d5 (mV 2) d6))) d6)) (gT 2 (fO (gN 9) (fO (gN 10) jm))) ip) ny)
def io:FS:=(fz (oP (d5 (mV 5) d6)) (gT 2 (fO (gN 6) (fO (gT 2 (fO (gN 7) (fO (gN 8) jm))) jm))) jP)
def jO:FS:=(fV (mB (m2 (b2 fX) (oC (m2 (b2 eA) (mV 3) (fw (d5 (mV 4) (d5 (mV 9) (d5 (mV 6) d6))))) kJ (nh (mC (D.int 2)))) (mV 11))) (fQ (nz (b2 iC) (mV 11) (d5 (oC (m2 (b2 eA) (mV 3) (fw (d5 (mV 4) (d5 (mV 9) (d5 (mV 6) d6))))) kJ (nh (mC (D.int 2)))) d6))) ny)
def im:FT:=(mB (m2 (b2 gLt) (mV 12) (mN (b1 eR) (d5 (mV 11) d6))))
def il:FS:=(eu (eG (m2 (b2 eA) (mV 11) (mV 12)) (gT 2 (fO (gN 4) (fO (gN 9) jm))))
  (eu (fz (pL (d5 (mN (b1 eR) (d5 (m2 (b2 eA) (mV 1) (mV 4)) d6)) d6)) (gN 6) jO)
  (eG (m2 (b2 gj) (mV 12) (mC (D.int 1))) (gN 12))))
def jN:FS:=(eu (eG (e6 1 [3,4,9] (pL (d5 (mN (b1 eR) (d5 (m2 (b2 eA) (mV 1) (mV 4)) d6)) d6)) (gN 0) fu (eT (m2 (b2 eA) (mV 1) (fw (d5 (mV 2) (d5 (mV 3) (d5 (mV 0) d6))))))) (gN 14))
  (fQ (nz (b2 iC) (mV 13) (d5 (mN (b1 gTup) (d5 (e6 1 [11] (gZ (mV 14)) (gN 0) fu (eT (fw (d5 (nz (b2 Bq) (mV 1) (d5 (oC (mV 0) kJ (nh (mC (D.int 2)))) d6)) (d5 (m2 (b2 eA) (mV 0) (mC (D.int 2))) d6))))) d6)) d6))))
def my:FS:=(eu (eG l6 (gN 3))
  (eu (fz (oP (d5 (mV 1) d6)) (gT 2 (fO (gN 4) (fO (gN 5) jm))) io)
  (eu (eG (fw (d5 (hM (d5 (fw (d5 (mC (D.int 0)) (d5 (mC (D.int 0)) d6))) d6)) (d5 (mC (D.int 0)) d6))) (gT 2 (fO (gN 11) (fO (gN 12) jm))))
  (eu (sU im il 100000)
  (eu (eG (hM d6) (gN 13))
  (eu (fz (gZ (mV 11)) (gT 2 (fO (gN 4) (fO (gN 9) jm))) jN)
  (eX (fw (d5 (mN (b1 gTup) (d5 (mV 13) d6)) (d5 (mN (b1 gTup) (d5 (e6 2 [] (gZ (mV 11)) (gT 2 (fO (gN 0) (fO (gN 1) jm))) fu (eT (mV 0))) d6)) d6))))))))))
def gF:FN:=iz 15 my
theorem pK {f:dP}(F:eP K "_law_cover" lO f)(a:Own P w K mg base 2 "_law_order" 2 fy):
  Own P w K mg base 3 "_law_cover" 3 gF:=xq ["_law_hand_here","_law_web_here","_law_copies","_law_steps","_law_room","_law_row","_law_door","_law_other","_law_back","_law_copy","_law_to","_law_met","_law_at","_law_found","_law_some"] X G F λb=>
 (qF (sq lm) (qF (fo (ie (a1 xv)) (tg2 gq gq) (qG (fo (ie (a1 xv)) (tg2 gq (tg2 gq gq)) (qG (qV (ct (oq jQ) (eK (a2 xv xv)) (eK (a2 xv xv))) (qG (fo (ie (a1 (wn a (a2 xv xv)))) (tg2 gq gq) (qF (qR (eK (a3 xv xv xv)) (iD xv (eK (a3 xv xv xv)) (jB b.units))) (qG (qR (eK (a3 xv xv xv)) (iD xv (eK (a3 xv xv xv)) (jB b.units))))))) qQ))))) (qF (qR (eK (a2 (fC (a1 (eK (a2 qK qK)))) qK)) (tg2 gq gq)) (qF (ka 100000 Pm (ct (oq jQ) xv (cn eU (a1 xv))) (qF (qR (jq xv xv) (tg2 gq gq)) (qF (fo (ir (a1 (cn eU (a1 (jq xv xv))))) gq (qG (qV (ct (oq lX) (i3 (jq xv (eK (a3 xv xv xv))) ll (lj qK)) xv (by with_unfolding_all rfl)) (qG (lq ap xv (a1 (i3 (jq xv (eK (a3 xv xv xv))) ll (lj qK))))) qQ))) (qG (sq (qI gt xv qK)))))) (qF (sq (fC qN)) (qF (fo (qd xv) (tg2 gq gq) (qF (kd 14 O (T:=["_law_door"]) (keep:=[3,4,9]) ⟨O,by decide+kernel,(kc "_law_steps" (kc "_law_room" (kc "_law_copy" (cD _))))⟩ O (ir (a1 (cn eU (a1 (jq xv xv))))) (λ_ _ _=>⟨gq,eI,(jq xv (eK (a3 xv xv xv)))⟩) (iG O) O (by first|exact Or.inl rfl|exact Or.inr rfl)) (qG (lq ap xv (a1 (cz fh (a1 (fk ["_law_step"] (qd xv) ⟨gq,eI,(eK (a2 (qe PySem.F.slot_list_index PySem.F.type_list_index (HU b.units) xv (a1 (i3 xv ll (lj qK)))) (jq xv qK)))⟩)))))))) (qG (qU (eK (a2 (cz fh (a1 xv)) (cz fh (a1 (fk ["_law_room","_law_copy"] (qd xv) ⟨(tg2 gq gq),eI,xv⟩)))))))))))))
abbrev pT:d3:=top 11
def qC:FS:=(eX (kM (mN (ea 2 iq) (d5 (mV 0) (d5 (mV 1) d6))) (mN (b1 mU) (d5 (e6 1 [0,1] (pL (d5 (mN (b1 eR) (d5 (mV 0) d6)) d6)) (gN 0) fu (eT (mN (ea 3 gB) (d5 (mV 1) (d5 (mV 2) (d5 (mV 0) d6)))))) d6))))
def iX:FN:=iz 2 qC
theorem vy {f:dP}(F:eP K "is_turn" pT f)(b:Own P w K mg base 1 "is_carried" 3 gB)(a:Own P w K mg base 3 "is_order" 2 iq):
  Own P w K mg base 4 "is_turn" 2 iX:=xq ["web","thing"] X G F λc=>
 (qG (qU (i4 (wn a (a2 xv xv)) (kb (cn (xz O) (a1 (fk ["room"] (ir (a1 (cn eU (a1 xv)))) ⟨gq,eI,(wn b (a3 xv xv xv))⟩)))))))
abbrev oh:d3:=top 30
def pr:FS:=(eu (eG (m2 (b2 eA) (hM (d5 (mC (D.int 1)) (d5 (mC (D.int 1)) (d5 (mC (D.int 2)) (d5 (mC (D.int 2)) (d5 (mC (D.int 3)) (d5 (mC (D.int 4)) d6))))))) (mN (ea 2 eB) (d5 (mV 0) (d5 (mC (D.int 6)) d6)))) (gN 1))
  (eu (eG (mN (ea 2 fD) (d5 (mV 0) (d5 (m2 (b2 sm) (mC (D.int 8)) (mV 1)) d6))) (gN 2))
  (eu (fV (mB (m2 (b2 gEq) (mV 1) (mC (D.int 1)))) (eX (fw (d5 (mV 2) (d5 (Ds (d5 (mN (b1 eR) (d5 (mV 2) d6)) d6)) d6)))) ny)
  (eX (mN (ea 3 gF) (d5 (mV 0) (d5 (mV 2) (d5 (mV 1) d6))))))))
def ix:FN:=iz 3 pr
theorem tV {f:dP}(F:eP K "_law_web" oh f)(a:Own P w K mg base 3 "_law_cover" 3 gF)(b:Own P w K mg base 3 "_law_plain_web" 2 fD)(c:Own P w K mg base 1 "_law_take" 2 eB):
  Own P w K mg base 4 "_law_web" 1 ix:=xq ["_law_hand_here","_law_copies","_law_web_here"] X G F λd=>
 (qF (sq (jq (fC (qA qK (qA qK (qA qK (a3 qK qK qK))))) (wn c (a2 xv qK)))) (qF (sq (wn b (a2 xv (qI wK qK xv)))) (qF (qV (ct (oq rP) xv qK) (qG (qU (eK (a2 xv (yZ O O (bz B) O (bz B) (a1 (cn eU (a1 xv)))))))) qQ) (qG (qU (wn a (a3 xv xv xv)))))))
abbrev wy:d3:=top 14
def xA:FS:=(eu (eG (mN (ea 2 mL) (d5 (mV 0) (d5 (mC (D.int 0)) d6))) (gN 1))
  (eu (eG (e6 1 [1,0] (pL (d5 (mN (b1 eR) (d5 (mV 0) d6)) d6)) (gN 0) fu (eT (mN (b1 gTup) (d5 (e6 1 [2,0] (gZ (mV 1)) (gN 0) fu (eT (mN (ea 3 t7) (d5 (mV 1) (d5 (mV 2) (d5 (mV 0) d6)))))) d6)))) (gN 2))
  (eX (mN (b1 gTup) (d5 (e6 1 [0] (gZ (mV 2)) (gN 0) (mTr (mN (ea 2 iX) (d5 (mV 1) (d5 (mV 0) d6)))) (eT (mV 0))) d6)))))
def l0:FN:=iz 3 xA
theorem An {f:dP}(F:eP K "turns" wy f)(b:Own P w K mg base 4 "is_turn" 2 iX)(a:Own P w K mg base 2 "led" 3 t7)(c:Own P w K mg base 1 "ways" 2 mL):
  Own P w K mg base 5 "turns" 1 l0:=xq ["web","walks","found"] X G F λd=>
 (qF (sq (wn c (a2 xv qK))) (qF (kd 2 O (T:=["room"]) (keep:=[1,0]) ⟨O,by decide+kernel,(kc "walks" (kc "web" (cD _)))⟩ O (ir (a1 (cn eU (a1 xv)))) (λ_ _ _=>⟨gq,eI,(cz fh (a1 (fk ["walk"] (qd xv) ⟨gq,eI,(wn a (a3 xv xv xv))⟩)))⟩) (iG O) O (by first|exact Or.inl rfl|exact Or.inr rfl)) (qG (qU (cz fh (a1 (fk ["order"] (qd xv) ⟨gq,(jt (hK (wn b (a2 xv xv)))),xv⟩)))))))
abbrev mZ:d3:=top 17
def np:FS:=(eu (eG (mN (ea 1 l0) (d5 (mV 0) d6)) (gN 2))
  (eX (mN (b1 gTup) (d5 (e6 1 [2] (gZ (mN (ea 2 gA) (d5 (mN (b1 eR) (d5 (mV 0) d6)) (d5 (mV 1) d6)))) (gN 0) (mTr (mN (ea 2 iu) (d5 (mV 1) (d5 (mV 0) d6)))) (eT (mV 0))) d6))))
def fH:FN:=iz 3 np
theorem rJ {f:dP}(F:eP K "standings" mZ f)(b:Own P w K mg base 2 "is_least" 2 iu)(c:Own P w K mg base 1 "some_rooms" 2 gA)(a:Own P w K mg base 5 "turns" 1 l0):
  Own P w K mg base 6 "standings" 2 fH:=xq ["web","many","orders"] X G F λd=>
 (qF (sq (wn a (a1 xv))) (qG (qU (cz fh (a1 (fk ["rooms"] (qd (wn c (a2 (cn eU (a1 xv)) xv))) ⟨gq,(jt (hK (wn b (a2 xv xv)))),xv⟩))))))
abbrev jC:d3:=top 35
def g8(self:FN):FS:=(eu (fV (mTr (nA .tuple (mV 1))) (eu (fV (mOr (rT (mTr (nA .tuple (mV 0)))) (mB (m2 (b2 gNe) (mN (b1 eR) (d5 (mV 0) d6)) (mN (b1 eR) (d5 (mV 1) d6))))) (eX (mC (D.bl false))) ny)
  (eX (mN (b1 mU) (d5 (e6 2 [] (Jc (d5 (mV 0) (d5 (mV 1) d6))) (gT 2 (fO (gN 0) (fO (gN 1) jm))) fu (eT (mN (ea 2 self) (d5 (mV 0) (d5 (mV 1) d6))))) d6)))) ny)
  (eX (kM (nA .int (mV 0)) (kM (t8 (nA .bool (mV 0))) (m2 (b2 gEq) (mV 0) (mV 1))))))
def fx:Nat->FN
 |0=>λ_ _=>Y
 |n+1=>iz 2 (g8 (fx n))
def gu:FN:=fx 8
theorem rf {f:dP}{fd:d2}(F:xI K "_law_same" "_law_same" jC f fd)(hb:j9 K fd ["_law_found","_law_due"] [])(hm:mg "_law_same"=some (.ref f)){k:Nat}{a:FN}(hk:0<=k)(o_self:Own P w K mg base k "_law_same" 2 a):
  Own P w K mg base (k+1) "_law_same" 2 (iz 2 (g8 a)):=wj (n:=2) (N:=["_law_found","_law_due"]) (ps:=["_law_found","_law_due"]) (b:=g8 a) F hb hm sk O λd A c s H E e=>
 (qF (qV (hK (ii xv)) (qF (qV (sP (u7 (nF (hK (ii xv))) (qL (ct (oq yd) (cn eU (a1 xv)) (cn eU (a1 xv)))))) (qG (qU ju)) qQ) (qG (qU (cn (xz O) (a1 (fk ["_law_one","_law_other"] (Cb O (bz B) (a2 xv xv)) ⟨(tg2 gq gq),eI,(qH o_self e (nR1 _) O (a2 xv xv))⟩)))))) qQ) (qG (qU (i4 (ii xv) (i4 (wl (ii xv)) (kb (ce (oq rP) xv xv)))))))
theorem rM {f:dP}(F:eP K "_law_same" jC f):Own P w K mg base 9 "_law_same" 2 gu:=by
 have b:=wM1 X G F.ns;obtain⟨fd,F⟩:=F.fn;have a:=F.binds (ps:=["_law_found","_law_due"]) (λ_ _ _ _ _ _ e d=>KN d λ_ _=>rfl);have c:∀j:Nat,Own P w K mg base (1+j) "_law_same" 2 (fx j):=λj=>by
  induction j with
  |zero=>exact Al F a b
  |succ j ih=>exact rf X G B F a b (show 0<=1+j by omega) ih
 exact c 8
abbrev tm:d3:=top 38
def rH:FS:=(eu (eG (mN (ea 3 gg) (d5 (mV 5) (d5 (mV 6) (d5 (mV 8) d6)))) (gN 9))
  (fV (mOr (rT (mTr (mN (ea 2 gu) (d5 (mN (ea 2 fH) (d5 (mV 4) (d5 (mV 8) d6))) (d5 (mV 9) d6))))) (mB (m2 (b2 gNe) (mN (b1 eR) (d5 (mN (ea 2 fH) (d5 (mV 7) (d5 (mV 8) d6))) d6)) (mN (b1 eR) (d5 (mV 9) d6))))) (eX (mC (D.bl J))) ny))
def rG:FS:=(eu (eG (fw (d5 (mN (ea 1 gE) (d5 (mV 4) d6)) (d5 (mN (b1 eR) (d5 (mV 4) d6)) d6))) (gT 2 (fO (gN 5) (fO (gN 6) jm))))
  (eu (eG (mN (ea 2 iW) (d5 (mV 4) (d5 (mN (b1 gTup) (d5 (mN (ea 2 fy) (d5 (mV 2) (d5 (mV 6) d6))) d6)) d6))) (gN 7))
  (fz (Hb (d5 (mC (D.int 1)) (d5 (m2 (b2 gj) (mV 6) (mC (D.int 1))) d6))) (gN 8) rH)))
def rF:FS:=(eu (eG (mN (ea 2 fP) (d5 (mV 0) (d5 (mV 1) d6))) (gN 2))
  (eu (eG (e6 1 [2] (pL (d5 (mC (D.int 2)) d6)) (gN 0) fu (eT (m2 (b2 eA) (mN (ea 1 ix) (d5 (mV 1) d6)) (mC (D.int 0))))) (gN 3))
  (fz (gZ (m2 (b2 gj) (mV 3) (oC (mV 3) kJ (nh (mC (D.int 1)))))) (gN 4) rG)))
def wH:FS:=(p8 [M,M,J,J,J,J,J,J,J,J] [M,J,J,J,J,J,J,J,J,J] rF)
def BN:FS:=(eu (fz (pL (d5 (mN (b2 D2) (d5 (mC (D.int 1)) (d5 (mN (b2 D1) (d5 (mC (D.int 4)) (d5 (mN (b1 eR) (d5 (mV 0) d6)) d6))) d6))) d6)) (gN 1) wH)
  (eX (mC (D.bl M))))
def m_law:FN:=iz 10 BN
theorem Gk {f:dP}{fd:d2}(F:xI K "law" "law" tm f fd)(i:Own P w K mg base 1 "_law_hand" 2 fP)(j:Own P w K mg base 2 "_law_leasts" 3 gg)(h:Own P w K mg base 2 "_law_order" 2 fy)(g:Own P w K mg base 9 "_law_same" 2 gu)(l:Own P w K mg base 2 "_law_turns" 1 gE)(e:Own P w K mg base 4 "_law_web" 1 ix)(d:Own P w K mg base 2 "renamed" 2 iW)(a:Own P w K mg base 6 "standings" 2 fH):
  mY P w K mg base uW 10 f fd ["_law_script"] (spM K 1 m_law):=ER (k:=9) (n:=1) (N:=["_law_script","_law_k","_law_hand_here","_law_webs","_law_web_here","_law_every","_law_rooms","_law_other","_law_many","_law_due"]) (ps:=["_law_script"]) (b:=BN) F sk O λm A c s H E o=>
 (qF (fo (ir (a1 (cn (Jx O) (a2 qK (cn (Jw O) (a2 qK (cn eU (a1 xv)))))))) gq (xM [M,M,J,J,J,J,J,J,J,J] [M,J,J,J,J,J,J,J,J,J] (qF (sq (wn i (a2 xv xv))) (qF (kd 3 O (T:=["_law_turn"]) (keep:=[2]) ⟨O,by decide+kernel,(kc "_law_hand_here" (cD _))⟩ O (ir (a1 qK)) (λ_ _ _=>⟨gq,eI,(jq (wn e (a1 xv)) qK)⟩) (iG O) O (by first|exact Or.inl rfl|exact Or.inr rfl)) (qG (fo (qd (qI gt xv (i3 xv ll (lj qK)))) gq (qF (lh 5 6 rfl (iG rfl) rfl rfl (by decide) rfl rfl (a2 (wn l (a1 xv)) (cn eU (a1 xv)))) (qF (sq (wn d (a2 xv (cz fh (a1 (wn h (a2 xv xv))))))) (qG (fo (kX rfl (bz B) (a2 qK (qI gt xv qK))) gq (qF (sq (wn j (a3 xv xv xv))) (qG (qV (sP (u7 (nF (hK (wn g (a2 (wn a (a2 xv xv)) xv)))) (qL (ct (oq yd) (cn eU (a1 (wn a (a2 xv xv)))) (cn eU (a1 xv)))))) (qG (qU ju)) qQ))))))))))))) (qG (qU ju)))
end
theorem all_mk {l:PySem.W.OpenLaw}{w:dS}{K:Fg1}{h:dZ}{mg:Str->Option dM}{fa f1 f2 f3 f4 f5 f6 f7 f8 f9 y n o f13 f14 d T k f18 u f20 I ao f23 V r au H f28 W aq U A:dP}(X:K.In h)(G:h.Ns dU mg)(hfa:mg "law"=some (.ref fa))
  (a1:eP K "is_whole" n8 f1)
  (a2:eP K "is_tuple_of" kF f2)
  (a3:eP K "stops" wz f3)
  (a4:eP K "all_unlike" lI f4)
  (a5:eP K "ways" zL f5)
  (a6:eP K "is_carried" lH f6)
  (a7:eP K "turned" tj f7)
  (a8:eP K "some_rooms" lG f8)
  (a9:eP K "in_order" og f9)
  (C:eP K "_law_hand" m5 y)
  (F:eP K "_law_take" m3 n)
  (x:eP K "_law_keeps" lN o)
  (a13:eP K "_law_walks" lJ f13)
  (a14:eP K "_law_led" oi f14)
  (i:eP K "_law_sets" m4 d)
  (S:eP K "is_below" oe T)
  (a17:eP K "led" Eu k)
  (m:eP K "is_least" oa f18)
  (D:eP K "renamed" pS u)
  (L:eP K "_law_doored" kH f20)
  (a21:eP K "_law_order" lM I)
  (E:eP K "_law_turns" lK ao)
  (g:eP K "_law_leasts" kG f23)
  (a24:eP K "is_order" n9 V)
  (a25:eP K "_law_plain_web" iS r)
  (wq:eP K "_law_cover" lO au)
  (a27:eP K "is_turn" pT H)
  (a28:eP K "_law_web" oh f28)
  (a29:eP K "turns" wy W)
  (a30:eP K "standings" mZ aq)
  (a31:eP K "_law_same" jC U)
  (b:eP K "law" tm A)
  (z:JM K BL):∃fd:d2,(∀(s:dN) (v:dM),BindsTo s fd ⟨[v],[]⟩ [("_law_script",v)]) /\ ∀base:dZ,K.In base->base.Ns dU mg->mY l.prog w K mg base uW 10 fa fd ["_law_script"] (spM K 1 m_law):=by
 have e:=hfa.symm.trans (wM1 X G b.ns);cases e;have B:Blt BL mg:=z.blt X G;obtain⟨_,⟨⟨_,_,kV,dc,pm,an,cd,ct,_,rfl,lL,cL⟩,kL⟩⟩:=b.fn;refine⟨wF1 "law" "law" (iJ tm) (fK tm) (eD tm) .none kV dc pm an cd ct,λs v=>.of_eq O,λbase _ _=>?_⟩;have o0:=tQ (P:=l.prog) (w:=w) (base:=base) X G B a1;have R:=ow (P:=l.prog) (w:=w) (base:=base) X G B a2;have o1:=Ao (P:=l.prog) (w:=w) (base:=base) X G B a3;have o9:=pF (P:=l.prog) (w:=w) (base:=base) X G B a4;have f:=C6 (P:=l.prog) (w:=w) (base:=base) X G B a5;have q:=pE (P:=l.prog) (w:=w) (base:=base) X G B a6;have o2:=yb (P:=l.prog) (w:=w) (base:=base) X G B a7;have o22:=pC (P:=l.prog) (w:=w) (base:=base) X G B a8;have o3:=tU (P:=l.prog) (w:=w) (base:=base) X G B a9;have o24:=rO (P:=l.prog) (w:=w) (base:=base) X G B C;have c:=rK (P:=l.prog) (w:=w) (base:=base) X G B F;have o5:=pJ (P:=l.prog) (w:=w) (base:=base) X G B x;have o7:=pG (P:=l.prog) (w:=w) (base:=base) X G B a13;have o6:=tW (P:=l.prog) (w:=w) (base:=base) X G B a14;have o8:=rL (P:=l.prog) (w:=w) (base:=base) X G B i;have o10:=tT X G B S o0;have j:=Gj X G B a17 o1;have o21:=tS X G B m o2;have t:=vx X G B D o3;have o12:=oy X G B L c;have a:=pI X G B a21 c;have o27:=pH X G B E o5 o6 o7;have Q:=ox X G B g o8;have o15:=tR X G B a24 o9 o10 R;have am:=lW X G B a25 o12 c;have o16:=pK X G B wq a;have o18:=vy X G B a27 q o15;have o28:=tV X G B a28 o16 am c;have p:=An X G B a29 o18 j f;have N:=rJ X G B a30 o21 o22 p;have o26:=rM (P:=l.prog) (w:=w) (base:=base) X G B a31;exact Gk (P:=l.prog) (w:=w) (base:=base) X G B (Bs lL cL kL) o24 Q a o26 o27 o28 t N
def hnd(g m c:Int):Ob:=.lst [.int g,.int m,.int c]
noncomputable def Gy(m c:Int):Int:=(m+9973*c*c+17)*69621%2305843009213693921
def AD(m c:Int):Int:=Gy m c*(Gy m c%999983+7919*c)%2305843009213693907
theorem JA{a b c:D}:uP [a,b,c] 0=Z a:=by rfl
theorem K2{a b c:D}:uP [a,b,c] 1=Z b:=by rfl
theorem K1{a b c:D}:uP [a,b,c] 2=Z c:=by rfl
theorem E8{T:d7}{g m c k:Int}(hg:0<g)(hk:0<k)(a:k<1073741824):
  eB [.ref 0,.int k] (hnd g m c::T)=Z (.int (g%k),hnd (g/k) m c::T):=by
 simp[eB,iz,ig,jW,eu,fV,mB,m2,b2,kB,mV,mC,eA,me,xg,ei,hnd,hg,hk,a,eG,gN,md,sm,gS,b3,f0,jl,k6,eX,JA,vK]
theorem E7{T:d7}{g m c k:Int}(hg:¬ 0<g)(hk:0<k)(a:k<1073741824)(hc:0<=c)(e:c<2^60):
  eB [.ref 0,.int k] (hnd g m c::T)=Z (.int ((AD m (c+1)/101+AD m (c+1)/1000003)%k),hnd g m (c+1)::T):=by
 have b:fr 9973 (c+1)=M:=t3 (by decide) (by decide);have h:fr (9973*(c+1)) (c+1)=M:=wN (by omega) (by omega);have f:fr (m+9973*(c+1)*(c+1)+17) 69621=M:=wN (by decide) (by decide);have d:fr 7919 (c+1)=M:=t3 (by decide) (by decide);have q:=Int.emod_lt_of_pos ((m+9973*(c+1)*(c+1)+17)*69621) (show(0:Int)<2305843009213693921 by decide);have j:=Int.emod_nonneg ((m+9973*(c+1)*(c+1)+17)*69621) (show(2305843009213693921:Int)≠0 by decide);have i:fr ((m+9973*(c+1)*(c+1)+17)*69621%2305843009213693921) ((m+9973*(c+1)*(c+1)+17)*69621%2305843009213693921%999983+7919*(c+1))=M:=t3 (by omega) (by omega);simp[eB,iz,ig,jW,eu,fV,mB,m2,b2,kB,mV,mC,eA,me,xg,ei,hnd,hg,hk,a,eG,gN,md,sm,gS,b3,f0,jl,k6,eX,JA,K2,K1,vK,ny,gj,mT,b,h,f,d,i,Gy,AD]
def g9(o:Ob)(n:Nat):Prop:=∃g m c:Int,o=hnd g m c/\0<=c/\c<=n
theorem g9.und{o:Ob}{n k:Nat}(h:g9 o n):o.und k=M:=by
 obtain⟨g,m,c,rfl,_⟩:=h;rfl
theorem g9.more{o:Ob}{n k:Nat}(h:g9 o n)(hk:n<=k):g9 o k:=by
 obtain⟨g,m,c,e,a,h1⟩:=h;exact⟨g,m,c,e,a,by lia⟩
theorem jw{o:Ob}{n:Nat}{k:Int}{T:d7}{Q:D×d7->Prop}(ho:g9 o n)(hn:n<=2^50)(hk:0<k)(a:k<1073741824)(h:∀(d:Nat) o',g9 o' (n+1)->(d:Int)<k->Q (.int d,o'::T)):W (ea 2 eB [.ref 0,.int k] (o::T)) Q:=by
 obtain⟨g,m,c,rfl,f,h1⟩:=ho;have call:∀d o',eB [.ref 0,.int k] (hnd g m c::T)=Z (d,o'::T)->ea 2 eB [.ref 0,.int k] (hnd g m c::T)=Z (d,o'::T):=λd o e=>yK e O (by simp[D.unds,D.und]) (by simp);by_cases i:0<g
 ·have b:=Int.emod_nonneg g (show k≠0 by lia);obtain⟨d,e⟩:=Int.eq_ofNat_of_zero_le b;refine⟨_,call _ _ (E8 i hk a),?_⟩;rw[e];exact h d _ ⟨_,_,_,O,f,by lia⟩ (by rw[<- e];exact Int.emod_lt_of_pos _ hk)
 ·have b:=Int.emod_nonneg (AD m (c+1)/101+AD m (c+1)/1000003) (show k≠0 by lia);obtain⟨d,e⟩:=Int.eq_ofNat_of_zero_le b;refine⟨_,call _ _ (E7 i hk a f (by lia)),?_⟩;rw[e];exact h d _ ⟨_,_,_,O,by lia,by push_cast;lia⟩ (by rw[<- e];exact Int.emod_lt_of_pos _ hk)
theorem DX(ns:List Int)(k:Int)(l:0<=k)(hk:k<63):∃o,ea 2 fP [.rol (ns.map D.int),.int k] []=Z (.ref 0,[o])/\g9 o 0:=by
 have i:∃g m,fP [.rol (ns.map D.int),.int k] []=Z (.ref 0,[hnd g m 0]):=by
  have j:fr (10^60) (10^30)=M:=by decide+kernel
  have d:fr 7919 k=M:=t3 (by decide) (by decide);have a:fr 0 0=M:=t3 (by decide) (by decide);have f:∀(x:Int) (b:Prop) [Decidable b],fr x (if b then 1 else 0)=M:=λx b _=>by
   split
   ·exact wN (by decide) (by decide)
   ·exact wN (by decide) (by decide)
  have lt:gLt (.int k) (.int ns.length) []=Z (.bl (decide (k<ns.length)),[]):=by rfl
  by_cases h:k<ns.length
  ·have c:uP (ns.map D.int) k=some (.int (ns[k.toNat]'(by lia))):=by
    unfold uP vK;rw[ak l,ak (by simpa using h)];simp[show k.toNat<ns.length by lia]
   generalize p:ns[k.toNat]'(by lia)=x at c
   simp[fP,iz,ig,jX,eu,fV,mB,m2,b2,b1,mN,d5,d6,kB,mV,mC,eA,me,xg,eR,ei,eG,gN,md,mT,gj,vP,ut,eX,hM,lt,h,c,d,f,dW,hnd,ny];simp[show fr 1000000000000000000000000000000000000000000000000000000000000 1000000000000000000000000000000=M from j,a,d,f]
  ·simp[fP,iz,ig,jX,eu,fV,mB,m2,b2,b1,mN,d5,d6,kB,mV,mC,eA,me,xg,eR,ei,eG,gN,md,mT,gj,vP,ut,eX,hM,lt,h,d,f,dW,hnd,ny];simp[show fr 1000000000000000000000000000000000000000000000000000000000000 1000000000000000000000000000000=M from j,a,d,f]
 obtain⟨g,m,e⟩:=i;refine⟨hnd g m 0,?_,_,_,_,O,Int.le_refl _,Int.le_refl _⟩;rw[uL (n:=2) e O (by rw[D.unds,D.und,mE];rfl) (by simp[D.und])];simp[D.sh,Ob.sh,D.shs,hnd]
abbrev jp:=List (List Nat)
structure WN (t m:Nat)(T:d7)(E:jp)(U:d7):Prop where
 tl:T.length=t
 low:U.take t=T
 el:E.length=m
 row:∀(i:Nat) (row:List Nat),E[i]?=some row->U[t+i]?=some (.lst (et row))
 ends:U[t+m]?=some (.lst (kw (t+1) m))
 cl:∀o∈U,o.und (U.length+1)=true
theorem ED{n:Nat}{xs:List Nat}:(Ob.lst (et xs)).und n=M:=iO (fv xs)
theorem WN.app{t m:Nat}{T:d7}{E:jp}{U G:d7}(w:WN t m T E U)(c:∀o∈G,o.und 0=M):WN t m T E (U++G):=by
 have d:t+m<U.length:=(Px w.ends).1;refine⟨w.tl,?_,w.el,λi b h=>?_,?_,λo a=>?_⟩
 ·rw[List.take_append_of_le_length (by lia)];exact w.low
 ·have:=w.row i b h;rw[gL1 (Px this).1];exact this
 ·rw[gL1 d];exact w.ends
 ·rcases aG.mp a with a|a
  ·exact iT (by rw[lA1];lia) (w.cl o a)
  ·exact iT (bj _) (c o a)
theorem WN.setRow{t m i:Nat}{T:d7}{E:jp}{U:d7}{row:List Nat}(w:WN t m T E U)(hi:i<m):WN t m T (E.set i row) (U.set (t+i) (.lst (et row))):=by
 have b:t+m<U.length:=(Px w.ends).1;refine⟨w.tl,?_,by rw[aY];exact w.el,λj r h=>?_,?_,λo a=>?_⟩
 ·rw[List.take_set_of_le (by lia)];exact w.low
 ·by_cases e:i=j
  ·subst e;rw[aJ (by rw[w.el];exact hi)]at h;cases h;rw[aJ (by lia)]
  ·rw[gS1 e]at h;rw[gS1 (by lia)];exact w.row j r h
 ·rw[gS1 (by lia)];exact w.ends
 ·rw[aY];rcases List.mem_or_eq_of_mem_set a with a|rfl
  ·exact w.cl o a
  ·exact ED
theorem WN.split{t m:Nat}{T:d7}{E:jp}{U:d7}(w:WN t m T E U):U=T++U.drop t:=by
 conv=>lhs;rw[<- cF t U,w.low]
theorem pV:∀(k n:Nat),kw n (k+1)=kw n k++[.ref (n+k)]
 |0,n=>rfl
 |k+1,n=>by
  rw[kw,pV k (n+1),kw,bm,show n+1+k=n+(k+1) by lia]
theorem tE:∀(k n N:Nat),n+k<=N->D.unds N (kw n k)=M
 |0,_,_,_=>rfl
 |k+1,n,N,h=>by
  rw[kw,D.unds,tE k (n+1) N (by lia),D.und,bP,al];lia
theorem zb{t m:Nat}{T:d7}(tl:T.length=t)(b:T.all (Ob.und (T.length+1))=M):WN t m T (aR m []) (T++(aR m (.lst [])++[.lst (kw (t+1) m)])):=by
 refine⟨tl,by rw[<- tl,db],by simp,λi c h=>?_,?_,λo a=>?_⟩
 ·have hi:i<m:=by have:=(Px h).1;simpa using this
  rw[aU,ak hi]at h;cases h;rw[<- tl,fJ,gL1 (by simpa using hi),aU,ak hi];rfl
 ·rw[<- tl,fJ,gR1 (by simp)];simp
 ·rw[aG,aG,bG,cA]at a;rcases a with a|⟨_,rfl⟩|rfl
  ·exact iT (by rw[lA1];lia) (bD.mp b o a)
  ·rfl
  ·rw[Ob.und];exact tE _ _ _ (by simp;lia)
theorem nT{t m i:Nat}{T:d7}{E:jp}{U:d7}{o:Ob}{Q:D×d7->Prop}(w:WN t m T E U)(hi:i<m)(q:Q (.ref (t+i+1),o::U)):W (eA (.ref (t+m+1)) (.int i) (o::U)) Q:=
 nt (xs:=kw (t+1) m) (x:=.ref (t+i+1)) (by rw[gC1];exact w.ends) (by rw[rp hi];congr 2;lia) q
theorem oS{v k:Nat}:∀{E:jp} {i:Nat} {row:List Nat},E[i]?=Z row->(E.set i (row++[k])).flatten.count v=E.flatten.count v+if k=v then 1 else 0
 |[],i,row,h=>by simp at h
 |r::E,0,row,h=>by
  rw[dk]at h;cases h;simp only[c5,c7,List.count_append,List.count_cons,List.count_nil,Pn];lia
 |r::E,i+1,row,h=>by
  rw[gC1]at h;simp only[c8,c7,List.count_append,oS h];lia
theorem oR{k:Nat}:∀{E:jp} {i:Nat} {row:List Nat},E[i]?=Z row->(E.set i (row++[k])).flatten.length=E.flatten.length+1
 |[],i,row,h=>by simp at h
 |r::E,0,row,h=>by
  rw[dk]at h;cases h;simp only[c5,c7,lA1,lC1,bg];lia
 |r::E,i+1,row,h=>by
  rw[gC1]at h;simp only[c8,c7,lA1,oR h];lia
theorem xh:∀{E:jp} {k:Nat},k<=E.length->(∀(i:Nat) (row:List Nat),i<k->E[i]?=Z row->4<=row.length)->4*k<=E.flatten.length
 |E,0,_,_=>by lia
 |[],k+1,h,_=>by simp at h
 |r::E,k+1,h,a=>by
  have h1:=a 0 r (by lia) O;have h2:=xh (E:=E) (k:=k) (by simpa using h) λi row hi b=>a (i+1) row (by lia) b;rw[c7,lA1];lia
structure WE (m:Nat)(E:jp)(k i:Nat):Prop where
 len:E.length=m
 le:∀(i:Nat) (row:List Nat),E[i]?=some row->row.length<=4
 fl:E.flatten.length=2*k
 ct:∀v,E.flatten.count v=if v<k then 2 else 0
 jn:∀j,1<=j->j<=i -> ∃a ra rb v,a<j/\E[a]?=some ra/\E[j]?=some rb/\v∈ra/\v∈rb
theorem ze(m:Nat):WE m (aR m []) 0 0:=by
 have e:(aR m ([]:List Nat)).flatten=[]:=by
  rw[List.flatten_eq_nil_iff];intro l a;exact(bG.mp a).2
 refine⟨by simp,λi b h=>?_,by rw[e];rfl,λv=>by rw[e,aj (by lia)];rfl,λj h1 h2=>by lia⟩;rw[aU]at h;split at h
 ·cases h;simp
 ·cases h
theorem lF{E:jp}{i k:Nat}{row:List Nat}(h:E[i]?=Z row){j:Nat}{r:List Nat}(b:E[j]?=Z r):∃r',(E.set i (row++[k]))[j]?=Z r' /\ ∀x∈r,x∈r':=by
 by_cases z:i=j
 ·subst z;rw[h]at b;cases b;exact⟨_,aJ (Px h).1,λx a=>aH _ a⟩
 ·exact⟨r,by rw[gS1 z];exact b,λx a=>a⟩
theorem WE.tie{m a b k i i':Nat}{E:jp}{ra e:List Nat}(w:WE m E k i)(ha:E[a]? = some ra)(am:ra.length<4)(hb:(E.set a (ra++[k]))[b]? = some e)(K:e.length<4)(hi:i'<=i\/(i'=i+1/\b<a/\a=i')):
  WE m ((E.set a (ra++[k])).set b (e++[k])) (k+1) i':=by
 have a1:(E.set a (ra++[k]))[a]?=Z (ra++[k]):=aJ (Px ha).1;refine⟨by rw[aY,aY];exact w.len,λj g d=>?_,?_,λv=>?_,λj h1 h2=>?_⟩
 ·by_cases z:b=j
  ·subst z;rw[aJ (Px hb).1]at d;cases d;rw[lA1,a0];lia
  ·rw[gS1 z]at d;by_cases u:a=j
   ·subst u;rw[a1]at d;cases d;rw[lA1,a0];lia
   ·rw[gS1 u]at d;exact w.le j g d
 ·rw[oR hb,oR ha,w.fl];lia
 ·rw[oS hb,oS ha,w.ct v];split<;>split<;>split<;>lia
 ·rcases(show j<=i\/(j=a/\b<a) by lia)with s|⟨rfl,t⟩
  ·obtain⟨c,D,B,v,G,y,H,C,A⟩:=w.jn j h1 s;obtain⟨I,x,F⟩:=lF (k:=k) ha y;obtain⟨n,o,l⟩:=lF (k:=k) hb x;obtain⟨r2,h,f⟩:=lF (k:=k) ha H;obtain⟨p,r,q⟩:=lF (k:=k) hb h;exact⟨c,n,p,v,G,o,r,l _ (F _ C),q _ (f _ A)⟩
  ·obtain⟨r2,h,f⟩:=lF (k:=k) hb a1;exact⟨b,e++[k],r2,k,t,aJ (Px hb).1,h,by simp,f _ (by simp)⟩
theorem Es{t m a b k:Nat}{T:d7}{E:jp}{U:d7}{o:Ob}{ra:List Nat}{r:Ev}{f g:FE}{Q:Fl×Ev×d7->Prop}(w:WN t m T E U)(ha:a<m)(hb:b<m)(s:E[a]? = some ra)(H:ra.length<100)(A:∀ rb,E[b]? = some rb->rb.length<100)(hf:∀S,f r S=some (.int a,S))(hg:∀S,g r S=some (.int b,S))(F:mV 4 r=fun S=>some (.ref (t+m+1),S))(v:mV 3 r=fun S=>some (.int k,S))(h:∀rb z,(E.set a (ra++[k]))[b]?=some rb->WN t m T ((E.set a (ra++[k])).set b (rb++[k])) z->Q (.nx,r.set 3 (some (.int ((k+1:Nat):Int))),o::z)):
  W (eu (fQ (nz (b2 iC) (m2 (b2 eA) (mV 4) f) (d5 (mV 3) d6))) (eu (fQ (nz (b2 iC) (m2 (b2 eA) (mV 4) g) (d5 (mV 3) d6))) (eG (m2 (b2 gj) (mV 3) (mC (D.int (1)))) (gN 3))) r (o::U)) Q:=by
 have ap:∀(xs:List Nat),et xs++[D.int (k:Int)]=et (xs++[k]):=λxs=>by simp[et]
 have j:∀ {x:Nat} {d:List Nat} {E:jp} {U:d7} {e:FE} {P:Fl×Ev×d7->Prop} (w:WN t m T E U),x<m->E[x]? = some d->d.length<200->(∀ S,e r S=some (.int x,S))->P (.nx,r,o::U.set (t+x) (.lst (et (d++[k])))) ->
   W (fQ (nz (b2 iC) (m2 (b2 eA) (mV 4) e) (d5 (mV 3) d6)) r (o::U)) P:=by
  intro x d E U e P w C l G B q;have y:(o::U)[t+x+1]?=Z (.lst (et d)):=by rw[gC1];exact w.row x d l
  unfold fQ;rw[d9];refine iK ?_;unfold m2;rw[F];simp only[oS1,B,b2];refine nT w C ?_;refine⟨t+x+1,et d,O,y,?_⟩;unfold d5 d6;rw[v];simp only[oS1,oP1];rw[ez];refine(kW y).mpr ⟨ed (by rw[eY];lia),?_⟩;rw[ap,c8];exact ez.mpr q
 have p:=w.setRow (row:=ra++[k]) ha;obtain⟨rb,c⟩:∃rb,(E.set a (ra++[k]))[b]?=some rb:=⟨_,gG1 (by rw[p.el];exact hb)⟩;have u:rb.length<200:=by
  by_cases e:a=b
  ·subst e;rw[aJ (by rw[w.el];exact ha)]at c;cases c;rw[lA1,a0];lia
  ·rw[gS1 e]at c;have:=A rb c;lia
 refine eV (λn S=>n=r/\S=o::U.set (t+a) (.lst (et (ra++[k])))) (j w ha s (by lia) hf ⟨O,O,O⟩) ?_;rintro n S ⟨rfl,rfl⟩;refine eV (λi S=>i=n/\S=o::(U.set (t+a) (.lst (et (ra++[k])))).set (t+b) (.lst (et (rb++[k])))) (j p hb c u hg ⟨O,O,O⟩) ?_;rintro i S ⟨rfl,rfl⟩;unfold eG m2 mC gN;rw[v];simp only[oS1,b2];rw[d9,BY];exact ez.mpr (h rb _ c (p.setRow hb))
theorem E6{t m i n:Nat}{T U:d7}{E:jp}{o:Ob}{P x6 x7 N au:Option D}{Q:Fl×Ev×d7->Prop}(w:WN t m T E U)(v:WE m E i i)(ho:g9 o n)(hn:n<=2^44)(hi:i+1<m)(hm:m<=8)(he:∀j row,i+1<=j->E[j]?=some row->row=[])(h:∀E' o' U' X aq,WN t m T E' U'->WE m E' (i+1) (i+1)->g9 o' (n+1)->(∀j row,i+2<=j->E'[j]?=some row->row=[]) ->
   Q (.nx,[Z (.ref 0),P,Z (.int m),Z (.int ((i+1:Nat):Int)),Z (.ref (t+m+1)),Z (.int ((i+1:Nat):Int)),X,aq,N,au],o'::U')):
  W (gr [Z (.ref 0),P,Z (.int m),Z (.int (i:Nat)),Z (.ref (t+m+1)),Z (.int ((i+1:Nat):Int)),x6,x7,N,au] (o::U)) Q:=by
 have e:∀j,j<m -> ∃row,E[j]?=Z row:=λj g=>⟨_,gG1 (by rw[v.len];exact g)⟩
 let k:Nat->Bool:=λj=>decide ((E.getD j []).length<4)
 unfold gr;have y:(af (i+1)).filter k≠[]:=by
  intro z;have A:∀j row,j<i+1->E[j]?=Z row->4<=row.length:=λj row g hr=>by
   have:=List.filter_eq_nil_iff.mp z j (aB.mpr g);simp only[k,bM,hr,b9,al]at this;lia
  have:=xh (E:=E) (k:=i+1) (by rw[v.len];lia) A;have:=v.fl;lia
 generalize R:(af (i+1)).filter k=L at y;have V:∀j∈L,j<i+1/\k j=M:=λj g=>by
  rw[<- R,aA]at g;exact⟨aB.mp g.1,g.2⟩
 have hLl:L.length<=8:=by
  rw[<- R];have:=dr k (af (i+1));simp at this;lia
 refine eV (λr S=>r=[Z (.ref 0),P,Z (.int m),Z (.int (i:Nat)),Z (.ref (t+m+1)),Z (.int ((i+1:Nat):Int)),Z (.ref (U.length+1)),x7,N,au]/\S=o::(U++[.lst (et L)])) ?_ ?_
 ·walk_at"w";rw[jj,NF];refine⟨eW (by lia),?_⟩;refine su k (λj:Nat=>.int j) (λr=>∃x,r=[x,Z (.ref (t+m+1))]) O (af (i+1)) _ ⟨_,O⟩ ?_ ?_
  ·rintro j g r ⟨x,rfl⟩;have s:j<m:=by have:=aB.mp g;lia
   obtain⟨row,c⟩:=e j s;walk_at"w";refine nT w s ?_;walk_at"w";refine eF (xs:=et row) (by rw[gC1];exact w.row j row c) ?_;walk_at"w";refine⟨?_,⟨_,O⟩,λ_=>trivial⟩;simp only[k,bM,c,b9,eY];rw[bT,al,al];lia
  ·rintro r' _;walk_at"w";rw[R];exact⟨ed (by rw[lM1];lia),O⟩
 rintro r S ⟨rfl,rfl⟩;have hL0:0<L.length:=c9.mpr y;have gL:∀o:Ob,(o::(U++[Ob.lst (et L)]))[U.length+1]?=Z (.lst (et L)):=λo=>by rw[gC1,ee];rfl
 refine eV (λr S=>∃j u,j<i+1/\k j=M/\g9 u (n+1)/\r=[Z (.ref 0),P,Z (.int m),Z (.int (i:Nat)),Z (.ref (t+m+1)),Z (.int ((i+1:Nat):Int)),Z (.ref (U.length+1)),Z (.int (j:Nat)),N,au]/\S=u::(U++[.lst (et L)])) ?_ ?_
 ·walk_at"w";refine eF (gL _) ?_;walk_at"w";rw[eY];refine jw ho (by lia) (by lia) (by lia) λd u q hd=>?_;have C:d<L.length:=by lia
  refine nt (i:=d) (xs:=et L) (x:=.int (L[d]:Nat)) (gL _) (by rw[et,gP1,gG1 C];rfl) ?_;obtain⟨H,l⟩:=V L[d] (bV C);exact⟨L[d],u,H,l,q,O,O⟩
 rintro r S ⟨j,u,H,l,q,rfl,rfl⟩;obtain⟨row,c⟩:=e j (by lia);have wq:row.length<4:=by
  simp only[k,bM,c,b9,al]at l;exact l
 obtain⟨ao,p⟩:=e (i+1) hi;have B:=he (i+1) ao (nR1 _) p;subst B;have w':=w.app (G:=[Ob.lst (et L)]) λo ho=>by rw[cA]at ho;subst ho;exact ED
 refine Es (a:=i+1) (b:=j) (ra:=[]) w' hi (by lia) p (by simp) (λao hb=>by rw[c]at hb;cases hb;lia) (λ_=>rfl) (λ_=>rfl) O O λao U2 f w2=>?_;have I:i+1≠j:=by lia
 have am:ao=row:=by
  rw[gS1 I,c]at f;cases f;rfl
 subst am;refine h _ u U2 _ _ w2 (v.tie p (by simp) f wq (.inr ⟨O,by lia,O⟩)) q λj' F s K=>?_;rw[gS1 (by lia),gS1 (by lia)]at K;exact he j' F (by lia) K
theorem Gx{t m n k i:Nat}{T U:d7}{E:jp}{o:Ob}{K L F x7 H x9:Option D}{Q:Fl×Ev×d7->Prop}(w:WN t m T E U)(v:WE m E k i)(ho:g9 o n)(hn:n<=2^44)(hm0:0<m)(hm:m<=8)(h:∀E' k' o' U' V R,WN t m T E' U'->WE m E' k' i->g9 o' (n+2) ->
   Q (.nx,[Z (.ref 0),K,Z (.int m),Z (.int (k':Nat)),Z (.ref (t+m+1)),L,F,V,H,R],o'::U')):
  W (gp [Z (.ref 0),K,Z (.int m),Z (.int (k:Nat)),Z (.ref (t+m+1)),L,F,x7,H,x9] (o::U)) Q:=by
 have l:∀j,j<m -> ∃row,E[j]?=Z row:=λj hj=>⟨_,gG1 (by rw[v.len];exact hj)⟩;unfold gp;refine eV (λr S=>∃a b g,a<m/\b<m/\g9 g (n+2)/\r=[Z (.ref 0),K,Z (.int m),Z (.int (k:Nat)),Z (.ref (t+m+1)),L,F,Z (.int (b:Nat)),H,Z (.int (a:Nat))]/\S=g::U) ?_ ?_
 ·walk_at"w";refine jw ho (by lia) (by lia) (by lia) λa o1 wq G=>?_;walk_at"w";refine jw wq (by lia) (by lia) (by lia) λb g q au=>?_;walk_at"w";exact⟨a,b,g,by lia,by lia,q,O,O⟩
 rintro r S ⟨a,b,g,G,au,q,rfl,rfl⟩;obtain⟨P,A⟩:=l a G;obtain⟨N,s⟩:=l b au;have C:Q (.nx,[Z (.ref 0),K,Z (.int m),Z (.int (k:Nat)),Z (.ref (t+m+1)),L,F,Z (.int (b:Nat)),H,Z (.int (a:Nat))],g::U):=
  h E k g U _ _ w v q
 unfold fV;rw[d9];have am:W (rW (mB (m2 (b2 gLt) (m2 (b2 gj) (mN (b1 eR) (d5 (m2 (b2 eA) (mV 4) (mV 9)) d6)) (mN (b1 ut) (d5 (m2 (b2 gEq) (mV 9) (mV 7)) d6))) (mC (D.int (4))))) (mB (m2 (b2 gLt) (mN (b1 eR) (d5 (m2 (b2 eA) (mV 4) (mV 7)) d6)) (mC (D.int (4))))) [Z (.ref 0),K,Z (.int m),Z (.int (k:Nat)),Z (.ref (t+m+1)),L,F,Z (.int (b:Nat)),H,Z (.int (a:Nat))] (g::U)) λp=>p.2=g::U/\(p.1=M->P.length+(if a=b then 1 else 0)<4/\N.length<4):=by
  walk_at"w";refine nT w G ?_;walk_at"w";refine eF (xs:=et P) (by rw[gC1];exact w.row a P A) ?_;walk_at"w";rw[eY];have e1:((a:Int) == (b:Int))=decide (a=b):=by
   rw[bT,Pn,al];lia
  rw[e1];have rest:W (eA (D.ref (t+m+1)) (D.int (b:Int)) (g::U)) λx=>W (eR x.fst x.snd) λx=>W (gLt x.fst (D.int 4) x.snd) λx=>W (match x.fst with|D.bl b=>some (b,x.snd)|x=>none) λp=>p.snd=g::U/\(p.fst=true->N.length<4):=by
   refine nT w au ?_;walk_at"w";refine eF (xs:=et N) (by rw[gC1];exact w.row b N s) ?_;walk_at"w";rw[eY];intro hlb;rw[al]at hlb;lia
  by_cases f:a=b
  ·rw[ah f];walk_at"w";split
   ·rename_i u;rw[al]at u;refine rest.mono λx X=>X.mono λy aq=>aq.mono λz hz=>hz.mono λp B=>⟨B.1,λe=>⟨by first|lia|(rw[ak f];lia),B.2 e⟩⟩
   ·first|(intro z;cases z;done)|(refine⟨_,rfl,?_,λz=>?_⟩<;>first|rfl|cases z)|walk_at"w"
  ·rw[ai f];walk_at"w";split
   ·rename_i u;rw[al]at u;refine rest.mono λx X=>X.mono λy aq=>aq.mono λz hz=>hz.mono λp B=>⟨B.1,λe=>⟨by first|lia|(rw[aj f];lia),B.2 e⟩⟩
   ·first|(intro z;cases z;done)|(refine⟨_,rfl,?_,λz=>?_⟩<;>first|rfl|cases z)|walk_at"w"
 obtain⟨⟨c,S1⟩,ec,hS,hc⟩:=am;dsimp only at hS hc;subst hS;refine⟨_,ec,?_⟩;dsimp only;cases c with
 |false=>rw[aj (by decide)];exact ez.mpr C
 |true=>
  rw[ak O];obtain⟨h1,h2⟩:=hc O;refine Es (a:=a) (b:=b) w G au A (by lia) (λao I=>by rw[s]at I;cases I;lia) (λ_=>rfl) (λ_=>rfl) O O λao U2 d w2=>?_;have hl:ao.length<4:=by
   by_cases f:a=b
   ·subst f;rw[aJ (by rw[v.len];exact G)]at d;cases d;rw[ak O]at h1;rw[lA1,a0];lia
   ·rw[gS1 f,s]at d;cases d;exact h2
  exact h _ (k+1) g U2 _ _ w2 (v.tie A (by lia) d hl (.inl (nR1 _))) q
abbrev Pl:=List ((Nat×Nat)×Nat)
noncomputable def ik(i:Nat)(row:List Nat):Pl:=row.zipIdx.map λp=>((i,p.2),p.1)
def fB:Nat->jp->Pl
 |_,[]=>[]
 |i,row::R=>ik i row++fB (i+1) R
noncomputable def ps(A:Pl)(v:Nat):List (Nat×Nat):=(A.filter λx=>x.2 == v).map (·.1)
theorem zX{i j v:Nat}{row:List Nat}(h:row[j]?=Z v):ik i (row.take (j+1))=ik i (row.take j)++[((i,j),v)]:=by
 have a:=(Px h).1;unfold ik;rw[cv,h,Option.toList_some,List.zipIdx_append,cx];simp;lia
theorem mW:∀{R:jp} {i k:Nat} {row:List Nat},R[i]?=Z row->fB k (R.take (i+1))=fB k (R.take i)++ik (k+i) row
 |[],i,k,row,h=>by simp at h
 |r::R,0,k,row,h=>by
  rw[dk]at h;cases h;simp[fB]
 |r::R,i+1,k,row,h=>by
  rw[gC1]at h;rw[cJ,cJ,fB,fB,mW h,bJ,show k+1+i=k+(i+1) by lia]
theorem wO{i:Nat}{row:List Nat}{x:(Nat×Nat)×Nat}:x∈ik i row↔x.1.1=i/\row[x.1.2]?=Z x.2:=by
 obtain⟨⟨a,b⟩,c⟩:=x;unfold ik;rw[cg];constructor
 ·rintro⟨⟨v,j⟩,h,e⟩;cases e;exact⟨O,dj.mp h⟩
 ·rintro⟨rfl,h⟩;exact⟨(c,b),dj.mpr h,O⟩
theorem oB:∀{R:jp} {k:Nat} {x:(Nat×Nat)×Nat},x∈fB k R ↔ ∃i a,x.1.1=k+i/\R[i]?=Z a/\a[x.1.2]?=Z x.2
 |[],k,x=>by simp[fB]
 |r::R,k,x=>by
  rw[fB,aG,wO,oB (R:=R)];constructor
  ·rintro(⟨h1,h2⟩|⟨i,a,h1,h2,b⟩)
   ·exact⟨0,r,by lia,O,h2⟩
   ·exact⟨i+1,a,by lia,h2,b⟩
  ·rintro⟨i,a,h1,h2,b⟩;cases i with
   |zero=>cases h2;exact .inl ⟨by lia,b⟩
   |succ i=>exact .inr ⟨i,a,by lia,h2,b⟩
theorem CP{i:Nat}{row:List Nat}:(ik i row).map (·.2)=row:=by
 unfold ik;rw[bv];exact List.zipIdx_map_fst 0 row
theorem uu:∀{R:jp} {k:Nat},(fB k R).map (·.2)=R.flatten
 |[],_=>rfl
 |r::R,k=>by rw[fB,cx,CP,uu (R:=R),c7]
theorem FU{i:Nat}{row:List Nat}:((ik i row).map (·.1)).Nodup:=by
 unfold ik;rw[bv];have e:(row.zipIdx.map ((λx:(Nat×Nat)×Nat=>x.1)∘λp=>((i,p.2),p.1)))=(row.zipIdx.map (·.2)).map λj=>(i,j):=by rw[bv];rfl
 rw[e,List.zipIdx_map_snd,<- List.range_eq_range'];exact dt.mpr (List.nodup_range.imp λh z=>h (Prod.mk.inj z).2)
theorem ss:∀{R:jp} {k:Nat},((fB k R).map (·.1)).Nodup
 |[],_=>bp
 |r::R,k=>by
  rw[fB,cx,bB];refine⟨FU,ss,λa g b h e=>?_⟩;obtain⟨x,d,rfl⟩:=PB g;obtain⟨y,f,rfl⟩:=PB h;have h1:=(wO.mp d).1;obtain⟨i,c,h2,_⟩:=oB.mp f;rw[e]at h1;lia
theorem FM{A:Pl}{v:Nat}:(ps A v).length=(A.map (·.2)).count v:=by
 unfold ps;rw[lM1,List.count,List.countP_map,List.countP_eq_length_filter];rfl
theorem nM{A:Pl}{p:Nat×Nat}{v u:Nat}:ps (A++[(p,v)]) u=if v=u then ps A u++[p]else ps A u:=by
 unfold ps;rw[dw,cx];by_cases h:v=u
 ·simp[h]
 ·simp[h]
theorem GD{A:Pl}{p:Nat×Nat}{v:Nat}:p∈ps A v↔(p,v)∈A:=by
 unfold ps;rw[cg];constructor
 ·rintro⟨⟨q,u⟩,h,e⟩;obtain⟨h1,h2⟩:=aA.mp h;have h2:u=v:=by simpa using h2
  cases e;cases h2;exact h1
 ·intro h;exact⟨(p,v),aA.mpr ⟨h,by simp⟩,O⟩
theorem Iq{A:Pl}{v:Nat}(h:(A.map (·.1)).Nodup):(ps A v).Nodup:=h.sublist (List.filter_sublist.map _)
structure PL (b:Nat)(A:Pl)(kv:List (Key×D))(H:d7):Prop where
 no:∀v:Nat,ps A v=[]->eg kv (Sum.inl (v:Int))=none
 yes:∀v:Nat,ps A v≠[] -> ∃h,eg kv (Sum.inl (v:Int))=some (.ref (b+h))/\H[h]?=some (.lst ((ps A v).map pD))
 inj:∀v u h:Nat,eg kv (Sum.inl (v:Int))=some (.ref (b+h))->eg kv (Sum.inl (u:Int))=some (.ref (b+h))->v=u
 few:kv.length<=A.length
theorem oN{v u:Nat}(h:v≠u):(Sum.inl (v:Int):Key)≠Sum.inl (u:Int):=λe=>h (by injection e with e;lia)
theorem PL.old{b v h:Nat}{A:Pl}{kv:List (Key×D)}{H:d7}{p:Nat×Nat}(P:PL b A kv H)(hv:ps A v≠[])(e:eg kv (Sum.inl (v:Int))=some (.ref (b+h)))(g:H[h]? = some (.lst ((ps A v).map pD))):
  PL b (A++[(p,v)]) kv ((H++[Ob.lst []]).set h (.lst ((ps A v).map pD++[pD p]))):=by
 have i:=(Px g).1;refine⟨λu a=>?_,λu a=>?_,P.inj,by rw[lA1];have:=P.few;lia⟩
 ·rw[nM]at a;split at a
  ·simp at a
  ·exact P.no u a
 ·rw[nM]at a ⊢;by_cases c:v=u
  ·subst c;rw[ak O,cx];exact⟨h,e,aJ (by rw[lA1];lia)⟩
  ·rw[aj c]at a ⊢;obtain⟨h',d,f⟩:=P.yes u a;refine⟨h',d,?_⟩;rw[gS1 (λz=>c (P.inj v u h e (by rw[z];exact d))),gL1 (Px f).1];exact f
theorem PL.new{b v:Nat}{A:Pl}{kv:List (Key×D)}{H:d7}{p:Nat×Nat}(P:PL b A kv H)(hv:ps A v=[]):
  PL b (A++[(p,v)]) (fT kv (Sum.inl (v:Int)) (.ref (b+H.length))) (H++[.lst [pD p]]):=by
 refine⟨λu f=>?_,λu f=>?_,λu j h d c=>?_,by rw[lA1,a0];have:=P.few;have:=rq (k:=(Sum.inl (v:Int):Key)) (v:=D.ref (b+H.length)) (a:=kv);lia⟩
 ·rw[nM]at f;split at f
  ·simp at f
  ·rename_i l;rw[fE,aj (oN (ML l))];exact P.no u f
 ·rw[nM]at f ⊢;by_cases g:v=u
  ·subst g;rw[ak O,hv,fE,ak O];exact⟨H.length,O,by rw[gR1 (nR1 _),cZ];rfl⟩
  ·rw[aj g]at f ⊢;obtain⟨h',d,c⟩:=P.yes u f;refine⟨h',by rw[fE,aj (oN (ML g))];exact d,?_⟩;rw[gL1 (Px c).1];exact c
 ·have old:∀ w:Nat,w≠v->eg kv (Sum.inl (w:Int))=some (.ref (b+h))->h<H.length:=fun w o e=>by
   by_cases m:ps A w=[]
   ·rw[P.no w m]at e;cases e
   ·obtain⟨h',i,n⟩:=P.yes w m;rw[e]at i;have:h=h':=by injection i with i;injection i with i;lia
    rw[this];exact(Px n).1
  rw[fE]at d c;by_cases h1:u=v
  ·by_cases h2:j=v
   ·rw[h1,h2]
   ·rw[ak (by rw[h1])]at d;rw[aj (oN h2)]at c;have:=old j h2 c;have:h=H.length:=by injection d with d;injection d with d;lia
    lia
  ·rw[aj (oN h1)]at d;by_cases h2:j=v
   ·rw[ak (by rw[h2])]at c;have:=old u h1 d;have:h=H.length:=by injection c with c;injection c with c;lia
    lia
   ·rw[aj (oN h2)]at c;exact P.inj u j h d c
def jF(A:Pl)(v:Nat)(e:Nat×Nat):Nat×Nat:=let l:=ps A v;if l.getD 0 (0,0)=e then l.getD 1 (0,0)else l.getD 0 (0,0)
theorem zi{A:Pl}{v:Nat}(h2:(ps A v).length=2):∃p q,ps A v=[p,q]:=by
 match hp:ps A v,h2 with
 |[p,q],_=>exact⟨p,q,O⟩
theorem wG{A:Pl}{v:Nat}{e:Nat×Nat}(nd:(A.map (·.1)).Nodup)(h2:(ps A v).length=2)(he:(e,v)∈A):(jF A v e,v)∈A/\jF A v e≠e/\jF A v (jF A v e)=e /\ ∀x,(x,v)∈A->x=e\/x=jF A v e:=by
 obtain⟨p,q,b⟩:=zi h2;have g:=Iq (v:=v) nd;rw[b]at g;have a:p≠q:=by simpa using g
 have m:∀x,(x,v)∈A↔x=p\/x=q:=λx=>by rw[<- GD,b];simp
 have d:∀x,jF A v x=if p=x then q else p:=λx=>by simp[jF,b]
 rcases(m e).mp he with rfl|rfl
 ·have f:jF A v e=q:=by rw[d,ak O]
  rw[f];exact⟨(m q).mpr (.inr O),ML a,by rw[d,aj a],λx c=>(m x).mp c⟩
 ·have f:jF A v e=p:=by rw[d,aj a]
  rw[f];exact⟨(m p).mpr (.inl O),a,by rw[d,ak O],λx c=>((m x).mp c).symm⟩
theorem sT{c:FT}{b:FS}{Q:Fl×Ev×d7->Prop}(I:Nat->Ev->d7->Prop)(N:Nat)(step:∀k r S,I k r S->W (c r S) fun p=>if p.1=true then k<N/\W (b r p.2) fun q=>q.1 = .nx/\I (k+1) q.2.1 q.2.2 else Q (.nx,r,p.2)):
  ∀(a k:Nat) (r:Ev) (S:d7),N-k<a->I k r S->W (sU c b a r S) Q
 |0,k,r,S,hf,_=>by lia
 |a+1,k,r,S,hf,hi=>by
  rw[sU];dsimp only;rw[d9];obtain⟨⟨t,n⟩,e,h⟩:=step k r S hi;refine⟨_,e,?_⟩;dsimp only at h ⊢;cases t with
  |true=>
   rw[ak O]at h ⊢;obtain⟨m,⟨f,j,i⟩,l,g,d⟩:=h;dsimp only at g d;subst g;rw[l,oS1];exact sT I N step a (k+1) j i (by lia) d
  |false=>
   rw[aj (by decide)]at h ⊢;exact ez.mpr h
theorem xG{m:FA}{r:Ev}{S:d7}{xs:List D}{n:Nat}{Q:yO×d7->Prop}(hm:m r S=Z ([.ref n],S))(hn:S[n]?=Z (.lst xs))(q:Q (⟨u4 0 xs,[(n,xs)]⟩,S)):W (oP m r S) Q:=by
 refine W.of (x:=(⟨u4 0 xs,[(n,xs)]⟩,S)) ?_ q;simp only[oP,hm,oS1,gP hn,sw hn]
theorem oT:∀{xs:List Nat} {i:Nat} (h:i<xs.length),(xs[i]::xs.eraseIdx i).Perm xs
 |x::xs,0,h=>.refl _
 |x::xs,i+1,h=>by
  rw[c6,List.getElem_cons_succ];exact(List.Perm.swap x _ _).trans ((oT (by simpa using h)).cons x)
theorem tH{xs rs row:List Nat}{i:Nat}{x:Nat}(h:(rs++xs).Perm row)(hx:xs[i]?=Z x):((rs++[x])++xs.eraseIdx i).Perm row:=by
 refine List.Perm.trans ?_ h;rw[bJ];refine Pp rs ?_;obtain⟨hi,rfl⟩:=Px hx;exact oT hi
theorem Au{xs:List Nat}{i x:Nat}(h:xs[i]?=Z x):(et xs)[i]?=Z (.int x):=by rw[et,gP1,h];rfl
theorem t0{xs:List Nat}{i:Nat}:(et xs).eraseIdx i=et (xs.eraseIdx i):=by
 rw[et,et,List.eraseIdx_eq_take_drop_succ,List.eraseIdx_eq_take_drop_succ,cx,List.map_take,List.map_drop]
theorem i9{xs:List Nat}{x:Nat}:et xs++[D.int (x:Int)]=et (xs++[x]):=by simp[et]
theorem Fk{V:d7}{o:Ob}{n:Nat}{row:List Nat}{m g s h p u i:Option D}{Q:Fl×Ev×d7->Prop}(ho:g9 o n)(hn:n<=2^44)(hr:row.length<=4)(q:∀o' rs G,g9 o' (n+4)->rs.Perm row->Q (.nx,[some (.ref 0),m,g,s,some (.ref (V.length+1)),some (.ref (V.length+2)),h,p,u,i],o'::(V ++ .lst [] :: .lst (et rs)::G))):
  W (sU hE hD 100000 [Z (.ref 0),m,g,s,Z (.ref (V.length+1)),Z (.ref (V.length+2)),h,p,u,i] (o::(V++[.lst (et row),.lst []]))) Q:=by
 refine sT (λk r S=>∃o' ls rs G,g9 o' (n+k)/\(rs++ls).Perm row/\rs.length=k/\S=o'::(V ++ .lst (et ls) :: .lst (et rs)::G)/\r=[Z (.ref 0),m,g,s,Z (.ref (V.length+1)),Z (.ref (V.length+2)),h,p,u,i]) 4 ?_ 100000 0 _ _ (by lia) ⟨o,row,[],[],ho,.refl _,O,O,O⟩;rintro k r S ⟨o',ls,rs,G,b,c,y,rfl,rfl⟩;have a:=c.length_eq;rw[lA1]at a;have f:∀(o:Ob) (X:Ob) (aq:d7),(o::(V++X::aq))[V.length+1]?=Z X:=λo X aq=>by rw[gC1,ee];rfl
 have v:∀(o:Ob) (X wq:Ob) (aq:d7),(o::(V++X::wq::aq))[V.length+2]?=Z wq:=λo X wq aq=>by rw[gC1,fJ];rfl
 refine W.of (x:=(!(et ls).isEmpty,o'::(V ++ .lst (et ls) :: .lst (et rs)::(G++[.lst []])))) ?_ ?_
 ·have e:(o'::(V++Ob.lst (et ls)::Ob.lst (et rs)::G))++[Ob.lst []]=o'::(V ++ .lst (et ls) :: .lst (et rs)::(G++[.lst []])):=by simp
  unfold hE mB m2 mV hM d6 b2;simp only[gC1,dk,dq,oP1,oS1];rw[ak (show([]:List D).length<=dW by decide),oS1,e,xa (xs:=et ls) (f _ _ _) (by rw[<- e,ee];rfl)];rfl
 dsimp only;cases ls with
 |nil=>
  rw[show(et ([]:List Nat)).isEmpty=M from rfl,aj (by decide)];rw[aP]at c;exact q o' rs _ (b.more (by simp at a;lia)) c
 |cons l ls=>
  rw[show(!(et (l::ls)).isEmpty)=M from rfl,ak O];refine⟨by rw[lC1]at a;lia,?_⟩;unfold hD;walk_at"w";refine iK ?_;walk_at"w";refine⟨V.length+2,et rs,O,v _ _ _ _,?_⟩;refine iK ?_;walk_at"w";refine⟨V.length+1,et (l::ls),O,f _ _ _,?_⟩;refine eF (f _ _ _) ?_;walk_at"w";rw[eY];rw[lC1]at a;refine jw b (by lia) (by rw[lC1];lia) (by rw[lC1];lia) λd j t z=>?_;obtain⟨x,w⟩:∃x,(l::ls)[d]?=some x:=⟨_,gG1 (by lia)⟩;walk_at"w";refine v8 (f _ _ _) (Au w) (by rw[lC1]at z;lia) ?_;have es:∀X,(j::(V++Ob.lst (et (l::ls))::Ob.lst (et rs)::(G++[Ob.lst []]))).set (V.length+1) X=j::(V++X :: .lst (et rs)::(G++[.lst []])):=λX=>by
   rw[c8,cY _ _ (nR1 _),cZ];rfl
  rw[es];walk_at"w";refine(kW (v _ _ _ _)).mpr ⟨ed (by rw[eY];lia),?_⟩;refine⟨j,(l::ls).eraseIdx d,rs++[x],G++[.lst []],t.more (by lia),tH c w,by rw[lA1,y];rfl,?_,trivial⟩;rw[c8,cY _ _ (by lia),show V.length+1-V.length=1 by lia,i9,t0];rfl
def rk(u:Nat)(ks:List Nat):List D:=ks.map λk=>D.ref (u+2+k)
structure RS (R:jp)(ks:List Nat)(G:d7):Prop where
 len:ks.length=R.length
 row:∀(j k:Nat) (row:List Nat),ks[j]?=some k->R[j]?=some row->G[k]?=some (.lst (et row))
theorem RS.app{R:jp}{ks:List Nat}{G H:d7}(r:RS R ks G):RS R ks (G++H):=
 ⟨r.len,λj k a h1 h2=>by have:=r.row j k a h1 h2;rw[gL1 (Px this).1];exact this⟩
theorem RS.snoc{R:jp}{ks:List Nat}{G:d7}{k:Nat}{row:List Nat}(r:RS R ks G)(h:G[k]?=Z (.lst (et row))):RS (R++[row]) (ks++[k]) G:=by
 refine⟨by rw[lA1,lA1,r.len];rfl,λj c a h1 h2=>?_⟩;by_cases b:j<ks.length
 ·rw[gL1 b]at h1;rw[gL1 (by rw[<- r.len];exact b)]at h2;exact r.row j c a h1 h2
 ·have:=(Px h1).1;rw[lA1,a0]at this;have e:j=ks.length:=by lia
  subst e;rw[dy]at h1;rw[r.len,dy]at h2;cases h1;cases h2;exact h
theorem EX{U G:d7}{ks:List Nat}{o:Ob}{n e i:Nat}{row:List Nat}{x y b f g c:Option D}{Q:Fl×Ev×d7->Prop}(hi:U[i]? = some (.lst (et row)))(ho:g9 o n)(hn:n<=2^44)(hr:row.length<=4)(hk:ks.length<=100)(q:∀o' rs u k l p,g9 o' (n+4)->rs.Perm row->(G++u)[k]?=some (.lst (et rs))->Q (.nx,[some (.ref 0),some (.ref e),some (.ref (U.length+1)),some (.ref (i+1)),l,p,b,f,g,c],o'::(U ++ .lst (rk U.length (ks++[k]))::(G++u)))):
  W (hC [Z (.ref 0),Z (.ref e),Z (.ref (U.length+1)),Z (.ref (i+1)),x,y,b,f,g,c] (o::(U ++ .lst (rk U.length ks)::G))) Q:=by
 generalize d:U ++ .lst (rk U.length ks)::G=V;have m:V.length=U.length+1+G.length:=by rw[<- d];simp;lia
 have s:V[i]?=Z (.lst (et row)):=by rw[<- d,gL1 (Px hi).1];exact hi
 have j:V[U.length]?=Z (.lst (rk U.length ks)):=by rw[<- d,ee];rfl
 unfold hC;refine eV (λr S=>S=o::(V++[.lst (et row),.lst []])/\r=[Z (.ref 0),Z (.ref e),Z (.ref (U.length+1)),Z (.ref (i+1)),Z (.ref (V.length+1)),Z (.ref (V.length+2)),b,f,g,c]) ?_ ?_
 ·have w:∀S:d7,S[i+1]?=Z (.lst (et row))->D4 (.ref (i+1)) S=Z (.ref S.length,S++[.lst (et row)]):=λS h=>by unfold D4;rw[gP h];rfl
  ((try walk_at"w");repeat(simp only[w (o::V) (by rw[gC1];exact s)];try walk_at"w"))
 rintro r S ⟨rfl,rfl⟩;refine eV (λr S=>∃o' rs G2,g9 o' (n+4)/\rs.Perm row/\S=o'::(V ++ .lst [] :: .lst (et rs)::G2)/\r=[Z (.ref 0),Z (.ref e),Z (.ref (U.length+1)),Z (.ref (i+1)),Z (.ref (V.length+1)),Z (.ref (V.length+2)),b,f,g,c]) ?_ ?_
 ·refine Fk ho hn hr λo' rs G2 h1 h2=>⟨O,o',rs,G2,h1,h2,O,O⟩
 rintro r S ⟨o',rs,G2,t,v,rfl,rfl⟩;have a:(o'::(V++Ob.lst []::Ob.lst (et rs)::G2))[U.length+1]?=Z (.lst (rk U.length ks)):=by
  rw[gC1,gL1 (by lia)];exact j
 walk_at"w";refine iK ?_;walk_at"w";refine⟨U.length+1,_,O,a,?_⟩;refine(kW a).mpr ⟨ed (by unfold rk;rw[lM1];lia),?_⟩;have es:(o'::(V++Ob.lst []::Ob.lst (et rs)::G2)).set (U.length+1) (.lst (rk U.length ks++[.ref (V.length+2)]))=o'::(U ++ .lst (rk U.length (ks++[G.length+1]))::(G++Ob.lst []::Ob.lst (et rs)::G2)):=by
  have z:rk U.length ks++[.ref (V.length+2)]=rk U.length (ks++[G.length+1]):=by
   unfold rk;rw[cx,m,show U.length+1+G.length+2=U.length+2+(G.length+1) by lia];rfl
  rw[z,<- d,c8,bJ,cY _ _ (nR1 _),cZ];rfl
 rw[es];exact q o' rs _ (G.length+1) _ _ t v (by rw[fJ];rfl)
theorem JH{m a b:FE}{r:Ev}{S:d7}{n v:Nat}{kv:List (Key×D)}{Q:D×d7->Prop}(hm:m r S=Z (.ref n,S))(ha:a r S=Z (.int v,S))(hb:b r S=Z (.ref S.length,S++[.lst []]))(hn:S[n]? = Z (.dct kv))(e:kv.length<1000)(h1:∀z,eg kv (Sum.inl (v:Int))=Z z->Q (z,S++[.lst []]))(h2:eg kv (Sum.inl (v:Int))=Y->Q (.ref S.length,(S++[Ob.lst []]).set n (.dct (fT kv (Sum.inl (v:Int)) (.ref S.length))))):W (oE m a b r S) Q:=by
 have c:(S++[Ob.lst []])[n]?=Z (.dct kv):=by rw[gL1 (Px hn).1];exact hn
 have d:kv.length<dW:=nL1 e (by decide);cases hk:eg kv (Sum.inl (v:Int))with
 |some z=>
  refine W.of ?_ (h1 z hk);simp only[oE,hm,oS1,hn,ha,hb,c,ky,ak d,hk]
 |none=>
  refine W.of ?_ (h2 hk);simp only[oE,hm,oS1,hn,ha,hb,c,ky,ak d,hk]
theorem CU{X H:d7}{o:Ob}{A:Pl}{kv:List (Key×D)}{i j v:Nat}{s k u m t:Option D}{Q:Fl×Ev×d7->Prop}(P:PL (X.length+2) A kv H)(G:A.length<100)(q:∀a H',PL (X.length+2) (A++[((i,j),v)]) a H'->Q (.nx,[some (.ref 0),s,k,u,m,t,some (.ref (X.length+1)),some (.int (i:Nat)),some (.int (j:Nat)),some (.int (v:Nat))],o::(X ++ .dct a::H'))):
  W (hB [Z (.ref 0),s,k,u,m,t,Z (.ref (X.length+1)),Z (.int (i:Nat)),Z (.int (j:Nat)),Z (.int (v:Nat))] (o::(X ++ .dct kv::H))) Q:=by
 have F:=P.few;have gd:∀(o:Ob) (wq:Ob) (aq:d7),(o::(X++wq::aq))[X.length+1]?=Z wq:=λo wq aq=>by rw[gC1,ee];rfl
 have B:∀(o:Ob) (wq:Ob) (aq:d7) (h:Nat),(o::(X++wq::aq))[X.length+2+h]?=aq[h]?:=λo wq aq h=>by rw[show X.length+2+h=X.length+(h+1)+1 by lia,gC1,fJ];rfl
 have E:(o::(X++Ob.dct kv::H)).length=X.length+2+H.length:=by simp;lia
 have y:(o::(X++Ob.dct kv::H))++[Ob.lst []]=o::(X ++ .dct kv::(H++[.lst []])):=by simp
 have st:∀(wq:Ob) (aq:d7) (h:Nat) (V:Ob),(o::(X++wq::aq)).set (X.length+2+h) V=o::(X++wq::aq.set h V):=λwq aq h V=>by
  rw[show X.length+2+h=X.length+(h+1)+1 by lia,c8,cY _ _ (by lia),show X.length+(h+1)-X.length=h+1 by lia];rfl
 have g:∀ (a:List (Key×D)) (H1:d7) (h:Nat) (ys:List (Nat×Nat)) (r:d7),r=o::(X ++ .dct a::H1)->H1[h]? = some (.lst (ys.map pD))->ys.length<200->PL (X.length+2) (A++[((i,j),v)]) a (H1.set h (.lst (ys.map pD++[pD (i,j)]))) ->
   ∃n xs,D.ref (X.length+2+h) = .ref n/\r[n]?=Z (.lst xs)/\W (d5 (fw (d5 (mV 7) (d5 (mV 8) d6))) d6 [Z (.ref 0),s,k,u,m,t,Z (.ref (X.length+1)),Z (.int (i:Nat)),Z (.int (j:Nat)),Z (.int (v:Nat))] r) λq=>W (b2 iC (.ref n::q.1) q.2) λp=>W (Z (Fl.nx,[Z (.ref 0),s,k,u,m,t,Z (.ref (X.length+1)),Z (.int (i:Nat)),Z (.int (j:Nat)),Z (.int (v:Nat))],p.2)) Q:=by
  rintro a H1 h ys r rfl e w C;have b:=B o (.dct a) H1 h;rw[e]at b;refine⟨X.length+2+h,_,O,b,?_⟩;walk_at"w";refine(kW b).mpr ⟨ed (by rw[lM1];lia),?_⟩;have:=q a _ C;rw[<- st]at this;exact this
 unfold hB;unfold fQ;rw[d9];refine iK ?_;refine JH (n:=X.length+1) (v:=v) (kv:=kv) O O ?_ (gd _ _ _) (by lia) (λz c=>?_) (λc=>?_)
 ·unfold hM d6;rw[oS1];rfl
 ·by_cases d:ps A v=[]
  ·rw[P.no v d]at c;cases c
  ·obtain⟨h,l,b⟩:=P.yes v d;rw[l]at c;cases c;have w:=(Px b).1;refine g kv (H++[.lst []]) h (ps A v) _ y (by rw[gL1 w];exact b) ?_ (P.old d l b);unfold ps;rw[lM1];have:=dr (λx=>x.2 == v) A;lia
 ·by_cases d:ps A v=[]
  ·have f:=P.new (p:=(i,j)) d;rw[E];refine g (fT kv (Sum.inl (v:Int)) (.ref (X.length+2+H.length))) (H++[.lst []]) H.length [] _ ?_ (by rw[gR1 (nR1 _),cZ];rfl) (by simp) ?_
   ·rw[y,c8,cY _ _ (nR1 _),cZ];rfl
   ·rw[cY _ _ (nR1 _),cZ];exact f
  ·obtain⟨h,l,b⟩:=P.yes v d;rw[l]at c;cases c
abbrev d8:=List (List (Nat×Nat))
def webD(w:d8):D:=.tup (w.map λrow=>.tup (row.map pD))
theorem eQ(w:d8):(webD w).und 0=M:=by
 unfold webD;rw[D.und];exact fj λa _=>by rw[D.und];exact fj λ_ _=>rfl
def vn(A:Pl)(i:Nat)(row:List Nat):List (Nat×Nat):=row.zipIdx.map λq=>jF A q.1 (i,q.2)
def kY(R:jp):d8:=R.zipIdx.map λp=>vn (fB 0 R) p.2 p.1
theorem qS{R:jp}{i:Nat}:(kY R)[i]?=(R[i]?).map (vn (fB 0 R) i):=by
 unfold kY;rw[gP1,dz];cases R[i]? <;> simp
structure uT (E R:jp):Prop where
 len:R.length=E.length
 row:∀(i:Nat) (r e:List Nat),R[i]?=some r->E[i]?=some e->r.Perm e
theorem uT.snoc{E R:jp}{i:Nat}{r e:List Nat}(h:uT (E.take i) R)(he:E[i]?=Z e)(p:r.Perm e):uT (E.take (i+1)) (R++[r]):=by
 have hi:=(Px he).1;have a:R.length=i:=by have:=h.len;rw[aT]at this;lia
 refine⟨by rw[lA1,aT,a,a0];lia,λj d b h1 h2=>?_⟩;by_cases c:j<i
 ·rw[gL1 (by lia)]at h1;rw[aV (by lia)]at h2;exact h.row j d b h1 (by rw[aV c];exact h2)
 ·have:=(Px h1).1;rw[lA1,a0]at this;have e:j=i:=by lia
  subst e;rw[aV (by lia),he]at h2;rw[<- a,dy]at h1;cases h1;cases h2;exact p
theorem mI:∀{E R:jp},uT E R->R.flatten.Perm E.flatten
 |[],[],_=>.refl _
 |[],_::_,h=>by have:=h.len;simp at this
 |_::_,[],h=>by have:=h.len;simp at this
 |e::E,r::R,h=>(h.row 0 r e O O).append (mI ⟨by simpa using h.len,λi a b h1 h2=>h.row (i+1) a b h1 h2⟩)
theorem vp{m k l i j a:Nat}{E R:jp}{row:List Nat}(v:WE m E k l)(sh:uT E R)(hr:R[i]?=Z row)(ha:row[j]?=Z a):(ps (fB 0 R) a).length=2:=by
 rw[FM,uu,(mI sh).count_eq,v.ct a];have b:a∈R.flatten:=List.mem_flatten.mpr ⟨row,gM1 hr,gM1 ha⟩;have:=List.count_pos_iff.mpr b;rw[(mI sh).count_eq,v.ct a]at this;split at this
 ·rename_i h;rw[ak h]
 ·lia
theorem Ex{u j k:Nat}{ks:List Nat}(h:ks[j]?=Z k):(rk u ks)[j]?=Z (.ref (u+2+k)):=by unfold rk;rw[gP1,h];rfl
theorem rn{u:Nat}{ks:List Nat}:(rk u ks).length=ks.length:=by unfold rk;rw[lM1]
theorem xf{S:d7}{n v:Nat}{F:List (Key×D)}{d:D}{Q:D×d7->Prop}(h:S[n]?=Z (.dct F))(a:eg F (Sum.inl (v:Int))=Z d)(q:Q (d,S)):W (eA (.ref n) (.int (v:Nat)) S) Q:=by
 refine W.of ?_ q;simp only[eA,me,h,ky,oS1,a,oP1]
theorem Js{a:Nat×Nat}{i j:Nat}{S:d7}:gEq (pD a) (.tup [.int i,.int j]) S=Z (.bl (a == (i,j)),S):=by
 have:=oU (S:=S) (n:=58) (a:=a) (b:=(i,j));show(hH S eL (pD a) (pD (i,j))).map _=_;unfold eL;rw[this];rfl
inductive DI (E:jp)(U:d7)(t m n:Nat):Nat->Ev->d7->Prop
 |mk (i:Nat) (R:jp) (ks:List Nat) (G:d7) (o':Ob) (x3 x4 x5:Option D) (hi:i<=m) (sh:uT (E.take i) R) (rs:RS R ks G) (ho:g9 o' (n+4*i)):DI E U t m n i [some (.ref 0),some (.ref (t+m+1)),some (.ref (U.length+1)),x3,x4,x5,none,none,none,none] (o'::(U ++ .lst (rk U.length ks)::G))
inductive DJ (R:jp)(X:d7)(o':Ob)(a b:Nat)(x3 x4:Option D)(m:Nat):Nat->Ev->d7->Prop
 |mk (i:Nat) (kv:List (Key×D)) (H:d7) (x5 x7 x8 x9:Option D) (hi:i<=m) (P:PL (X.length+2) (fB 0 (R.take i)) kv H):DJ R X o' a b x3 x4 m i [some (.ref 0),some (.ref a),some (.ref b),x3,x4,x5,some (.ref (X.length+1)),x7,x8,x9] (o'::(X ++ .dct kv::H))
inductive DK (R:jp)(X:d7)(o':Ob)(a b:Nat)(x3 x4:Option D)(x5:Nat)(i:Nat)(row:List Nat):Nat->Ev->d7->Prop
 |mk (j:Nat) (kv:List (Key×D)) (H:d7) (x8 x9:Option D) (hj:j<=row.length) (P:PL (X.length+2) (fB 0 (R.take i)++ik i (row.take j)) kv H):DK R X o' a b x3 x4 x5 i row j [some (.ref 0),some (.ref a),some (.ref b),x3,x4,some (.ref x5),some (.ref (X.length+1)),some (.int (i:Nat)),x8,x9] (o'::(X ++ .dct kv::H))
theorem By{t m n k:Nat}{T U:d7}{E:jp}{o:Ob}{Q:D×d7->Prop}(w:WN t m T E U)(v:WE m E k (m-1))(ho:g9 o n)(hn:n<=2^43)(hm:m<=8)(q:∀R o',uT E R->g9 o' (n+40)->Q (webD (kY R),o'::U)):W (ea 2 gh [.ref 0,.ref (t+m+1)] (o::U)) Q:=by
 refine xy O O (bD.mpr w.cl) ?_;unfold gh;refine lf ?_;unfold kT;have hlE:=w.el;refine eV (λr S=>S=o::(U ++ .lst (rk U.length [])::[])/\r=[Z (.ref 0),Z (.ref (t+m+1)),Z (.ref (U.length+1)),Y,Y,Y,Y,Y,Y,Y]) ?_ ?_
 ·walk_at"w";exact⟨O,trivial⟩
 rintro r S ⟨rfl,rfl⟩;refine eV (DI E U t m n m) ?_ ?_
 ·have y:∀(o:Ob) (aq:d7),(o::(U++aq))[t+m+1]?=Z (.lst (kw (t+1) m)):=λo aq=>by rw[gC1,gL1 (Px w.ends).1];exact w.ends
  walk_at"w";refine eF (y _ _) ?_;refine e9 (DI E U t m n) _ 0 _ _ (.mk 0 [] [] [] o Y Y Y (bj _) ⟨O,λi r e h=>by simp at h⟩ ⟨O,λj k row h=>by simp at h⟩ ho) ?_ ?_ ?_
  ·rintro i r S ⟨R,ks,G,o',x3,L,V,_,_,_,_⟩;exact fq (y _ _)
  ·rintro i d g r S ⟨R,ks,G,o',x3,L,V,hi,sh,rs,C⟩;have c:=(Px g).1;dsimp only at c g;rw[lT]at c;rw[bQ]at *
   rw[rp c]at g;cases g;obtain⟨row,b⟩:∃row,E[i]?=some row:=⟨_,gG1 (by lia)⟩;have hks:ks.length=i:=by rw[rs.len,sh.len,aT];lia
   walk_at"w";rw[show t+1+i=t+i+1 by lia];refine EX (i:=t+i) (w.row i row b) C (by lia) (v.le i row b) (by lia) λo2 rs2 G2 k2 x4' x5' h1 h2 h3=>?_;exact⟨O,.mk _ (R++[rs2]) (ks++[k2]) (G++G2) o2 _ _ _ c (sh.snoc b h2) (rs.app.snoc h3) (h1.more (nR1 _))⟩
  ·intro r S h;rw[lT,bQ]at h;exact⟨O,h⟩
 rintro r S ⟨R,ks,G,o',x3,L,V,_,sh,rs,C⟩;rw[cQ (Nat.le_of_eq hlE)]at sh;generalize hX:U ++ .lst (rk U.length ks)::G=X;have F:R.length=m:=by rw[sh.len];exact hlE
 have K:∀(i:Nat) (row:List Nat),R[i]?=Z row->row.length<=4:=λi row h=>by
  obtain⟨e,he⟩:∃e,E[i]?=some e:=⟨_,gG1 (by have:=(Px h).1;lia)⟩;rw[(sh.row i row e h he).length_eq];exact v.le i e he
 have gk:∀(o:Ob) (aq:d7),(o::(X++aq))[U.length+1]?=Z (.lst (rk U.length ks)):=λo aq=>by
  rw[<- hX,gC1,bJ,ee];rfl
 have s:∀(o:Ob) (aq:d7) (i k:Nat) (row:List Nat),ks[i]?=Z k->R[i]?=Z row->(o::(X++aq))[U.length+2+k]?=Z (.lst (et row)):=λo aq i k row h1 h2=>by
  have e:=rs.row i k row h1 h2;rw[<- hX,show U.length+2+k=U.length+(k+1)+1 by lia,gC1,bJ,fJ,bm,gC1,gL1 (Px e).1];exact e
 refine eV (λr S=>S=o'::(X ++ .dct []::[])/\r=[Z (.ref 0),Z (.ref (t+m+1)),Z (.ref (U.length+1)),x3,L,V,Z (.ref (X.length+1)),Y,Y,Y]) ?_ ?_
 ·wp_walk using l6
 rintro r S ⟨rfl,rfl⟩;have lenA:∀i,i<=m->(fB 0 (R.take i)).length<=4*i:=by
  intro i
  induction i with
  |zero=>intro _;simp[fB]
  |succ i ih=>
   intro hi;obtain⟨row,b⟩:∃row,R[i]?=some row:=⟨_,gG1 (by lia)⟩;rw[mW b,lA1];have:=ih (by lia);have:=K i row b;simp[ik];lia
 refine eV (DJ R X o' (t+m+1) (U.length+1) x3 L m m) ?_ ?_
 ·unfold fz;rw[d9];refine xG (n:=U.length+1) O (gk _ _) ?_;refine e9 (DJ R X o' (t+m+1) (U.length+1) x3 L m) _ 0 _ _ (.mk 0 [] [] _ _ _ _ (bj _) ⟨λv _=>rfl,λv h=>(h O).elim,λv u h e=>by simp[eg]at e,by simp⟩) ?_ ?_ ?_
  ·rintro i r S ⟨A,H,V,x7,x8,x9,_,_⟩;exact fq (gk _ _)
  ·rintro i d g r S ⟨A,H,V,x7,x8,x9,hi,P⟩;dsimp only at g;rw[fZ]at g;obtain⟨z,B,rfl⟩:=Pz g;have c:=(Px B).1;rw[rn]at c;obtain⟨k2,l⟩:∃k2,ks[i]?=some k2:=⟨_,gG1 c⟩;rw[Ex l]at B;cases B;have hil:i<m:=by rw[<- F,<- rs.len];exact c
   obtain⟨row,b⟩:∃row,R[i]?=some row:=⟨_,gG1 (by lia)⟩;rw[bQ]at *
   walk_at"w";unfold ji fz;rw[d9];refine xG (n:=U.length+2+k2) O (s _ _ i k2 row l b) ?_;refine e9 (DK R X o' (t+m+1) (U.length+1) x3 L (U.length+2+k2) i row) _ 0 _ _ (.mk 0 A H _ _ (bj _) (by simpa[ik]using P)) ?_ ?_ ?_
   ·rintro j r S ⟨A,H,x8,x9,_,_⟩;exact fq (s _ _ i k2 row l b)
   ·rintro j d g r S ⟨A,H,x8,x9,hj,P⟩;dsimp only at g;rw[fZ]at g;obtain⟨z,B,rfl⟩:=Pz g;rw[et,gP1]at B;obtain⟨way,I,rfl⟩:=Pz B;have hjl:=(Px I).1;rw[bQ]at *
    have:=lenA i (by lia);have:=K i row b;walk_at"w";refine CU P (by rw[lA1];simp[ik];lia) λkv' H' P'=>?_;rw[bJ,<- zX I]at P';exact⟨O,.mk _ kv' H' _ _ hjl P'⟩
   ·rintro r S ⟨A,H,x8,x9,hj,P⟩;rw[fY,eY,bQ,b4]at P;refine⟨O,.mk _ A H _ _ _ _ hil ?_⟩;rw[mW b,bQ];exact P
  ·intro r S h;rw[fY,rn,rs.len,bQ,F]at h;exact⟨O,h⟩
 rintro r S ⟨A,H,V,x7,x8,x9,_,P⟩;rw[cQ (Nat.le_of_eq F)]at P;obtain⟨aq,hY⟩:∃aq,aq=Ob.dct A::H:=⟨_,O⟩;rw[<- hY];have cnt:∀(i j a:Nat) (row:List Nat),R[i]?=Z row->row[j]?=Z a -> ∃p ao h,ps (fB 0 R) a=[p,ao]/\eg A (Sum.inl (a:Int))=Z (.ref (X.length+2+h))/\H[h]?=Z (.lst [pD p,pD ao]):=by
  intro i j a row hr ha;have h2:=vp v sh hr ha;obtain⟨p,ao,e⟩:=zi h2;obtain⟨h,e1,e2⟩:=P.yes a (by rw[e];simp);rw[e]at e2;exact⟨p,ao,h,e,e1,e2⟩
 have gY:∀(o:Ob) (wq:d7) (h:Nat) (x:Ob),H[h]?=Z x->(o::(X++(aq++wq)))[X.length+2+h]?=Z x:=λo wq h x e=>by
  rw[hY,show X.length+2+h=X.length+(h+1)+1 by lia,gC1,fJ,bm,gC1,gL1 (Px e).1];exact e
 have gd:∀(o:Ob) (wq:d7),(o::(X++(aq++wq)))[X.length+1]?=Z (.dct A):=λo wq=>by rw[hY,gC1,ee];rfl
 walk_at"w";refine xG (n:=U.length+1) O (gk _ _) ?_;refine gm (λi am r S=>∃wq N au,S=o'::(X++(aq++wq))/\r=[N,au,Z (.ref (X.length+1))]/\am=(((kY R).take i).map λrow=>.tup (row.map pD))) _ 0 [] _ _ ⟨[],Y,Y,by rw[aP],O,O⟩ ?_ ?_ ?_
 ·rintro i am r S ⟨wq,N,au,rfl,_⟩;exact fq (gk _ _)
 ·rintro i d g am r S ⟨wq,N,au,rfl,rfl,rfl⟩;dsimp only at g;rw[fZ]at g;obtain⟨z,B,rfl⟩:=Pz g;have c:=(Px B).1;rw[rn]at c;obtain⟨k2,l⟩:∃k2,ks[i]?=some k2:=⟨_,gG1 c⟩;rw[Ex l]at B;cases B;obtain⟨row,b⟩:∃row,R[i]?=some row:=⟨_,gG1 (by rw[<- rs.len];exact c)⟩;rw[bQ]at *
  have hl:=K i row b;walk_at"w";refine xG (n:=U.length+2+k2) O (s _ _ i k2 row l b) ?_;dsimp only;rw[et,Bx];refine jo (f:=λp:Nat×Nat=>D.tup [.int p.2,.int p.1]) (λp=>pD (jF (fB 0 R) p.1 (i,p.2))) (λr=>∃N au,r=[N,au,Z (.ref (X.length+1)),Z (.int (i:Nat))]) (fq (s _ _ i k2 row l b)) row.zipIdx _ ⟨_,_,O⟩ ?_ ?_
  ·rintro⟨a,j⟩ ha r ⟨y0,y1,rfl⟩;obtain⟨p,ao,h,c1,c2,c3⟩:=cnt i j a row b (xK ha);have c4:=gY o' wq h _ c3;walk_at"w";refine xf (gd _ _) c2 ?_;refine xf (gd _ _) c2 ?_;refine nt (i:=0) (x:=pD p) c4 O ?_
   wp_walk using Js
   by_cases hp:p=(i,j)
   ·rw[show(p == (i,j))=M by rw[hp];simp];walk_at"w";refine nt (i:=1) (x:=pD ao) c4 O ?_;refine⟨?_,O,_,_,O⟩;simp[jF,c1,hp]
   ·rw[show(p == (i,j))=J by simp[hp]];walk_at"w";refine nt (i:=0) (x:=pD p) c4 O ?_;refine⟨?_,O,_,_,O⟩;simp[jF,c1,hp]
  ·rintro r' _;walk_at"w";refine⟨ed (by rw[lM1,List.length_zipIdx];lia),?_⟩;refine eF (xs:=row.zipIdx.map λp=>pD (jF (fB 0 R) p.1 (i,p.2))) (by rw[gC1];simp only[<- lA1,<- bn,<- bJ];rw[ee];rfl) ?_;refine⟨wq++[Ob.lst (row.zipIdx.map λp=>pD (jF (fB 0 R) p.1 (i,p.2)))],_,_,O,O,?_⟩;rw[cv,qS,b];simp[vn,Function.comp_def]
 ·rintro xs r S ⟨wq,N,au,rfl,rfl,e⟩;dsimp only at e;have hwl:(kY R).length=m:=by unfold kY;simp[F]
  rw[cW,bQ,fY,rn,rs.len,cQ (by lia)]at e;subst e;walk_at"w";refine⟨ed (by rw[lM1];lia),?_⟩;refine eF (xs:=(kY R).map λrow=>.tup (row.map pD)) (by rw[gC1];simp only[<- lA1,<- bn,<- bJ];rw[ee];rfl) ?_;refine⟨webD (kY R),o',(.lst (rk U.length ks)::G)++(aq++(wq++[Ob.lst ((kY R).map λrow=>.tup (row.map pD))])),?_,eQ _,C.und,q R o' sh (C.more (by lia))⟩;rw[<- hX];simp only[bJ];rfl
def At(w:d8)(r d:Nat)(e:Nat×Nat):Prop:=∃row,w[r]?=Z row/\row[d]?=Z e
structure WebJ (m:Nat)(w:d8):Prop where
 len:w.length=m
 le:∀(i:Nat) (row:List (Nat×Nat)),w[i]?=some row->row.length<=4
 to:∀(r d:Nat) (e:Nat×Nat),At w r d e->e.1<m
 jn:∀j,1<=j->j<m -> ∃a d e,a<j/\At w a d e/\e.1=j
structure sG (m:Nat)(w:d8):Prop extends WebJ m w where
 bk:∀(r d:Nat) (e:Nat×Nat),At w r d e->At w e.1 e.2 (r,d)
theorem jY{w:d8}{r d:Nat}{e e':Nat×Nat}(h:At w r d e)(h':At w r d e'):e=e':=by
 obtain⟨g,c,f⟩:=h;obtain⟨r2,b,a⟩:=h';rw[c]at b;cases b;rw[f]at a;cases a;rfl
structure sH (m:Nat)(w:d8):Prop extends WebJ m w where
 back:∀(r d:Nat) (e:Nat×Nat),At w r d e->At w e.1 e.2 (r,d)/\e≠(r,d)
theorem Hx{R:jp}{i j:Nat}{e:Nat×Nat}:At (kY R) i j e ↔ ∃b a,R[i]?=Z b/\b[j]?=Z a/\e=jF (fB 0 R) a (i,j):=by
 unfold At;rw[qS];constructor
 ·rintro⟨b,h1,h2⟩;obtain⟨c,d,rfl⟩:=Pz h1;unfold vn at h2;rw[gP1,dz]at h2;obtain⟨x,f,rfl⟩:=Pz h2;obtain⟨a,g,rfl⟩:=Pz f;exact⟨c,a,d,g,by simp⟩
 ·rintro⟨b,a,h1,h2,rfl⟩;refine⟨vn (fB 0 R) i b,by rw[h1];rfl,?_⟩;unfold vn;rw[gP1,dz,h2];simp
theorem nP{R:jp}{i j a:Nat}:((i,j),a)∈fB 0 R ↔ ∃b,R[i]?=Z b/\b[j]?=Z a:=by
 rw[oB];constructor
 ·rintro⟨d,b,h1,h2,c⟩;rw[bQ]at h1;dsimp only at h1;subst h1;exact⟨b,h2,c⟩
 ·rintro⟨b,h2,c⟩;exact⟨i,b,(bQ i).symm,h2,c⟩
theorem Cf{m k:Nat}{E R:jp}(v:WE m E k (m-1))(sh:uT E R):sH m (kY R):=by
 have w:R.length=m:=by rw[sh.len];exact v.len
 have I:∀(i:Nat) (b:List Nat),R[i]?=Z b -> ∃e,E[i]?=Z e/\b.Perm e:=λi b h=>by
  obtain⟨e,o⟩:∃e,E[i]?=some e:=⟨_,gG1 (by have:=(Px h).1;rw[v.len];lia)⟩;exact⟨e,o,sh.row i b e h o⟩
 have l:∀(r d:Nat) (e:Nat×Nat),At (kY R) r d e->At (kY R) e.1 e.2 (r,d)/\e≠(r,d)/\e.1<m:=λr d e h=>by
  obtain⟨b,a,h1,h2,rfl⟩:=Hx.mp h;obtain⟨N,p2,K,_⟩:=wG ss (vp v sh h1 h2) (nP.mpr ⟨b,h1,h2⟩);generalize jF (fB 0 R) a (r,d)=g at *
  obtain⟨c,q,G⟩:=(nP (i:=g.1) (j:=g.2)).mp N;refine⟨Hx.mpr ⟨c,a,q,G,K.symm⟩,p2,?_⟩;have:=(Px q).1;lia
 refine⟨⟨by unfold kY;simp[w],λi b h=>?_,λr d e h=>(l r d e h).2.2,λj h1 h2=>?_⟩,λr d e h=>⟨(l r d e h).1,(l r d e h).2.1⟩⟩
 ·rw[qS]at h;obtain⟨c,q,rfl⟩:=Pz h;obtain⟨e,o,p⟩:=I i c q;unfold vn;rw[lM1,List.length_zipIdx,p.length_eq];exact v.le i e o
 ·obtain⟨a,C,D,x,L,F,am,ao,H⟩:=v.jn j h1 (by lia);obtain⟨y,f⟩:∃s,R[a]?=some s:=⟨_,gG1 (by lia)⟩;obtain⟨A,n⟩:∃s,R[j]?=some s:=⟨_,gG1 (by lia)⟩;obtain⟨d,u⟩:=bq ((sh.row a y C f F).mem_iff.mpr ao);obtain⟨B,t⟩:=bq ((sh.row j A D n am).mem_iff.mpr H);obtain⟨_,_,_,au⟩:=wG ss (vp v sh f u) (nP.mpr ⟨y,f,u⟩);rcases au (j,B) (nP.mpr ⟨A,n,t⟩)with z|z
  ·injection z with P Q;lia
  ·exact⟨a,d,_,L,Hx.mpr ⟨y,x,f,u,O⟩,by rw[<- z]⟩
theorem CT{o:Ob}{n a:Nat}{T:d7}{Q:D×d7->Prop}(ho:g9 o n)(hn:n<=2^40)(X:T.all (Ob.und (T.length+1))=M)(h0:1<=a)(h8:a<=8)(h:∀m w o',0<m->m<=a->sH m w->g9 o' (n+100)->Q (webD w,o'::T)):W (ea 2 fD [.ref 0,.int a] (o::T)) Q:=by
 refine xy O O X ?_;unfold fD;refine lf ?_;unfold i0;generalize am:T.length=t;refine eV (λr S=>∃(m:Nat) (u:Ob),0<m/\m<=a/\g9 u (n+1)/\r=[Z (.ref 0),Z (.int a),Z (.int m),Z (.int ((0:Nat):Int)),Y,Y,Y,Y,Y,Y]/\S=u::T) ?_ ?_
 ·walk_at"w";refine jw ho (by lia) (by lia) (by lia) λc u A hc=>?_;walk_at"w";exact⟨c+1,u,by lia,by lia,A,by simp[Int.add_comm],O⟩
 rintro r S ⟨m,u,G,hm,A,rfl,rfl⟩;refine eV (λr S=>∃U,WN t m T (aR m []) U/\r=[Z (.ref 0),Z (.int a),Z (.int m),Z (.int ((0:Nat):Int)),Z (.ref (t+m+1)),Y,Y,Y,Y,Y]/\S=u::U) ?_ ?_
 ·walk_at"w";refine⟨eW (by lia),?_⟩;rw[NF];refine gm (λi F r S=>F=kw (t+1) i/\S=u::(T++aR i (.lst [])) /\ ∃x,r=[x]) (gb 0 m) 0 [] _ _ ⟨O,by simp,_,O⟩ (λ_ _ _ _ _=>rfl) ?_ ?_
  ·rintro i d z F r S ⟨rfl,rfl,x,rfl⟩;walk_at"w";rw[bQ];refine⟨?_,?_,_,O⟩
   ·rw[pV,am,lR1]
    congr 3
    lia
   ·rw[List.replicate_succ']
  ·rintro xs r S ⟨e,rfl,_⟩;rw[cW,bQ,eN]at e;subst e;rw[bQ,eN];walk_at"w";rw[lT];refine⟨ed (by lia),_,zb am X,?_,O⟩;simp[am]
 rintro r S ⟨U0,wq,rfl,rfl⟩;refine eV (λr S=>∃E k f U l g p,WN t m T E U/\WE m E k (m-1)/\g9 f (n+20)/\r=[Z (.ref 0),Z (.int a),Z (.int m),Z (.int (k:Nat)),Z (.ref (t+m+1)),l,g,p,Y,Y]/\S=f::U) ?_ ?_
 ·walk_at"w";refine⟨Hv (by decide) (by decide),eW (by lia),?_⟩;refine e9 (λi r S=>i<=m-1 /\ ∃E f U l g p,WN t m T E U/\WE m E i i/\(∀j y,i+1<=j->E[j]?=Z y->y=[])/\g9 f (n+1+i)/\r=[Z (.ref 0),Z (.int a),Z (.int m),Z (.int (i:Nat)),Z (.ref (t+m+1)),l,g,p,Y,Y]/\S=f::U) _ 0 _ _ ?_ (λ_ _ _ _=>rfl) ?_ ?_
  ·refine⟨by lia,_,u,U0,Y,Y,Y,wq,ze m,λj y _ H=>?_,A,O,O⟩;rw[aU]at H;split at H
   ·cases H;rfl
   ·cases H
  ·rintro i d z r S ⟨hi,E,f,U,l,g,p,w,v,aq,b,rfl,rfl⟩;have q:=(Px z).1;rw [eN] at q;have K:d = .int ((i+1:Nat):Int):=by
    rw[rQ,gP1,dA q]at z;simp at z;rw[<- z]
    push_cast
    congr 1
    lia
   subst K;rw[bQ]at *
   walk_at"w";refine E6 w v b (by lia) (by lia) (by lia) aq λV o' P x6' N au ao s L=>?_;exact⟨O,by lia,V,o',P,_,_,_,au,ao,L,s.more (by lia),O,O⟩
  ·rintro r S ⟨hi,E,f,U,l,g,p,w,v,aq,b,rfl,rfl⟩;rw[eN,bQ]at *
   have e:((m:Int)-1).toNat=m-1:=by lia
   rw[e]at v b ⊢;exact⟨O,E,m-1,f,U,l,g,p,w,v,b.more (by lia),O,O⟩
 rintro r S ⟨E,k,f,U,l,g,p,w,v,b,rfl,rfl⟩;refine eV (λr S=>∃E k f U l g p B C,WN t m T E U/\WE m E k (m-1)/\g9 f (n+50)/\r=[Z (.ref 0),Z (.int a),Z (.int m),Z (.int (k:Nat)),Z (.ref (t+m+1)),l,g,p,B,C]/\S=f::U) ?_ ?_
 ·walk_at"w";refine jw b (by lia) (by lia) (by lia) λc o3 I hc=>?_;walk_at"w";refine⟨eW (by lia),?_⟩;rw[NF];refine e9 (λi r S=>i<=c /\ ∃E k f U l g p B C,WN t m T E U/\WE m E k (m-1)/\g9 f (n+21+2*i)/\r=[Z (.ref 0),Z (.int a),Z (.int m),Z (.int (k:Nat)),Z (.ref (t+m+1)),l,g,p,B,C]/\S=f::U) _ 0 _ _ ⟨by lia,E,k,o3,U,l,g,p,Y,Y,w,v,I,O,O⟩ (λ_ _ _ _=>rfl) ?_ ?_
  ·rintro i d z r S ⟨hi,E,k,f,U,l,g,p,B,C,w,v,b,rfl,rfl⟩;have q:=(Px z).1;rw[eN]at q;rw[bQ]at *
   walk_at"w";refine Gx w v b (by lia) G (by lia) λV k' o' P N x9' au ao s=>?_;exact⟨O,by lia,V,k',o',P,_,_,_,_,_,au,ao,s.more (by lia),O,O⟩
  ·rintro r S ⟨hi,E,k,f,U,l,g,p,B,C,w,v,b,rfl,rfl⟩;rw[eN,bQ]at b;exact⟨O,E,k,f,U,_,_,_,_,_,w,v,b.more (by lia),O,O⟩
 rintro r S ⟨E,k,f,U,l,g,p,B,C,w,v,b,rfl,rfl⟩;walk_at"w";refine By w v b (by lia) (by lia) λR o' sh s=>?_;exact⟨webD (kY R),o',U.drop t,by rw[<- w.split],eQ _,s.und,h m _ o' G hm (Cf v sh) (s.more (by lia))⟩
theorem JJ{m:FA}{r:Ev}{S S1:d7}{k:Nat}{Q:D×d7->Prop}(h:m r S=Z ([.int k],S1))(hk:k<=1000)(q:Q (.ref S1.length,S1++[.lst (gb 0 k)])):W (AN m r S) Q:=by
 refine W.of ?_ q;unfold AN;rw[h,oS1];dsimp only;have:m6 0 (k:Int)=M:=by
  unfold m6;simp only[bA1,al];lia
 rw[ak this,NF]
theorem wI{o:Ob}{n a:Nat}{T:d7}{Q:D×d7->Prop}(ho:g9 o n)(hn:n<=2^42)(hc:a<=8)(q:∀m o',m.Perm (af a)->g9 o' (n+a)->Q (.ref (T.length+2),o'::(T++[.lst [],.lst (et m)]))):W (ea 2 fy [.ref 0,.int a] (o::T)) Q:=by
 refine xu O O ?_;unfold fy;refine lf ?_;unfold mw;have j:∀(o:Ob) (X:Ob) (aq:d7),(o::(T++X::aq))[T.length+1]?=Z X:=λo X aq=>by rw[gC1,ee];rfl
 refine eV (λr S=>S=o::(T++[.lst (et (af a))])/\r=[Z (.ref 0),Z (.int a),Z (.ref (T.length+1))]) ?_ ?_
 ·unfold eG;rw[d9];refine JJ (k:=a) (S1:=o::T) O (by lia) ?_;rw[jj];walk_at"w";exact⟨O,trivial⟩
 rintro r S ⟨rfl,rfl⟩;walk_at"w";refine⟨eW (by lia),?_⟩;rw[NF];refine gm (λi g r S=>∃o' rs ls x,i<=a/\(rs++ls).Perm (af a)/\rs.length=i/\g=et rs/\g9 o' (n+i)/\S=o'::(T++[.lst (et ls)])/\r=[x,Z (.ref (T.length+1)),Z (.ref 0)]) (gb 0 a) 0 [] _ _ ⟨o,[],af a,_,by lia,.refl _,O,O,ho,O,O⟩ (λ_ _ _ _ _=>rfl) ?_ ?_
 ·rintro i d p g r S ⟨o',rs,ls,x,hi,f,t,rfl,c,rfl,rfl⟩;have h:=(Px p).1;rw[eN]at h;have b:=f.length_eq;rw[lA1,dB]at b;rw[bQ]at *
  walk_at"w";refine iK ?_;walk_at"w";refine⟨T.length+1,et ls,O,j _ _ _,?_⟩;refine eF (j _ _ _) ?_;walk_at"w";rw[eY];refine jw c (by lia) (by lia) (by lia) λd u l p=>?_;obtain⟨y,s⟩:∃y,ls[d]?=some y:=⟨_,gG1 (by lia)⟩;walk_at"w";refine v8 (j _ _ _) (Au s) (by lia) ?_;refine⟨u,rs++[y],ls.eraseIdx d,_,by lia,tH f s,by rw[lA1,t];rfl,i9,l.more (by lia),?_,O⟩;rw[c8,cY _ _ (nR1 _),cZ,t0];rfl
 ·rintro xs r S ⟨o',rs,ls,x,hi,f,t,e,c,rfl,rfl⟩;rw[eN,bQ]at *
  rw[cW]at e;subst e;have b:=f.length_eq;rw[lA1,dB]at b;have:ls=[]:=List.eq_nil_of_length_eq_zero (by lia);subst this;rw[aP]at f;walk_at"w";refine⟨ed (by rw[eY];lia),?_⟩;unfold gc;rw[aj (by simp[D.und])];exact q rs o' f c
def tk3(r k d:Nat):TK:=.tup [.int r,.int k,.int d]
noncomputable def sM(r k d:Nat):D:=.tup [.int r,.int k,.int d]
theorem G7{r k d:Nat}:kx (sM r k d)=Z (tk3 r k d):=rfl
theorem lA{r k d a k' d':Nat}(h:tk3 r k d=tk3 a k' d'):r=a/\k=k'/\d=d':=by
 simp[tk3]at h;lia
def B1(w:d8)(cp:Nat)(F:List (TK×D))(r k d:Nat):Prop:=∃e k',At w r d e/\k'<cp/\eg F (tk3 r k d)=Z (sM e.1 k' e.2)/\eg F (tk3 e.1 k' e.2)=Z (sM r k d)
def El(F F':List (TK×D))(p e:Nat×Nat):Prop:=∀a k b,(a,b)≠p->(a,b)≠e->eg F' (tk3 a k b)=eg F (tk3 a k b)
theorem B1.keep{w:d8}{g r k d:Nat}{p e:Nat×Nat}{F i:List (TK×D)}(h:B1 w g F r k d)(hk:El F i p e)(h1:(r,d)≠p)(h2:(r,d)≠e)(m:∀f,At w r d f->f≠p/\f≠e):B1 w g i r k d:=by
 obtain⟨f,j,a,b,c,l⟩:=h;have:=m f a;exact⟨f,j,a,b,by rw[hk r k d h1 h2];exact c,by rw[hk f.1 j f.2 this.1 this.2];exact l⟩
theorem JG{m:FA}{r:Ev}{S:d7}{Q:yO×d7->Prop}(h:W (m r S) λp=>∃n xs,p.1=[.ref n]/\p.2[n]?=Z (.lst xs)/\Q (⟨u4 0 xs,[(n,xs)]⟩,p.2)):W (oP m r S) Q:=by
 obtain⟨⟨a,b⟩,e,n,xs,h1,h2,q⟩:=h;dsimp only at h1 h2 q;subst h1;refine W.of (x:=(⟨u4 0 xs,[(n,xs)]⟩,b)) ?_ q;simp only[oP,e,oS1,gP h2,sw h2]
theorem Cp{T G:d7}{o:Ob}{n cp r d:Nat}{w:d8}{e:Nat×Nat}{F:List (TK×D)}{P R x9 x10 s l p m:Option D}{Q:Fl×Ev×d7->Prop}(ho:g9 o n)(hn:n<=2^42)(hc:cp<=4)(ha:At w r d e)(hb:At w e.1 e.2 (r,d))(U:e≠(r,d))(hF:F.length<900)(q:∀f G' o' X C,g9 o' (n+4)->El F f (r,d) e->(∀k,k<cp->B1 w cp f r k d/\B1 w cp f e.1 k e.2)->f.length<=F.length+8 ->
   Q (.nx,[Z (.ref 0),P,Z (.int cp),Z (.ref (T.length+1)),Z (.int r),R,Z (.int d),Z (.int e.1),Z (.int e.2),X,C,s,l,p,m],o'::(T++dO f::G'))):
  W (fz (oP (d5 (mN (ea 2 fy) (d5 (mV 0) (d5 (mV 2) d6))) d6)) (gT 2 (fO (gN 9) (fO (gN 10) jm))) ip [Z (.ref 0),P,Z (.int cp),Z (.ref (T.length+1)),Z (.int r),R,Z (.int d),Z (.int e.1),Z (.int e.2),x9,x10,s,l,p,m] (o::(T++dO F::G))) Q:=by
 unfold fz;rw[d9];refine JG ?_;simp(implicitDefEqProofs:=J) only[d5,mN,mV,dk,gC1,d6,oS1,d9,ez];refine wI ho hn (by lia) λg o' N ho'=>?_;have am:=N.length_eq;rw[dB]at am;have E:∀c x:Nat,g[c]?=Z x->x<cp:=λc x h=>aB.mp (N.mem_iff.mp (gM1 h));walk_at"w";have eS:o'::(T++dO F::(G++[Ob.lst [],Ob.lst (et g)]))=o'::((T++dO F::G)++[Ob.lst [],Ob.lst (et g)]):=by simp
 have gO:∀(f:List (TK×D)),(o'::(T++dO f::(G++[Ob.lst [],Ob.lst (et g)])))[T.length+(G.length+1)+2]?=Z (.lst (et g)):=λf=>by
  rw[show T.length+(G.length+1)+2=T.length+(G.length+1+1)+1 by lia,gC1,fJ,gC1,fJ];rfl
 refine⟨T.length+(G.length+1)+2,et g,by first|rfl|(congr 3;lia),by first|exact gO F|(rw[<- gO F];congr 1;lia),?_⟩;have gd:∀(wq:Ob) (aq:d7),(o'::(T++wq::aq))[T.length+1]?=Z wq:=λwq aq=>by rw[gC1,ee];rfl
 have sd:∀(wq V:Ob) (aq:d7),(o'::(T++wq::aq)).set (T.length+1) V=o'::(T++V::aq):=λwq V aq=>by
  rw[c8,cY _ _ (nR1 _),cZ];rfl
 refine e9 (λi A S=>∃f ao j,i<=cp/\El F f (r,d) e/\(∀c x:Nat,c<i->g[c]?=Z x->eg f (tk3 r c d)=Z (sM e.1 x e.2)/\eg f (tk3 e.1 x e.2)=Z (sM r c d))/\f.length<=F.length+2*i/\S=o'::(T++dO f::(G++[Ob.lst [],Ob.lst (et g)]))/\A=[Z (.ref 0),P,Z (.int cp),Z (.ref (T.length+1)),Z (.int r),R,Z (.int d),Z (.int e.1),Z (.int e.2),ao,j,s,l,p,m]) _ 0 _ _ ⟨F,_,_,by lia,λ_ _ _ _ _=>rfl,λc x h=>by lia,by lia,O,O⟩ ?_ ?_ ?_
 ·rintro i A S ⟨f,ao,j,_,_,_,_,rfl,_⟩;exact fq (gO f)
 ·rintro i dd hd A S ⟨f,ao,j,hi,kp,L,hl,rfl,rfl⟩;rw[fZ,et,gP1,Option.map_map]at hd;obtain⟨x,u,rfl⟩:=Pz hd;have hlt:=(Px u).1;have hxc:=E i x u;rw[bQ]at *
  unfold Function.comp;walk_at"w";unfold ip;refine eV (λA S=>S=o'::(T++dO (fT f (tk3 r i d) (sM e.1 x e.2))::(G++[Ob.lst [],Ob.lst (et g)]))/\A=[Z (.ref 0),P,Z (.int cp),Z (.ref (T.length+1)),Z (.int r),R,Z (.int d),Z (.int e.1),Z (.int e.2),Z (.int (i:Nat)),Z (.int (x:Nat)),s,l,p,m]) ?_ ?_
  ·walk_at"w";refine v7 (key:=sM r i d) (v:=sM e.1 x e.2) (F:=f) (gd _ _) G7 (by lia) ?_;walk_at"w";exact⟨sd _ _ _,trivial⟩
  rintro A S ⟨rfl,rfl⟩;have pl:=rq (k:=tk3 r i d) (v:=sM e.1 x e.2) (a:=f);have pl2:=rq (k:=tk3 e.1 x e.2) (v:=sM r i d) (a:=fT f (tk3 r i d) (sM e.1 x e.2));walk_at"w";refine v7 (key:=sM e.1 x e.2) (v:=sM r i d) (F:=fT f (tk3 r i d) (sM e.1 x e.2)) (gd _ _) G7 (by lia) ?_;have t:∀a b:Nat,tk3 r a d≠tk3 e.1 b e.2:=λa b z=>by
   obtain⟨H,_,B⟩:=lA z;exact U (by rw[H,B])
  refine⟨_,_,_,by lia,λa k b h h'=>?_,λc y h au=>?_,by lia,sd _ _ _,O⟩
  ·rw[fE,fE,aj,aj]
   ·exact kp a k b h h'
   ·intro z;obtain⟨H,_,B⟩:=lA z;exact h (by rw[H,B])
   ·intro z;obtain⟨H,_,B⟩:=lA z;exact h' (by rw[H,B])
  ·rcases Nat.lt_succ_iff_lt_or_eq.mp h with h|rfl
   ·have nx:y≠x:=fun z=>by
     subst z;have nd:=N.nodup_iff.mpr dv;obtain⟨l1,g1⟩:=Px au;obtain⟨l2,g2⟩:=Px u;have:=(aI nd).mp (g1.trans g2.symm);lia
    obtain⟨I,K⟩:=L c y h au;refine⟨?_,?_⟩
    ·rw[fE,fE,aj (t c x),aj,I];intro z;have:=(lA z).2.1;lia
    ·rw[fE,fE,aj,aj (ML (t i y)),K];intro z;exact nx (lA z).2.1
   ·rw[u]at au;cases au;refine⟨?_,?_⟩
    ·rw[fE,fE,aj (t c x),ak O]
    ·rw[fE,ak O]
 ·rintro A S ⟨f,ao,j,hi,kp,L,hl,rfl,rfl⟩;rw[fY,eY,bQ]at *
  refine q f _ o' _ _ (ho'.more (by lia)) kp (λk hk=>⟨?_,?_⟩) (by lia)
  ·obtain⟨x,u⟩:∃x,g[k]?=some x:=⟨_,gG1 (by lia)⟩;obtain⟨I,K⟩:=L k x (by lia) u;exact⟨e,x,ha,E k x u,I,K⟩
  ·obtain⟨c,hc⟩:=bq (N.mem_iff.mpr (aB.mpr hk));have hcl:=(Px hc).1;obtain⟨I,K⟩:=L c k hcl hc;exact⟨(r,d),c,hb,by lia,K,I⟩
noncomputable def yp(a b:Nat×Nat):Bool:=decide (a.1<b.1)||(decide (a.1=b.1)&&decide (a.2<b.2))
theorem Hg{a b:Nat×Nat}{S:d7}:gLt (pD a) (pD b) S=Z (.bl (yp a b),S):=by
 have d:∀(n x y:Nat),hH S (n+1) (.int x) (.int y)=Z (decide (x=y)):=λn x y=>by
  show Z ((x:Int) == (y:Int))=_
  congr 1
  rw[bT,Pn,al];lia
 have c:∀(n x y:Nat),k4 S (n+1) (.int x) (.int y)=Z (decide (x<y)):=λn x y=>by
  show Z (decide ((x:Int)<(y:Int)))=_
  congr 1
  rw[bT,al,al];lia
 unfold gLt eL;rw[show(60:Nat)=58+1+1 from rfl,k4];simp only[pD,J3,ei,NJ,vH,d,c,oS1];unfold yp;by_cases h1:a.1=b.1
 ·by_cases h2:a.2=b.2
  ·simp[h1,h2]
  ·simp[h1,h2]
 ·simp[h1]
theorem Dx{a b:Nat×Nat}(h:yp a b=J)(c:b≠a):yp b a=M:=by
 unfold yp at *
 obtain⟨a1,a2⟩:=a;obtain⟨b1,b2⟩:=b;simp at *
 lia
theorem few:∀{N:Nat} {l:List Nat},l.Nodup->(∀x∈l,x<N)->l.length<=N
 |0,l,_,h=>by
  cases l with
  |nil=>simp
  |cons a l=>have:=h a mS1;lia
 |N+1,l,n,h=>by
  by_cases d:N∈l
  ·have h1:=few (N:=N) (l:=l.erase N) (n.erase N) fun x c=>by
    have b:=(List.Nodup.mem_erase_iff n).mp c;have:=h x b.2;have:=b.1;lia
   have:=List.length_erase_of_mem d;lia
  ·have:=few (N:=N) (l:=l) n fun x c=>by
    have h1:=h x c;have:x≠N:=λz=>d (z ▸ c);lia
   lia
theorem KW{A B:Nat}{l:List (Nat×Nat)}(n:l.Nodup)(h:∀x∈l,x.1<A/\x.2<B):l.length<=A*B:=by
 have h1:=few (N:=A*B) (l:=l.map λx=>x.1*B+x.2) ?_ ?_
 ·simpa using h1
 ·rw[dD,dt];refine Pw ?_ n;intro x y b f a e;apply a;have h1:=h x b;have h2:=h y f;have ex:x.1=(x.1*B+x.2)/B:=by rw[Nat.mul_comm,Nat.mul_add_div (by lia),Nat.div_eq_of_lt h1.2,c0]
  have d:y.1=(y.1*B+y.2)/B:=by rw[Nat.mul_comm,Nat.mul_add_div (by lia),Nat.div_eq_of_lt h2.2,c0]
  have c:x.1=y.1:=by rw[ex,d,e]
  rw[c]at e;exact Prod.ext c (by lia)
 ·intro z g;obtain⟨x,b,rfl⟩:=PB g;have h1:=h x b;have:(x.1+1)*B<=A*B:=Nat.mul_le_mul_right B h1.1;rw[Nat.add_mul]at this;lia
theorem yz{α:Type}[BEq α][LawfulBEq α]{l:List α}{x:α}(h:x∈l):∃j,l.findIdx? (· == x)=Z j/\l[j]?=Z x:=by
 cases e:l.findIdx? (· == x)with
 |none=>
  rw[List.findIdx?_eq_none_iff]at e;have:=e x h;simp at this
 |some j=>
  obtain⟨a,h1,_⟩:=b8.mp e;exact⟨j,O,by rw[gG1 a];simp at h1;rw[h1]⟩
theorem Bf{S:d7}{n:Nat}{x:Nat×Nat}:∀a:List (Nat×Nat),B4 (hH S (n+2)) (pD x) (a.map pD)=Z (a.contains x)
 |[]=>rfl
 |y::a=>by
  rw[mP1,B4,oU,Bf a,List.contains_cons,show(y == x)=(x == y)from Bool.beq_comm];rfl
theorem Eg{S:d7}{n:Nat}{row:List (Nat×Nat)}{x:Nat×Nat}{Q:D×d7->Prop}(h:S[n]?=Z (.lst (row.map pD)))(q:Q (.bl (!row.contains x),S)):W (fX (pD x) (.ref n) S) Q:=by
 refine W.of ?_ q;simp only[fX,h,iI,mS,gP h,oS1,eL,show(60:Nat)=58+2 from rfl,Bf,oP1]
theorem EL{m:FE}{lo hi:FO}{r:Ev}{S:d7}{xs:List D}{a b:Option Int}{Q:D×d7->Prop}(hm:m r S=Z (.tup xs,S))(d:lo r S=Z (a,S))(c:hi r S=Z (b,S))(q:Q (.tup (Mi.pM xs a b),S)):W (oC m lo hi r S) Q:=by
 refine W.of ?_ q;unfold oC;rw[hm,oS1];dsimp only;rw[d,oS1];dsimp only;rw[c,oS1];simp only[vm,ke,oP1,bF1,NH]
def Kh(w:d8)(cp i j:Nat)(F:List (TK×D)):Prop:=∀r d e,At w r d e->yp (r,d) e=M->(r<i\/(r=i/\d<j)) -> ∀k,k<cp->B1 w cp F r k d/\B1 w cp F e.1 k e.2
inductive AI (w:d8)(cp m n:Nat)(T:d7):Nat->Ev->d7->Prop
 |mk (i:Nat) (F:List (TK×D)) (G:d7) (o':Ob) (x4 x5 x6 x7 x8 x9 x10:Option D) (hi:i<=m) (don:Kh w cp i 0 F) (hF:F.length<=32*i) (ho:g9 o' (n+16*i)):AI w cp m n T i [some (.ref 0),some (webD w),some (.int cp),some (.ref (T.length+1)),x4,x5,x6,x7,x8,x9,x10,none,none,none,none] (o'::(T++dO F::G))
inductive AJ (w:d8)(cp n:Nat)(T:d7)(i:Nat)(row:List (Nat×Nat)):Nat->Ev->d7->Prop
 |mk (j:Nat) (F:List (TK×D)) (G:d7) (o':Ob) (x6 x7 x8 x9 x10:Option D) (hj:j<=row.length) (don:Kh w cp i j F) (hF:F.length<=32*i+8*j) (ho:g9 o' (n+16*i+4*j)):AJ w cp n T i row j [some (.ref 0),some (webD w),some (.int cp),some (.ref (T.length+1)),some (.int (i:Nat)),some (.tup (row.map pD)),x6,x7,x8,x9,x10,none,none,none,none] (o'::(T++dO F::G))
theorem vZ{T:d7}{o:Ob}{n m p:Nat}{w:d8}{Q:Fl×Ev×d7->Prop}(hw:sH m w)(hm:m<=8)(hc:p<=4)(ho:g9 o n)(hn:n<=2^41)(q:∀F G o' au V E ao I am t,g9 o' (n+128)->(∀r d e k,At w r d e->k<p->B1 w p F r k d) ->
   Q (.nx,[Z (.ref 0),Z (webD w),Z (.int p),Z (.ref (T.length+1)),au,V,E,ao,I,am,t,Y,Y,Y,Y],o'::(T++dO F::G))):
  W (fz (oP (d5 (mV 1) d6)) (gT 2 (fO (gN 4) (fO (gN 5) jm))) io [Z (.ref 0),Z (webD w),Z (.int p),Z (.ref (T.length+1)),Y,Y,Y,Y,Y,Y,Y,Y,Y,Y,Y] (o::(T++dO []::[]))) Q:=by
 unfold fz;rw[d9];refine px (xs:=w.map λg=>.tup (g.map pD)) O ?_;refine e9 (AI w p m n T) _ 0 _ _ (.mk 0 [] [] o _ _ _ _ _ _ _ (bj _) (λr d e h1 h2 K=>by lia) (by simp) ho) (λ_ _ _ _=>rfl) ?_ ?_
 ·rintro i dd C r S ⟨F,G,o',au,V,E,ao,I,am,t,hi,c,U,f⟩;rw[fZ,gP1,Option.map_map]at C;obtain⟨g,l,rfl⟩:=Pz C;have B:=(Px l).1;rw[hw.len]at B;have hr4:=hw.le i g l;rw[bQ]at *
  unfold Function.comp;walk_at"w";unfold io fz;rw[d9];refine px (xs:=g.map pD) O ?_;refine e9 (AJ w p n T i g) _ 0 _ _ (.mk 0 F G o' _ _ _ _ _ (bj _) c (by lia) (f.more (by lia))) (λ_ _ _ _=>rfl) ?_ ?_
  ·rintro j dd C r S ⟨F,G,o',E,ao,I,am,t,hj,c,U,f⟩;rw[fZ,gP1,Option.map_map]at C;obtain⟨e,he,rfl⟩:=Pz C;have L:=(Px he).1;have H:At w i j e:=⟨g,l,he⟩;have v:=hw.back i j e H;rw[bQ]at *
   unfold Function.comp pD;walk_at"w";unfold jP;have el:∀S,gLt (D.tup [D.int (i:Int),D.int (j:Int)]) (D.tup [D.int (e.1:Int),D.int (e.2:Int)]) S=Z (.bl (yp (i,j) e),S):=λS=>Hg (a:=(i,j)) (b:=e);unfold fV;rw[d9];refine W.of (x:=(yp (i,j) e,o'::(T++dO F::G))) ?_ ?_
   ·simp only[mB,m2,fw,d5,d6,mV,gC1,dk,dq,oP1,oS1,lC1,bg,b2,el,dm,ak (show 2<=dW by decide)]
   dsimp only;have up:∀F',yp (i,j) e=M->El F F' (i,j) e->(∀k,k<p->B1 w p F' i k j/\B1 w p F' e.1 k e.2)->Kh w p i (j+1) F':=λF' s kp new r d y h1 h2 K k u=>by
    by_cases wq:r=i/\d=j
    ·obtain⟨rfl,rfl⟩:=wq;obtain rfl:=jY H h1;exact new k u
    ·have aq:r<i\/(r=i/\d<j):=by lia
     have X:(r,d)≠(i,j):=λz=>by injection z with z1 z2;lia
     have R:(r,d)≠e:=λz=>by
      rw[<- z]at s;unfold yp at s;simp at s;lia
     have b1:=(hw.back r d y h1).1;have n3:y≠(i,j):=λz=>by
      rw[z]at b1;exact R (jY b1 H)
     have n4:y≠e:=λz=>by
      rw[z]at b1;exact X (jY b1 v.1)
     have:=c r d y h1 h2 aq k u;refine⟨this.1.keep kp X R λe2 h=>?_,this.2.keep kp n3 n4 λe2 h=>?_⟩
     ·rw[<- jY h1 h];exact⟨n3,n4⟩
     ·rw[<- jY b1 h];exact⟨X,R⟩
   have P:yp (i,j) e=J->Kh w p i (j+1) F:=λs r d y h1 h2 K k u=>by
    by_cases wq:r=i/\d=j
    ·obtain⟨rfl,rfl⟩:=wq;obtain rfl:=jY H h1;rw[s]at h2;cases h2
    ·exact c r d y h1 h2 (by lia) k u
   cases hl:yp (i,j) e with
   |false=>
    rw[aj (by decide)];exact ez.mpr ⟨O,.mk _ F G o' _ _ _ _ _ L (P hl) (by lia) (f.more (by lia))⟩
   |true=>
    rw[ak O];refine Cp (w:=w) f (by lia) hc H v.1 v.2 (by lia) λF' G' o2 x9' x10' h1 h2 K h4=>?_;exact⟨O,.mk _ F' G' o2 _ _ _ _ _ L (up F' hl h2 K) (by lia) (h1.more (by lia))⟩
  ·rintro r S ⟨F,G,o',E,ao,I,am,t,hj,c,U,f⟩;rw[fY,lM1,bQ]at *
   refine⟨O,.mk _ F G o' _ _ _ _ _ _ _ B (λr d e h1 h2 K=>c r d e h1 h2 ?_) (by lia) (f.more (by lia))⟩;rcases(show r<i\/r=i by lia)with h|rfl
   ·exact .inl h
   ·obtain⟨row',N,g2⟩:=h1;rw[l]at N;cases N;exact .inr ⟨O,(Px g2).1⟩
 ·rintro r S ⟨F,G,o',au,V,E,ao,I,am,t,hi,c,U,f⟩;rw[fY,lM1,bQ,hw.len]at *
  refine q F G o' _ _ _ _ _ _ _ (f.more (by lia)) λr d e k h u=>?_;have A:∀r d e,At w r d e->r<m:=λr d e h=>by
   obtain⟨g,N,_⟩:=h;rw[<- hw.len];exact(Px N).1
  have v:=hw.back r d e h;cases hl:yp (r,d) e with
  |true=>exact(c r d e h hl (.inl (A r d e h)) k u).1
  |false=>exact(c e.1 e.2 (r,d) v.1 (Dx hl v.2) (.inl (A _ _ _ v.1)) k u).2
def hh(F:List (TK×D))(x:Nat×Nat)(d:Nat):(Nat×Nat)×Nat:=match eg F (tk3 x.1 x.2 d)with
 |some (.tup [.int a,.int b,.int c])=>((a.toNat,b.toNat),c.toNat)
 |_=>((0,0),0)
def nQ(w:d8)(r:Nat):Nat:=(w.getD r []).length
def Dc(p:(Nat×Nat)×Nat):D:=sM p.1.1 p.1.2 p.2
structure MI (m cp:Nat)(met:List (Nat×Nat)):Prop where
 nd:met.Nodup
 inn:∀x∈met,x.1<m/\x.2<cp
theorem MI.few{m a:Nat}{met:List (Nat×Nat)}(i:MI m a met)(h:m*a<=8):met.length<=8:=aC (KW i.nd i.inn) h
def All(w:d8)(cp:Nat)(F:List (TK×D)):Prop:=∀r d e k,At w r d e->k<cp->B1 w cp F r k d
theorem vA{w:d8}{m b d:Nat}{F:List (TK×D)}{x:Nat×Nat}(hw:sH m w)(all:All w b F)(hx:x.1<m/\x.2<b)(hd:d<nQ w x.1):
  eg F (tk3 x.1 x.2 d)=Z (Dc (hh F x d))/\((hh F x d).1.1<m/\(hh F x d).1.2<b)/\hh F (hh F x d).1 (hh F x d).2=(x,d)/\(hh F x d).2<nQ w (hh F x d).1.1:=by
 obtain⟨row,a⟩:∃row,w[x.1]?=some row:=⟨_,gG1 (by rw[hw.len];exact hx.1)⟩;have c:d<row.length:=by
  unfold nQ at hd;rw[bM,a,b9]at hd;exact hd
 obtain⟨e,h,h1,h2,f,l⟩:=all x.1 d row[d] x.2 ⟨row,a,gG1 c⟩ hx.2;have n:hh F x d=((e.1,h),e.2):=by
  unfold hh;rw[f];simp[sM]
 rw[n];have i:hh F (e.1,h) e.2=(x,d):=by
  unfold hh;rw[l];simp[sM]
 refine⟨f,⟨hw.to x.1 d e h1,h2⟩,i,?_⟩;obtain⟨g,j,k⟩:=(hw.back x.1 d e h1).1;unfold nQ;rw[bM,j];exact(Px k).1
def Cl(w:d8)(F:List (TK×D))(met:List (Nat×Nat))(i j:Nat):Prop:=∀a d x,met[a]?=Z x->d<nQ w x.1->(a<i\/(a=i/\d<j))->(hh F x d).1∈met
def Jn(w:d8)(F:List (TK×D))(met:List (Nat×Nat)):Prop:=∀b y,1<=b->met[b]?=Z y -> ∃a d x,a<b/\met[a]?=Z x/\d<nQ w x.1/\(hh F x d).1=y
theorem Jn.snoc{w:d8}{F:List (TK×D)}{met:List (Nat×Nat)}{a d:Nat}{x:Nat×Nat}(j:Jn w F met)(ha:met[a]?=Z x)(hd:d<nQ w x.1):Jn w F (met++[(hh F x d).1]):=by
 have c:=(Px ha).1;intro b y i f;by_cases g:b<met.length
 ·rw[gL1 g]at f;obtain⟨o,h,m,k,l,p,n⟩:=j b y i f;exact⟨o,h,m,k,by rw[gL1 (by lia)];exact l,p,n⟩
 ·have:=(Px f).1;rw[lA1,a0]at this;have e:b=met.length:=by lia
  subst e;rw[dy]at f;cases f;exact⟨a,d,x,c,by rw[gL1 c];exact ha,hd,O⟩
theorem Jh{S:d7}{n:Nat}{F:List (TK×D)}{x:Nat×Nat}{d:Nat}(h:S[n]?=Z (dO F))(a:eg F (tk3 x.1 x.2 d)=Z (Dc (hh F x d))):eA (.ref n) (sM x.1 x.2 d) S=Z (Dc (hh F x d),S):=by
 obtain⟨p,e,rfl⟩:=HB (Q:=λp=>p=(Dc (hh F x d),S)) h G7 a O;exact e
theorem K8{f:FN}{a b:FE}{r:Ev}{S:d7}{Q:D×d7->Prop}(h:W (a r S) λp=>W (b r p.2) λq=>W (f [p.1,q.1] q.2) Q):W (m2 f a b r S) Q:=by
 unfold m2;rw[d9];exact h.mono λp c=>by rw[d9];exact c
theorem KZ{p:(Nat×Nat)×Nat}:D.tup (Mi.pM [.int p.1.1,.int p.1.2,.int p.2] Y (Z 2))=pD p.1:=rfl
theorem IP{V:d7}{o:Ob}{n m s:Nat}{w:d8}{F:List (TK×D)}{x4 ao x6 N L x9 v A u:Option D}{Q:Fl×Ev×d7->Prop}(hw:sH m w)(hm0:0<m)(hc0:0<s)(h8:m*s<=8)(all:All w s F)(hV:V[n]? = some (dO F))(q:∀met U H T y12,MI m s met->0<met.length->Cl w F met met.length 0->Jn w F met->Q (.nx,[some (.ref 0),some (webD w),some (.int s),some (.ref (n+1)),U,ao,H,N,L,T,v,some (.ref (V.length+1)),y12,A,u],o::(V++[.lst (met.map pD)]))):
  W (sU im il 100000 [Z (.ref 0),Z (webD w),Z (.int s),Z (.ref (n+1)),x4,ao,x6,N,L,x9,v,Z (.ref (V.length+1)),Z (.int ((0:Nat):Int)),A,u] (o::(V++[.lst ([(0,0)].map pD)]))) Q:=by
 have au:∀(X:Ob),(o::(V++[X]))[V.length+1]?=Z X:=λX=>by rw[gC1,ee];rfl
 have gs:∀(aq:d7),(o::(V++aq))[n+1]?=Z (dO F):=λaq=>by rw[gC1,gL1 (Px hV).1];exact hV
 refine sT (λk r S=>∃met U H T,MI m s met/\k<=met.length/\0<met.length/\Cl w F met k 0/\Jn w F met/\S=o::(V++[.lst (met.map pD)])/\r=[Z (.ref 0),Z (webD w),Z (.int s),Z (.ref (n+1)),U,ao,H,N,L,T,v,Z (.ref (V.length+1)),Z (.int (k:Nat)),A,u]) 8 ?_ 100000 0 _ _ (by lia) ⟨[(0,0)],_,_,_,⟨by simp,λx am=>by simp at am;subst am;exact⟨hm0,hc0⟩⟩,by lia,by simp,λa d x _ _ h=>by lia,λb y h1 h2=>by have:=(Px h2).1;simp at this;lia,O,O⟩;rintro k r S ⟨met,U,H,T,wq,hk,hp,cl,jn,rfl,rfl⟩;have hf:=wq.few h8;unfold im;walk_at"w";refine eF (au _) ?_;walk_at"w";rw[lM1];by_cases hlt:k<met.length
 ·rw[ak (by rw[al];lia)];refine⟨by lia,?_⟩;obtain⟨x,am⟩:∃x,met[k]?=some x:=⟨_,gG1 hlt⟩;have R:=wq.inn x (gM1 am);obtain⟨row,B⟩:∃row,w[x.1]?=some row:=⟨_,gG1 (by rw[hw.len];exact R.1)⟩;have C:nQ w x.1=row.length:=by unfold nQ;rw[bM,B];rfl
  have hr4:=hw.le _ row B;unfold il;refine eV (λr S=>S=o::(V++[.lst (met.map pD)])/\r=[Z (.ref 0),Z (webD w),Z (.int s),Z (.ref (n+1)),Z (.int (x.1:Nat)),ao,H,N,L,Z (.int (x.2:Nat)),v,Z (.ref (V.length+1)),Z (.int (k:Nat)),A,u]) ?_ ?_
  ·walk_at"w";refine nt (i:=k) (xs:=met.map pD) (x:=pD x) (au _) (by rw[gP1,am];rfl) ?_;rw[pD];walk_at"w"
  rintro r S ⟨rfl,rfl⟩;refine eV (λr S=>∃c H,c[k]?=Z x/\MI m s c/\Cl w F c k row.length/\Jn w F c/\S=o::(V++[.lst (c.map pD)])/\r=[Z (.ref 0),Z (webD w),Z (.int s),Z (.ref (n+1)),Z (.int (x.1:Nat)),ao,H,N,L,Z (.int (x.2:Nat)),v,Z (.ref (V.length+1)),Z (.int (k:Nat)),A,u]) ?_ ?_
  ·walk_at"w";unfold webD;refine j8 (i:=x.1) (x:=.tup (row.map pD)) (by rw[gP1,B];rfl) ?_;walk_at"w";rw[lM1];refine⟨eW (by lia),?_⟩;rw[jj,NF];refine e9 (λj r S=>∃c H,j<=row.length/\c[k]?=Z x/\MI m s c/\Cl w F c k j/\Jn w F c/\S=o::(V++[.lst (c.map pD)])/\r=[Z (.ref 0),Z (webD w),Z (.int s),Z (.ref (n+1)),Z (.int (x.1:Nat)),ao,H,N,L,Z (.int (x.2:Nat)),v,Z (.ref (V.length+1)),Z (.int (k:Nat)),A,u]) _ 0 _ _ ⟨met,_,by lia,am,wq,cl,jn,O,O⟩ (λ_ _ _ _=>rfl) ?_ ?_
   ·rintro j dd hd r S ⟨c,z6,hj,f,g,E,t,rfl,rfl⟩;have I:=(Px hd).1;rw[lM1,dB]at I;rw[gP1,dA I]at hd;cases hd;rw[bQ]at *
    have hf':=g.few h8;obtain⟨n1,⟨n2,n3⟩,_⟩:=vA hw all R (d:=j) (by rw[C];exact I);have sl:∀(r:Ev) (S:d7) (P:D×d7->Prop),S[n+1]?=Z (dO F)->r[3]?=Z (Z (.ref (n+1)))->r[4]?=Z (Z (.int (x.1:Nat)))->r[9]?=Z (Z (.int (x.2:Nat)))->r[6]?=Z (Z (.int (j:Nat)))->P (pD (hh F x j).1,S)->W (oC (m2 (b2 eA) (mV 3) (fw (d5 (mV 4) (d5 (mV 9) (d5 (mV 6) d6))))) kJ (nh (mC (D.int (2)))) r S) P:=by
     intro r S P hS h3 h4 h9 h6 p;refine EL (xs:=[.int (hh F x j).1.1,.int (hh F x j).1.2,.int (hh F x j).2]) (a:=Y) (b:=Z 2) ?_ O O p;have:=Jh hS n1;simp only[m2,fw,d5,d6,mV,h3,h4,h9,h6,dq,oP1,oS1,lC1,bg,b2,dm,ak (show 3<=dW by decide)];exact this
    walk_at"w";unfold jO fV mB;rw[d9,d9];refine K8 ?_;refine sl _ _ _ (gs _) O O O O ?_;walk_at"w";refine Eg (au _) ?_;walk_at"w";have step:∀l:List (Nat×Nat),(∀a,a<=k->l[a]?=c[a]?)->(∀z∈c,z∈l)->(hh F x j).1∈l->Cl w F l k (j+1):=λl hg hs hm a d y h1 h2 h3=>by
     rw[hg a (by lia)]at h1;by_cases hz:a=k/\d=j
     ·obtain⟨rfl,rfl⟩:=hz;rw[f]at h1;cases h1;exact hm
     ·exact hs _ (E a d y h1 h2 (by lia))
    have hkl:=(Px f).1;by_cases G:(hh F x j).1∈c
    ·rw[aj (by simpa using G)];exact⟨c,_,by lia,f,g,step c (λ_ _=>rfl) (λ_ h=>h) G,t,O,O⟩
    ·rw[ak (by simpa using G)];refine iK ?_;walk_at"w";refine⟨V.length+1,c.map pD,O,au _,?_⟩;refine sl _ _ _ (gs _) O O O O ?_;walk_at"w";refine(kW (au _)).mpr ⟨ed (by rw[lM1];lia),?_⟩;refine⟨c++[(hh F x j).1],_,by lia,by rw[gL1 hkl];exact f,⟨?_,?_⟩,step _ (λa ha=>gL1 (by lia)) (λz h=>aH _ h) (by simp),t.snoc f (by rw[C];exact I),?_,O⟩
     ·refine bB.mpr ⟨g.nd,by simp,λa ha b hb e=>?_⟩;rw[cA]at hb;exact G (by rw[<- hb,<- e];exact ha)
     ·intro y K;rcases aG.mp K with K|K
      ·exact g.inn y K
      ·rw[cA]at K;subst K;exact⟨n2,n3⟩
     ·rw[c8,cY _ _ (nR1 _),cZ,cx];rfl
   ·rintro r S ⟨c,z6,hj,f,g,E,t,rfl,rfl⟩;rw[lM1,dB,bQ]at *
    exact⟨O,c,_,f,g,E,t,O,O⟩
  rintro r S ⟨c,z6,f,g,E,t,rfl,rfl⟩;have hlt':=(Px f).1;walk_at"w";refine⟨c,_,_,_,g,by lia,by lia,λa d y h1 h2 h3=>E a d y h1 h2 ?_,t,O,by push_cast;rfl⟩;rcases(show a<k\/a=k by lia)with h|rfl
  ·exact .inl h
  ·rw[f]at h1;cases h1;exact .inr ⟨O,by rw[<- C];exact h2⟩
 ·rw[aj (by rw[al];lia)];have e:k=met.length:=by lia
  subst e;exact q met _ _ _ _ wq hp cl jn
noncomputable def idx(met:List (Nat×Nat))(y:Nat×Nat):Nat:=(met.findIdx? (· == y)).getD 0
def tq(w:d8)(F:List (TK×D))(met:List (Nat×Nat))(x:Nat×Nat):List (Nat×Nat):=(af (nQ w x.1)).map λd=>(idx met (hh F x d).1,(hh F x d).2)
def u5(w:d8)(F:List (TK×D))(met:List (Nat×Nat)):d8:=met.map (tq w F met)
theorem oO{met:List (Nat×Nat)}{y:Nat×Nat}(h:y∈met):met.findIdx? (· == y)=Z (idx met y)/\met[idx met y]?=Z y:=by
 obtain⟨j,h1,h2⟩:=yz h;unfold idx;rw[h1];exact⟨O,h2⟩
theorem sE{w:d8}{F:List (TK×D)}{met:List (Nat×Nat)}{r d:Nat}{e:Nat×Nat}:At (u5 w F met) r d e ↔ ∃x,met[r]?=Z x/\d<nQ w x.1/\e=(idx met (hh F x d).1,(hh F x d).2):=by
 unfold At u5;rw[gP1];constructor
 ·rintro⟨f,h1,h2⟩;obtain⟨x,c,rfl⟩:=Pz h1;unfold tq at h2;rw[gP1]at h2;obtain⟨g,a,rfl⟩:=Pz h2;have b:=(Px a).1;rw[dB]at b;rw[dA b]at a;cases a;exact⟨x,c,b,O⟩
 ·rintro⟨x,h1,h2,rfl⟩;refine⟨tq w F met x,by rw[h1];rfl,?_⟩;unfold tq;rw[gP1,dA h2];rfl
theorem Hl{m:Nat}{w:d8}(hw:sH m w)(r:Nat):nQ w r<=4:=by
 unfold nQ;rw[bM];cases h:w[r]? with
 |none=>simp
 |some a=>exact hw.le r a h
theorem zd{m k:Nat}{w:d8}{F:List (TK×D)}{met:List (Nat×Nat)}(hw:sH m w)(all:All w k F)(B:MI m k met)(nd:met.Nodup)(l:Cl w F met met.length 0)(n:Jn w F met):sG met.length (u5 w F met):=by
 refine⟨⟨by unfold u5;rw[lM1],λi p h=>?_,λr d e h=>?_,λj h1 h2=>?_⟩,λr d e h=>?_⟩
 ·unfold u5 at h;rw[gP1]at h;obtain⟨x,_,rfl⟩:=Pz h;unfold tq;rw[lM1,dB];exact Hl hw _
 ·obtain⟨x,h1,h2,rfl⟩:=sE.mp h;have:=(oO (l r d x h1 h2 (.inl (Px h1).1))).2;exact(Px this).1
 ·obtain⟨y,f⟩:∃y,met[j]?=some y:=⟨_,gG1 h2⟩;obtain⟨a,d,x,C,q,z,E⟩:=n j y h1 f;refine⟨a,d,_,C,sE.mpr ⟨x,q,z,O⟩,?_⟩;dsimp only;rw[E];have g:=(oO (gM1 f)).2;obtain⟨o,b⟩:=Px g;obtain⟨t,c⟩:=Px f;exact(aI nd).mp (by rw[b,c])
 ·obtain⟨x,h1,h2,rfl⟩:=sE.mp h;have u:=B.inn x (gM1 h1);obtain⟨_,_,A,v⟩:=vA hw all u h2;have s:=(oO (l r d x h1 h2 (.inl (Px h1).1))).2;refine sE.mpr ⟨_,s,v,?_⟩;rw[A];dsimp only;have g:=(oO (gM1 h1)).2;obtain⟨o,b⟩:=Px g;obtain⟨t,c⟩:=Px h1;rw[(aI nd).mp (b.trans c.symm)]
theorem wM{o a b X:Ob}{V G:d7}:(o::(V++a::b::(G++[X])))[V.length+(G.length+2)+1]?=Z X:=by
 rw[gC1,fJ,gC1,gC1,ee];rfl
inductive CI (w:d8)(cp n:Nat)(T:d7):Ev->d7->Prop
 |mk (F:List (TK×D)) (G:d7) (o':Ob) (x4 x5 x6 x7 x8 x9 x10:Option D) (ho:g9 o' (n+128)) (all:All w cp F):CI w cp n T [some (.ref 0),some (webD w),some (.int cp),some (.ref (T.length+1)),x4,x5,x6,x7,x8,x9,x10,none,none,none,none] (o'::(T++dO F::G))
inductive CJ (w:d8)(m cp:Nat)(T V:d7)(F:List (TK×D))(o':Ob)(x5 x7 x8 x10:Option D):Ev->d7->Prop
 |mk (met:List (Nat×Nat)) (y4 y6 y9 y12:Option D) (mi:MI m cp met) (hp:0<met.length) (cl:Cl w F met met.length 0) (jn:Jn w F met):CJ w m cp T V F o' x5 x7 x8 x10 [some (.ref 0),some (webD w),some (.int cp),some (.ref (T.length+1)),y4,x5,y6,x7,x8,y9,x10,some (.ref (V.length+1)),y12,none,none] (o'::(V++[.lst (met.map pD)]))
theorem D9{o:Ob}{n m g:Nat}{T:d7}{w:d8}{Q:D×d7->Prop}(hw:sH m w)(U:0<m)(L:0<g)(hc:g<=4)(au:m*g<=8)(ho:g9 o n)(hn:n<=2^40)(hT:T.all (Ob.und (T.length+1))=M)(q:∀ao cw rs o',0<ao->ao<=8->sG ao cw->rs.length=ao->g9 o' (n+128)->Q (.tup [webD cw,.tup (et rs)],o'::T)):W (ea 3 gF [.ref 0,webD w,.int g] (o::T)) Q:=by
 have hm8:m<=8:=aC (Nat.le_mul_of_pos_right m L) au;refine xy O O hT ?_;unfold gF;refine lf ?_;unfold my;refine eV (λr S=>S=o::(T++dO []::[])/\r=[Z (.ref 0),Z (webD w),Z (.int g),Z (.ref (T.length+1)),Y,Y,Y,Y,Y,Y,Y,Y,Y,Y,Y]) ?_ ?_
 ·have d0:dO [] = .dct []:=ak O;rw[d0]
  wp_walk using l6
 rintro r S ⟨rfl,rfl⟩;refine eV (CI w g n T) ?_ ?_
 ·exact vZ hw hm8 hc ho (by lia) λF G o' x4 t x6 u s x9 c h1 h2=>⟨O,.mk F G o' _ _ _ _ _ _ _ h1 h2⟩
 rintro r S ⟨F,G,o',x4,t,x6,u,s,x9,c,H,all⟩;generalize hV:T++dO F::G=V;have v:V[T.length]?=Z (dO F):=by rw[<- hV,ee];rfl
 refine eV (λr S=>S=o'::(V++[.lst ([(0,0)].map pD)])/\r=[Z (.ref 0),Z (webD w),Z (.int g),Z (.ref (T.length+1)),x4,t,x6,u,s,x9,c,Z (.ref (V.length+1)),Z (.int ((0:Nat):Int)),Y,Y]) ?_ ?_
 ·walk_at"w";exact⟨O,O⟩
 rintro r S ⟨rfl,rfl⟩;refine eV (CJ w m g T V F o' t u s c) ?_ ?_
 ·exact IP hw U L au all v λmet B K A k h1 h2 h3 h4=>⟨O,.mk met _ _ _ _ h1 h2 h3 h4⟩
 rintro r S ⟨met,B,K,A,k,N,hp,cl,jn⟩;have hf:=N.few au;refine eV (λr S=>S=o'::(V ++ .lst (met.map pD) :: .lst []::[])/\r=[Z (.ref 0),Z (webD w),Z (.int g),Z (.ref (T.length+1)),B,t,K,u,s,A,c,Z (.ref (V.length+1)),k,Z (.ref (V.length+2)),Y]) ?_ ?_
 ·walk_at"w"
 rintro r S ⟨rfl,rfl⟩;have z:∀(X:Ob) (aq:d7),(o'::(V++X::aq))[V.length+1]?=Z X:=λX aq=>by rw[gC1,ee];rfl
 have gf:∀(X wq:Ob) (aq:d7),(o'::(V++X::wq::aq))[V.length+2]?=Z wq:=λX wq aq=>by rw[gC1,fJ];rfl
 have gs:∀(aq:d7),(o'::(V++aq))[T.length+1]?=Z (dO F):=λaq=>by rw[gC1,gL1 (Px v).1];exact v
 let rD:List (Nat×Nat)->D:=λrow=>.tup (row.map pD)
 refine eV (λr S=>∃G2 B A p,S=o'::(V ++ .lst (met.map pD) :: .lst ((u5 w F met).map rD)::G2)/\r=[Z (.ref 0),Z (webD w),Z (.int g),Z (.ref (T.length+1)),B,t,K,u,s,A,c,Z (.ref (V.length+1)),k,Z (.ref (V.length+2)),p]) ?_ ?_
 ·walk_at"w";refine eF (z _ _) ?_;refine e9 (λi r S=>∃G2 B A p,i<=met.length/\S=o'::(V ++ .lst (met.map pD) :: .lst (((u5 w F met).take i).map rD)::G2)/\r=[Z (.ref 0),Z (webD w),Z (.int g),Z (.ref (T.length+1)),B,t,K,u,s,A,c,Z (.ref (V.length+1)),k,Z (.ref (V.length+2)),p]) _ 0 _ _ ⟨[],_,_,_,by lia,O,O⟩ ?_ ?_ ?_
  ·rintro i r S ⟨G2,_,_,_,_,rfl,_⟩;exact fq (z _ _)
  ·rintro i dd l r S ⟨G2,z4,z9,C,hi,rfl,rfl⟩;dsimp only at l;rw[gP1]at l;obtain⟨x,E,rfl⟩:=Pz l;have R:=(Px E).1;have am:=N.inn x (gM1 E);obtain⟨row,h⟩:∃row,w[x.1]?=some row:=⟨_,gG1 (by rw[hw.len];exact am.1)⟩;have I:nQ w x.1=row.length:=by unfold nQ;rw[bM,h];rfl
   have hr4:=hw.le _ row h;rw[bQ]at *
   rw[pD];walk_at"w";unfold jN;refine eV (λr S=>S=o'::(V ++ .lst (met.map pD) :: .lst (((u5 w F met).take i).map rD)::(G2++[.lst ((af (nQ w x.1)).map λd=>Dc (hh F x d))]))/\r=[Z (.ref 0),Z (webD w),Z (.int g),Z (.ref (T.length+1)),Z (.int (x.1:Nat)),t,K,u,s,Z (.int (x.2:Nat)),c,Z (.ref (V.length+1)),k,Z (.ref (V.length+2)),Z (.ref (V.length+(G2.length+2)+1))]) ?_ ?_
   ·walk_at"w";rw[show webD w = .tup (w.map λrow=>.tup (row.map pD))from rfl];refine j8 (i:=x.1) (x:=.tup (row.map pD)) (by rw[gP1,h];rfl) ?_;walk_at"w";rw[lM1];refine⟨eW (by lia),?_⟩;rw[jj,NF,<- I];refine jo (f:=λj:Nat=>D.int j) (λd=>Dc (hh F x d)) (λr=>∃y,r=[y,Z (.ref (T.length+1)),Z (.int (x.1:Nat)),Z (.int (x.2:Nat))]) O (af (nQ w x.1)) _ ⟨_,O⟩ ?_ ?_
    ·rintro d l r ⟨y,rfl⟩;have n1:=(vA hw all am (aB.mp l)).1;walk_at"w";refine W.of (Jh (gs _) n1) ⟨O,O,_,O⟩
    ·rintro r' _;refine⟨ed (by rw[lM1,dB];lia),?_⟩;walk_at"w"
   rintro r S ⟨rfl,rfl⟩;walk_at"w";refine iK ?_;walk_at"w";refine⟨V.length+2,_,O,gf _ _ _,?_⟩;refine eF wM ?_;refine jo (f:=λd=>Dc (hh F x d)) (λd=>pD (idx met (hh F x d).1,(hh F x d).2)) (λr=>∃y,r=[y,Z (.ref (V.length+1))]) (fq wM) (af (nQ w x.1)) _ ⟨_,O⟩ ?_ ?_
   ·rintro d l r ⟨y,rfl⟩;have P:=cl i d x E (aB.mp l) (.inl R);walk_at"w";refine iK ?_;walk_at"w";refine⟨V.length+1,_,O,z _ _,?_⟩;refine EL (xs:=[.int (hh F x d).1.1,.int (hh F x d).1.2,.int (hh F x d).2]) (a:=Y) (b:=Z 2) O O O ?_;rw[KZ];walk_at"w";refine HA (e:=(hh F x d).1) (z _ _) (by lia) (oO P).1 ?_;refine j8 (i:=2) (xs:=[.int (hh F x d).1.1,.int (hh F x d).1.2,.int (hh F x d).2]) (x:=.int (hh F x d).2) O ?_;walk_at"w";exact⟨O,_,O⟩
   ·rintro r' _;refine⟨ed (by rw[lM1,dB];lia),?_⟩;walk_at"w";refine eF (xs:=(af (nQ w x.1)).map λd=>pD (idx met (hh F x d).1,(hh F x d).2)) ?_ ?_
    ·rw[show∀(a b:Ob),G2++[a,b]=(G2++[a])++[b]from λa b=>by simp];have:=wM (o:=o') (a:=.lst (met.map pD)) (b:=.lst (((u5 w F met).take i).map rD)) (V:=V) (G:=G2++[.lst ((af (nQ w x.1)).map λd=>Dc (hh F x d))]) (X:=.lst ((af (nQ w x.1)).map λd=>pD (idx met (hh F x d).1,(hh F x d).2)));rw[<- this]
     congr 1
     simp
     try lia
    refine(kW (gf _ _ _)).mpr ⟨ed (by rw[lM1,aT];lia),?_⟩;refine⟨G2++[.lst ((af (nQ w x.1)).map λd=>Dc (hh F x d)),.lst ((af (nQ w x.1)).map λd=>pD (idx met (hh F x d).1,(hh F x d).2))],_,_,_,by lia,?_,O⟩
    ·rw[c8,cY _ _ (by lia),show V.length+1-V.length=1 by lia,cv];rw[show(u5 w F met)[i]?=Z (tq w F met x) by unfold u5;rw[gP1,E];rfl];rw[Option.toList_some,cx];rw[show[tq w F met x].map rD=[.tup ((af (nQ w x.1)).map λd=>pD (idx met (hh F x d).1,(hh F x d).2))] by simp[rD,tq,Function.comp_def]];rfl
  ·rintro r S ⟨G2,z4,z9,C,hi,rfl,rfl⟩;rw[lM1,bQ,cQ (by unfold u5;rw[lM1];exact nR1 _)];exact⟨O,G2,_,_,_,O,O⟩
 rintro r S ⟨G2,z4,z9,C,rfl,rfl⟩;have hcl:(u5 w F met).length=met.length:=by unfold u5;rw[lM1]
 walk_at"w";refine eF (gf _ _ _) ?_;refine eF (z _ _) ?_;refine jo (f:=pD) (λx:Nat×Nat=>D.int (x.1:Nat)) (λr=>∃y0 y1,r=[y0,y1]) (fq (z _ _)) met _ ⟨_,_,O⟩ ?_ ?_
 ·rintro x E r ⟨y0,y1,rfl⟩;rw[pD];walk_at"w";exact⟨_,_,O⟩
 ·rintro r' _;refine⟨ed (by rw[lM1];lia),?_⟩;walk_at"w";refine eF (xs:=met.map λx:Nat×Nat=>D.int (x.1:Nat)) wM ?_;walk_at"w";have e:met.map (λx:Nat×Nat=>D.int (x.1:Nat))=et (met.map (·.1)):=by rw[et,bv];rfl
  rw[e];refine⟨.tup [webD (u5 w F met),.tup (et (met.map (·.1)))],o',(dO F::G)++(.lst (met.map pD) :: .lst ((u5 w F met).map rD)::(G2++[.lst (et (met.map (·.1)))])),?_,?_,H.und,q met.length _ _ o' hp hf (zd hw all N N.nd cl jn) (by rw[lM1]) H⟩
  ·rw[<- hV,bJ];rfl
  ·rw[D.und,D.unds,eQ,D.unds,D.unds,D.und,fv];rfl
theorem JI{m:FA}{r:Ev}{S S1:d7}{k:Nat}{Q:D×d7->Prop}(h:m r S=Z ([.int k],S1))(hk:k<=1000)(q:Q (.tup (et (af k)),S1)):W (Ds m r S) Q:=by
 refine W.of ?_ q;unfold Ds;rw[h,oS1];dsimp only;have:m6 0 (k:Int)=M:=by
  unfold m6;simp only[bA1,al];lia
 rw[ak this,NF,jj];rfl
theorem KX{a:Nat}{S:d7}(h1:1<=a)(b:a<=4):sm (.int 8) (.int a) S=Z (.int ((8/a:Nat):Int),S):=by
 match a,h1,b with
 |1,_,_=>rfl
 |2,_,_=>rfl
 |3,_,_=>rfl
 |4,_,_=>rfl
theorem gG{w:d8}{S:d7}:eR (webD w) S=Z (.int w.length,S):=by
 unfold webD;rw[wU,lM1]
theorem LM{d:Nat}(h:d<6):∃a:Nat,([.int 1,.int 1,.int 2,.int 2,.int 3,.int 4]:List D)[d]?=Z (.int a)/\1<=a/\a<=4:=by
 match d,h with
 |0,_=>exact⟨1,O,by decide,by decide⟩
 |1,_=>exact⟨1,O,by decide,by decide⟩
 |2,_=>exact⟨2,O,by decide,by decide⟩
 |3,_=>exact⟨2,O,by decide,by decide⟩
 |4,_=>exact⟨3,O,by decide,by decide⟩
 |5,_=>exact⟨4,O,by decide,by decide⟩
theorem KJ{m a:Nat}(h:m<=8/a):m*a<=8:=aC (Nat.mul_le_mul_right a h) (Nat.div_mul_le_self 8 a)
theorem HQ{o:Ob}{n:Nat}{T:d7}{Q:D×d7->Prop}(ho:g9 o n)(hn:n<=2^39)(G:T.all (Ob.und (T.length+1))=M)(q:∀m w rs o',0<m->m<=8->sG m w->rs.length=m->g9 o' (n+300)->Q (.tup [webD w,.tup (et rs)],o'::T)):W (ea 1 ix [.ref 0] (o::T)) Q:=by
 refine xy O O G ?_;unfold ix;refine lf ?_;unfold pr;generalize v:T++[Ob.lst [.int 1,.int 1,.int 2,.int 2,.int 3,.int 4]]=X;have s:X.all (Ob.und (X.length+1))=M:=by rw[<- v];exact K3 G O
 refine eV (λr S=>∃(cp:Nat) (l:Ob),1<=cp/\cp<=4/\g9 l (n+1)/\S=l::X/\r=[Z (.ref 0),Z (.int cp),Y]) ?_ ?_
 ·walk_at"w";refine jw ho (by lia) (by lia) (by lia) λd l f ao=>?_;obtain⟨cp,h1,h2,L⟩:=LM (d:=d) (by lia);walk_at"w";refine nt (i:=d) (xs:=[.int 1,.int 1,.int 2,.int 2,.int 3,.int 4]) (x:=.int cp) (by rw[gC1,ee];rfl) h1 ?_;exact⟨cp,l,h2,L,f,by rw[v],O⟩
 rintro r S ⟨cp,l,h1,E,f,rfl,rfl⟩;refine eV (λr S=>∃(m:Nat) (w:d8) (b:Ob),0<m/\m<=8/cp/\sH m w/\g9 b (n+101)/\S=b::X/\r=[Z (.ref 0),Z (.int cp),Z (webD w)]) ?_ ?_
 ·wp_walk using KX h1 E
  have am:1<=8/cp:=Nat.div_pos (by lia) (by lia);refine CT f (by lia) s am (Nat.div_le_self 8 cp) λm w b c y g a=>?_;exact⟨m,w,b,c,y,g,a.more (by lia),O,O⟩
 rintro r S ⟨m,w,b,c,y,g,a,rfl,rfl⟩;have C:m<=8:=aC y (Nat.div_le_self 8 cp);have I:((cp:Int) == 1)=decide (cp=1):=by
  rw[bT,Pn,al];lia
 unfold eu fV;rw[d9];have u:mB (m2 (b2 gEq) (mV 1) (mC (D.int (1)))) [Z (.ref 0),Z (.int cp),Z (webD w)] (b::X)=Z (decide (cp=1),b::X):=by
  rw[<- I];rfl
 rw[d9];refine W.of u ?_;dsimp only;by_cases t:cp=1
 ·rw[ah t,ak O];simp(implicitDefEqProofs:=J) only[eX,mN,d5,mV,d6,oS1,d9,ez,BV,gC1,dk,lC1,bg,dm,Lw,Lu,true_and];refine JI (k:=m) (S1:=b::X) ?_ (by lia) ?_
  ·simp only[d5,d6,mN,mV,b1,gC1,dk,dq,oP1,oS1,gG,g.len]
  walk_at"w";refine⟨.tup [webD w,.tup (et (af m))],b,[Ob.lst [.int 1,.int 1,.int 2,.int 2,.int 3,.int 4]],by rw[v],?_,a.und,q m w _ b c C ⟨g.toWebJ,λr d e h=>(g.back r d e h).1⟩ dB (a.more (by lia))⟩;rw[D.und,D.unds,eQ,D.unds,D.unds,D.und,fv];rfl
 ·rw[ai t,aj (by decide)];walk_at"w";refine D9 g c (by lia) E (KJ y) a (by lia) s λK F rs H j A z B p=>?_;refine⟨.tup [webD F,.tup (et rs)],H,[Ob.lst [.int 1,.int 1,.int 2,.int 2,.int 3,.int 4]],by rw[v],?_,p.und,q K F rs H j A z B (p.more (by lia))⟩;rw[D.und,D.unds,eQ,D.unds,D.unds,D.und,fv];rfl
structure fS (m:Nat)(w:d8):Prop where
 len:w.length=m
 le:∀(i:Nat) (row:List (Nat×Nat)),w[i]?=some row->row.length<=4
 to:∀(r d:Nat) (e:Nat×Nat),At w r d e->e.1<m
 rc:∀P:Nat->Prop,P 0->(∀a d e,At w a d e->P a->P e.1) -> ∀j,j<m->P j
theorem WebJ.toK{m:Nat}{w:d8}(h:WebJ m w):fS m w:=⟨h.len,h.le,h.to,λP b c j=>by
 induction j using Nat.strongRecOn with
 |ind j ih=>
  intro f;by_cases z:j=0
  ·rw[z];exact b
  ·obtain⟨a,d,e,h1,h2,g⟩:=h.jn j (by lia) f;rw[<- g];exact c a d e h2 (ih a h1 (by lia))⟩
open Classical in
def tf(P:Prop):Bool:=decide P
theorem q9{P:Prop}:tf P=M↔P:=by unfold tf;exact @decide_eq_true_iff P (Classical.propDecidable P)
theorem xT{P:Prop}(h:P):tf P=M:=q9.mpr h
theorem vg{P:Prop}{b:Bool}(h:b=M↔P):b=tf P:=by rw[bT,q9];exact h
theorem q7{P:Prop}(h:¬ P):tf P=J:=(vg ⟨λz=>(by cases z),λz=>(h z).elim⟩).symm
theorem HS{P Q:Prop}(h:P↔Q):tf P=tf Q:=vg (q9.trans h)
theorem sv:∀(ns acc:List Int),acc.Nodup->((ns.foldl ON acc).length<=acc.length+ns.length/\((ns.foldl ON acc).length=acc.length+ns.length↔(acc++ns).Nodup))
 |[],acc,h=>by simp[h]
 |n::ns,acc,h=>by
  rw[ca];by_cases c:n∈acc
  ·have e:ON acc n=acc:=by
    unfold ON;rw[ak (bU.mpr ⟨n,c,by simp⟩)]
   rw[e];obtain⟨h1,h2⟩:=sv ns acc h;rw[lC1];refine⟨by lia,⟨λz=>by lia,λz=>?_⟩⟩;rw[bB]at z;exact(z.2.2 n c n mS1 O).elim
  ·have e:ON acc n=acc++[n]:=by
    unfold ON;rw[aj (by rw[bU];rintro⟨x,g,d⟩;exact c (by rw[<- Pn.mp d];exact g))]
   rw[e];have hnd:(acc++[n]).Nodup:=by
    rw[bB];exact⟨h,by simp,λa i b f z=>by rw[cA]at f;subst f;subst z;exact c i⟩
   obtain⟨h1,h2⟩:=sv ns (acc++[n]) hnd;rw[lA1,a0,bJ,List.singleton_append]at *
   rw[lC1];refine⟨by lia,?_⟩;rw[<- h2];constructor<;>intro z<;>lia
theorem sX{rs:List Nat}:(rs.map λ(r:Nat)=>(r:Int)).Nodup↔rs.Nodup:=by
 unfold List.Nodup;rw[dt];exact⟨λh=>h.imp λz e=>z (by rw[e]),λh=>h.imp λz e=>z (by lia)⟩
theorem zh{rs:List Nat}{S:d7}{Q:D×d7->Prop}(a:rs.length<=100)(q:Q (.bl (tf rs.Nodup),S)):W (ea 1 gC [.tup (et rs)] S) Q:=by
 refine g0 O (by rw[D.unds,D.und,fv];rfl) ?_;unfold gC;refine lf ?_;unfold mo;have e:hW (.tup (et rs)) []=Z (.ref 0,[.iset (ddI (rs.map λ(r:Nat)=>(r:Int)))]):=by
  unfold hW;rw[ke];dsimp only;rw[w4,oS1,ak (by rw[lM1];unfold OO;lia)];rfl
 wp_walk using e
 refine BW O ?_;walk_at"w";refine⟨O,?_⟩;have:((((ddI (rs.map λ(r:Nat)=>(r:Int))).length:Nat):Int) == (((et rs).length:Nat):Int))=tf rs.Nodup:=vg (by
  have:=(sv (rs.map λ(r:Nat)=>(r:Int)) [] bp).2;rw[bg,bQ,lM1,cW,sX]at this;rw[Pn,eY,<- this];unfold ddI;lia)
 rw[this];exact q
theorem rB{m:Nat}{rs:List Nat}(d:rs.length=m)(hr:∀x∈rs,x<m)(nd:rs.Nodup):rs.Perm (af m):=by
 refine(List.perm_ext_iff_of_nodup nd dv).mpr λa=>⟨λh=>aB.mpr (hr a h),λh=>?_⟩;refine OJ λc=>?_;have:=few (N:=m) (l:=a::rs) (aQ.mpr ⟨c,nd⟩) λx b=>by
  rcases aF.mp b with rfl|b
  ·exact aB.mp h
  ·exact hr x b
 rw[lC1]at this;lia
theorem i8{m:Nat}{rs:List Nat}(h:rs.Perm (af m)):rs.length=m/\(∀x∈rs,x<m)/\rs.Nodup:=by
 refine⟨by have:=h.length_eq;rwa [dB]at this,λx a=>aB.mp (h.mem_iff.mp a),h.nodup_iff.mpr dv⟩
theorem l7{c:List (Nat×List D)}{g:FG}{b:FS}{Q:Fl×Ev×d7->Prop}(I:Nat->Ev->d7->Prop):∀ (items:List D) (k:Nat) (r:Ev) (S:d7),I k r S ->
  (∀i r S,I i r S->pA S c=M) ->
  (∀i d,items[i]?=Z d -> ∀r S,I (k+i) r S->W (g d r S) λp=>W (b p.1 p.2) λq=>(q.1 = .nx/\I (k+i+1) q.2.1 q.2.2) \/ ∃v,q.1 = .rt v/\Q (.rt v,q.2)) ->
  (∀r S,I (k+items.length) r S->Q (.nx,r,S))->W (jk c g b items r S) Q:=by
 intro items
 induction items with
 |nil=>intro k r S hi a _ j;rw[jk];dsimp only;rw[ak (a _ _ _ hi),ez];exact j r S (by simpa using hi)
 |cons d ds ih=>
  intro k r S hi a l j;rw[jk];dsimp only;rw[ak (a _ _ _ hi),d9];obtain⟨p,m,⟨f,n,u⟩,t,h⟩:=l 0 d O r S (by simpa using hi);refine⟨p,m,?_⟩;dsimp only;rw[d9];refine⟨_,t,?_⟩;dsimp only at h ⊢;rcases h with⟨rfl,e⟩|⟨v,rfl,o⟩
  ·exact ih (k+1) n u e a (fun i d s r S e=>by
    have:=l (i+1) d s r S (by rw[show k+(i+1)=k+1+i by lia];exact e);rw[show k+(i+1)+1=k+1+i+1 by lia]at this;exact this) λr S e=>j r S (by rw[lC1,show k+(ds.length+1)=k+1+ds.length by lia];exact e)
  ·exact ez.mpr o
theorem zJ{a b:FS}{r:Ev}{S:d7}{Q:Fl×Ev×d7->Prop}(h:W (a r S) λp=>(p.1 = .nx/\W (b p.2.1 p.2.2) Q) \/ ∃v,p.1 = .rt v/\Q (.rt v,p.2)):W (eu a b r S) Q:=by
 obtain⟨⟨f,d,c⟩,e,h⟩:=h;unfold eu;rw[e];dsimp only at h;rcases h with⟨rfl,h⟩|⟨v,rfl,h⟩
 ·exact h
 ·exact ez.mpr h
theorem Bi{c:FT}{m:FE}{b:FS}{r:Ev}{S:d7}{Q:Fl×Ev×d7->Prop}(C:Bool×d7->Prop)(h1:W (c r S) C)(h2:∀V,C (M,V)->W (m r V) λp=>Q (.rt p.1,r,p.2))(f:∀V,C (J,V)->W (b r V) Q):W (eu (fV c (eX m) ny) b r S) Q:=by
 obtain⟨⟨t,V⟩,e,a⟩:=h1;unfold eu fV;simp only[e,oS1];cases t with
 |true=>
  rw[ak O];unfold eX;rw[d9,d9];exact(h2 V a).mono λp d=>ez.mpr (ez.mpr d)
 |false=>
  rw[aj (by decide)];exact f V a
theorem k0{m:Nat}{w:d8}(hw:fS m w){r:Nat}(hr:r<m):∃row,w[r]?=Z row:=⟨_,gG1 (by rw[hw.len];exact hr)⟩
theorem kU{w:d8}{r:Nat}{row:List (Nat×Nat)}{S:d7}{Q:D×d7->Prop}(h:w[r]?=Z row)(q:Q (.tup (row.map pD),S)):W (eA (webD w) (.int r) S) Q:=
 j8 (i:=r) (x:=.tup (row.map pD)) (by rw[gP1,h];rfl) q
theorem uS{rs:List Nat}{i:Nat}{S:d7}{Q:D×d7->Prop}(hi:i<rs.length)(q:Q (.int (rs.getD i 0:Nat),S)):W (eA (.tup (et rs)) (.int i) S) Q:=
 j8 (i:=i) (x:=.int (rs.getD i 0:Nat)) (by rw[et,gP1,bM,gG1 hi];rfl) q
theorem nO{m i:Nat}{rs:List Nat}(hm:0<m)(h:∀x∈rs,x<m):rs.getD i 0<m:=by
 rw[bM];cases e:rs[i]? with
 |none=>exact hm
 |some x=>exact h x (gM1 e)
noncomputable def gy(w:d8)(r:Nat):List (Nat×Nat):=w[r]?.getD []
theorem gx{w:d8}{r:Nat}{row:List (Nat×Nat)}(h:w[r]?=Z row):gy w r=row:=by unfold gy;rw[h];rfl
def oA(rs:List Nat)(e:Nat×Nat):Nat×Nat:=(rs.getD e.1 0,e.2)
def Car(w:d8)(rs:List Nat)(r:Nat):Prop:=gy w (rs.getD r 0)=(gy w r).map (oA rs)
theorem uB{S:d7}{n:Nat}:∀(a b:List (Nat×Nat)),xn (hH S (n+2)) (a.map pD) (b.map pD)=Z (tf (a=b))
 |[],[]=>by rw[xT O];rfl
 |[],_::_=>by rw[q7 (by simp)];rfl
 |_::_,[]=>by rw[q7 (by simp)];rfl
 |x::a,y::b=>by
  rw[mP1,mP1,xn,oU,uB a b,oS1];refine congrArg Z (vg ?_);rw[bA1,Pn,q9,List.cons.injEq]
theorem D7{S:d7}(a b:List (Nat×Nat)):gEq (.tup (a.map pD)) (.tup (b.map pD)) S=Z (.bl (tf (a=b)),S):=by
 show(hH S eL (.tup (a.map pD)) (.tup (b.map pD))).map _=_;unfold eL;rw[show(60:Nat)=59+1 from rfl,hH];simp only[ke,uB (S:=S) (n:=57) a b];simp
theorem Hf{a b:Nat×Nat}{S:d7}:gNe (pD a) (pD b) S=Z (.bl (!(a == b)),S):=by
 show(hH S eL (pD a) (pD b)).map _=_;rw[show eL=58+2 from rfl,oU];rfl
theorem DQ{m:Nat}{w:d8}{rs:List Nat}{S:d7}{Q:D×d7->Prop}(hw:fS m w)(am:0<m)(hl:rs.length=m)(hr:∀x∈rs,x<m)(q:Q (.bl (tf (∀r,r<m->Car w rs r)),S)):W (ea 2 fU [webD w,.tup (et rs)] S) Q:=by
 refine g0 O (by rw[D.unds,eQ,D.unds,D.und,fv];rfl) ?_;unfold fU;refine lf ?_;unfold mx;refine zJ ?_;unfold fz;rw[d9];refine px (xs:=w.map λf=>.tup (f.map pD)) O ?_;refine l7 (λi r V=>(∀j,j<i->Car w rs j)/\V=[] /\ ∃F N v A y,r=[Z (webD w),Z (.tup (et rs)),F,N,v,A,y]) _ 0 _ _ ⟨λj h=>by lia,O,_,_,_,_,_,O⟩ (λ_ _ _ _=>rfl) ?_ ?_
 ·rintro i T l r V ⟨g,rfl,F,N,v,A,y,rfl⟩;rw[fZ,gP1]at l;obtain⟨z,au,rfl⟩:=Pz l;obtain⟨f,p,rfl⟩:=Pz au;have K:i<m:=by rw[<- hw.len];exact(Px p).1
  rw[bQ]at *
  obtain⟨c,k⟩:=k0 hw (nO (i:=i) am hr);have E:¬ Car w rs i->Q (.bl J,S):=λao=>by
   rw[q7 (λh=>ao (h i K))]at q;exact q
  have o:Car w rs i↔c=f.map (oA rs):=by
   unfold Car;rw[gx p,gx k]
  walk_at"w";unfold jL;refine Bi (λt=>t=(!(c.length == f.length),[])) ?_ (λU e=>?_) λU e=>?_
  ·walk_at"w";refine uS (by lia) ?_;refine kU k ?_;walk_at"w";rw [lM1,lM1];have:(((c.length:Nat):Int) == ((f.length:Nat):Int))=(c.length == f.length):=by
    rw[bT,Pn,Pn];lia
   rw[this]
  ·injection e with C I;subst I;have:¬ Car w rs i:=fun hc=>by
    rw[o.mp hc,lM1,Oz]at C;cases C
   walk_at"w";exact .inr ⟨_,O,.inr ⟨_,O,O,E this⟩⟩
  ·injection e with C I;subst I;have P:c.length=f.length:=by
    have:(c.length == f.length)=M:=by
     cases h:c.length == f.length with
     |true=>rfl
     |false=>rw[h]at C;cases C
    exact Pn.mp this
   unfold fz;rw[d9];refine px (xs:=f.map pD) O ?_;refine l7 (λj r V=>(∀d e,d<j->f[d]?=Z e->c[d]?=Z (oA rs e))/\V=[] /\ ∃v A y,r=[Z (webD w),Z (.tup (et rs)),Z (.int (i:Nat)),Z (.tup (f.map pD)),v,A,y]) _ 0 _ _ ⟨λd e h=>by lia,O,_,_,_,O⟩ (λ_ _ _ _=>rfl) ?_ ?_
   ·rintro j T l r V ⟨B,rfl,v,A,y,rfl⟩;rw[fZ,gP1]at l;obtain⟨z,au,rfl⟩:=Pz l;obtain⟨e,u,rfl⟩:=Pz au;have X:=(Px u).1;rw[bQ]at *
    have R:=hw.to i j e ⟨f,p,u⟩;have n:c[j]?=Z c[j]:=gG1 (by lia);generalize c[j]=e' at n;rw[show pD e = .tup [.int (e.1:Nat),.int (e.2:Nat)]from rfl];walk_at"w";unfold jM;walk_at"w";refine uS (by lia) ?_;refine kU k ?_;refine j8 (i:=j) (x:=pD e') (by rw[gP1,n];rfl) ?_;refine uS (by lia) ?_;walk_at"w";refine W.of (Hf (a:=e') (b:=oA rs e)) ?_;walk_at"w";by_cases s:e'=oA rs e
    ·rw[Pn.mpr s];walk_at"w";refine .inl ⟨λd G wq h=>?_,_,_,_,O⟩;by_cases H:d=j
     ·subst H;rw[u]at h;cases h;rw[n,s]
     ·exact B d G (by lia) h
    ·rw [beq_false_of_ne s];walk_at"w";have:¬ Car w rs i:=fun hc=>s (by
      have h2:=o.mp hc;rw[h2,gP1,u]at n;cases n;rfl)
     exact .inr ⟨_,O,.inr ⟨_,O,.inr ⟨_,O,O,E this⟩⟩⟩
   ·rintro r V ⟨B,rfl,v,A,y,rfl⟩;refine .inl ⟨O,λj aq=>?_,O,_,_,_,_,_,O⟩;by_cases L:j=i
    ·subst L;refine o.mpr (b5 λd=>?_);rw[gP1];cases u:f[d]? with
     |none=>
      rw[List.getElem?_eq_none_iff]at u;exact b6 (by lia)
     |some e=>
      have:=(Px u).1;exact B d e (by rw[fY,lM1];lia) u
    ·exact g j (by lia)
 ·rintro r V ⟨g,rfl,F,N,v,A,y,rfl⟩;rw[fY,lM1,bQ,hw.len]at g;rw[xT g]at q;refine .inl ⟨O,?_⟩;walk_at"w";exact⟨O,q⟩
theorem vB{a b:List Nat}(h:D.tup (et a) = .tup (et b)):a=b:=by
 injection h with h;unfold et at h;exact(List.map_inj_right λx y e=>by injection e with e;lia).mp h
def dF(L:List (Nat×List Nat)):List (Key×D):=L.map λp=>(Sum.inl (p.1:Int),D.tup (et p.2))
theorem hO:∀{L:List (Nat×List Nat)} {p:Nat×List Nat},(L.map (·.1)).Nodup->p∈L->eg (dF L) (Sum.inl (p.1:Int))=Z (.tup (et p.2))
 |[],_,_,h=>by cases h
 |x::L,p,nd,h=>by
  rw[mP1,aQ]at nd;unfold dF eg;rw[mP1,bd];rcases aF.mp h with z|z
  ·subst z;simp
  ·have a:x.1≠p.1:=λe=>nd.1 (by rw[e];exact cg.mpr ⟨p,z,O⟩);have:decide ((Sum.inl (x.1:Int):Key)=Sum.inl (p.1:Int))=J:=ai λe=>a (by injection e with e;lia);dsimp only;rw[this];exact hO (L:=L) nd.2 z
theorem xD{L:List (Nat×List Nat)}{v:Nat}(h:v∉L.map (·.1)):((dF L).any λp=>decide (p.1=Sum.inl (v:Int)))=J:=by
 rw[dh];intro z;obtain⟨x,a,e⟩:=bU.mp z;obtain⟨p,b,rfl⟩:=PB a;have e:=N7 e;dsimp only at e;injection e with e;exact h (cg.mpr ⟨p,b,by lia⟩)
theorem ua{L:List (Nat×List Nat)}{v:Nat}(h:v∉L.map (·.1)):eg (dF L) (Sum.inl (v:Int))=Y:=by
 unfold eg;rw[Option.map_eq_none_iff,List.find?_eq_none];intro x a z;have:=xD h;rw[dh]at this;exact this (bU.mpr ⟨x,a,z⟩)
theorem wB{L:List (Nat×List Nat)}{v:Nat}{ws:List Nat}(h:v∉L.map (·.1)):fT (dF L) (Sum.inl (v:Int)) (.tup (et ws))=dF (L++[(v,ws)]):=by
 unfold fT;rw[xD h,aj (by decide)];unfold dF;rw[cx];rfl
theorem tY{S:d7}{n v:Nat}{F:List (Key×D)}(h:S[n]?=Z (.dct F)):fX (.int (v:Nat)) (.ref n) S=Z (.bl (!(eg F (Sum.inl (v:Int))).isSome),S):=by
 simp only[fX,iI,h,ky,oP1]
theorem Ba{S:d7}{n v:Nat}{F:List (Key×D)}{d:D}(h:S[n]?=Z (.dct F))(a:eg F (Sum.inl (v:Int))=Z d):eA (.ref n) (.int (v:Nat)) S=Z (d,S):=by
 simp only[eA,me,h,ky,oS1,a,oP1]
theorem zI{S:d7}{n v:Nat}{F:List (Key×D)}{d:D}(h:S[n]?=Z (.dct F))(a:F≠[])(b:F.length<1000):f0 (.ref n) (.int (v:Nat)) d S=Z (.non,S.set n (.dct (fT F (Sum.inl (v:Int)) d))):=by
 cases F with
 |nil=>exact absurd O a
 |cons x F=>
  have h2:f0 (.ref n) (.int (v:Nat)) d S=jl (.ref n) (.int (v:Nat)) d S:=by simp only[f0,h]
  rw[h2];simp only[jl,h,ky,oS1];rw[ak (bi b (by decide))]
def eM(w:d8):Nat->List Nat->Option Nat
 |r,[]=>Z r
 |r,d::ds=>((gy w r)[d]?).bind λe=>eM w e.1 ds
theorem uc{w:d8}:∀{ds:List Nat} {r v d:Nat} {e:Nat×Nat},eM w r ds=Z v->(gy w v)[d]?=Z e->eM w r (ds++[d])=Z e.1
 |[],r,v,d,e,h,he=>by
  rw[eM]at h;cases h;rw[cW,eM,he];rfl
 |x::ds,r,v,d,e,h,he=>by
  rw[eM]at h;rw[bm,eM];cases hx:(gy w r)[x]? with
  |none=>rw[hx]at h;cases h
  |some y=>
   rw[hx]at h;exact uc (ds:=ds) h he
theorem BO{w:d8}{r d:Nat}{e:Nat×Nat}(h:At w r d e):(gy w r)[d]?=Z e:=by
 obtain⟨a,h1,h2⟩:=h;rw[gx h1];exact h2
theorem kg{w:d8}{r d:Nat}{e:Nat×Nat}(h:(gy w r)[d]?=Z e):At w r d e:=by
 unfold gy at h;cases hr:w[r]? with
 |none=>rw[hr]at h;simp at h
 |some a=>rw[hr]at h;exact⟨a,hr,h⟩
theorem rZ{m:Nat}{w:d8}(hw:fS m w):∀{ds:List Nat} {r v:Nat},r<m->eM w r ds=Z v->v<m
 |[],r,v,hr,h=>by rw[eM]at h;cases h;exact hr
 |d::ds,r,v,hr,h=>by
  rw[eM]at h;cases hx:(gy w r)[d]? with
  |none=>rw[hx]at h;cases h
  |some y=>
   rw[hx]at h;exact rZ hw (ds:=ds) (hw.to r d y (kg hx)) h
structure BJ (m:Nat)(w:d8)(L:List (Nat×List Nat))(a j:Nat):Prop where
 nd:(L.map (·.1)).Nodup
 inn:∀p∈L,p.1<m
 hd:L[0]?=some (0,[])
 ok:∀p∈L,eM w 0 p.2=some p.1
 len:∀(i:Nat) (p:Nat×List Nat),L[i]?=some p->p.2.length<=i
 cl:∀(i d:Nat) (p:Nat×List Nat) (e:Nat×Nat),L[i]?=some p->At w p.1 d e->(i<a\/(i=a/\d<j))->e.1∈L.map (·.1)
theorem BJ.few{m a j:Nat}{w:d8}{L:List (Nat×List Nat)}(b:BJ m w L a j):L.length<=m:=by
 have:=Law.few b.nd (N:=m) λx c=>by
  obtain⟨p,d,rfl⟩:=PB c;exact b.inn p d
 rwa [lM1]at this
theorem BJ.old{m a j:Nat}{w:d8}{L:List (Nat×List Nat)}{g:Nat×List Nat}{e:Nat×Nat}(b:BJ m w L a j)(k:L[a]?=Z g)(f:At w g.1 j e)(c:e.1∈L.map (·.1)):BJ m w L a (j+1):=by
 refine⟨b.nd,b.inn,b.hd,b.ok,b.len,λi d p h h1 h2 n=>?_⟩;by_cases l:i=a/\d=j
 ·obtain⟨rfl,rfl⟩:=l;rw[k]at h1;cases h1;rw[<- jY f h2];exact c
 ·exact b.cl i d p h h1 h2 (by lia)
theorem BJ.new{m a j:Nat}{w:d8}{L:List (Nat×List Nat)}{f:Nat×List Nat}{e:Nat×Nat}(b:BJ m w L a j)(k:L[a]?=Z f)(g:At w f.1 j e)(hm:e.1<m)(n:e.1∉L.map (·.1)):BJ m w (L++[(e.1,f.2++[j])]) a (j+1):=by
 have s:=(Px k).1;have q:∀x,x∈L.map (·.1)->x∈(L++[(e.1,f.2++[j])]).map (·.1):=λx o=>by rw[cx];exact aH _ o
 refine⟨?_,λp c=>?_,?_,λp c=>?_,λi p h=>?_,λi d p r h1 h2 A=>?_⟩
 ·rw[cx,bB];refine⟨b.nd,by simp,λx o y t z=>?_⟩;have:y=e.1:=by simpa using t
  exact n (by rw[<- this,<- z];exact o)
 ·rcases aG.mp c with c|c
  ·exact b.inn p c
  ·rw[cA]at c;subst c;exact hm
 ·rw[gL1 (by lia)];exact b.hd
 ·rcases aG.mp c with c|c
  ·exact b.ok p c
  ·rw[cA]at c;subst c;exact uc (b.ok f (gM1 k)) (BO g)
 ·by_cases l:i<L.length
  ·rw[gL1 l]at h;exact b.len i p h
  ·have:=(Px h).1;rw[lA1,a0]at this;have u:i=L.length:=by lia
   subst u;rw[dy]at h;cases h;have:=b.len a f k;rw[lA1,a0];lia
 ·rw[gL1 (by lia)]at h1;by_cases v:i=a/\d=j
  ·obtain⟨rfl,rfl⟩:=v;rw[k]at h1;cases h1;rw[<- jY g h2,cx];exact mA1 _ (by simp)
  ·exact q _ (b.cl i d p r h1 h2 (by lia))
theorem BJ.zero{m a j:Nat}{w:d8}{L:List (Nat×List Nat)}(b:BJ m w L a j):0∈L.map (·.1):=cg.mpr ⟨_,gM1 b.hd,O⟩
theorem BJ.all{m a:Nat}{w:d8}{L:List (Nat×List Nat)}(hw:fS m w)(b:BJ m w L a 0)(ha:L.length<=a):∀v,v<m->v∈L.map (·.1):=by
 refine hw.rc (λv=>v∈L.map (·.1)) b.zero λu d e h2 g=>?_;obtain⟨p,c,f⟩:=PB g;obtain⟨i,hi⟩:=bq c;exact b.cl i d p e hi (by rw[f];exact h2) (.inl (by have:=(Px hi).1;lia))
structure Wlk (m:Nat)(w:d8)(ws:List (List Nat)):Prop where
 len:ws.length=m
 short:∀x∈ws,x.length<=8
 hd:ws[0]?=some []
 to:∀(v:Nat) (x:List Nat),ws[v]?=some x->eM w 0 x=some v
def kr(ws:List (List Nat)):List D:=ws.map λx=>.tup (et x)
def oD:Option Nat->D
 |none=>.non
 |some v=>.int v
theorem vz(o:Option Nat):(oD o).und 0=M:=by cases o<;>rfl
theorem Ap{n:Nat}{o:Ob}(h:o.und 0=M):o.sh n=o:=by
 have a:∀{κ:Type} (l:List (κ×D)),D.unds 0 (l.map (·.2))=M->(l.map λp=>(p.1,p.2.sh n))=l:=λl=>by
  induction l with
  |nil=>intro _;rfl
  |cons x l ih=>
   intro h;rw[mP1,D.unds,bA1]at h;rw[mP1,ih h.2,zF h.1]
 cases o with
 |lst xs=>rw[Ob.und]at h;rw[Ob.sh,nJ h]
 |dct l=>rw[Ob.und]at h;rw[Ob.sh,a l h]
 |dcT l=>rw[Ob.und]at h;rw[Ob.sh,a l h]
 |dcF l=>rw[Ob.und]at h;rw[Ob.sh,a l h]
 |iset l=>rfl
 |tst l=>rfl
theorem zy{n:Nat}{S:d7}(h:S.all (Ob.und 0)=M):S.map (Ob.sh n)=S:=by
 have:S.map (Ob.sh n)=S.map id:=de λo a=>Ap (bD.mp h o a);rw[this,di]
theorem xw{n:Nat}{f:FN}{ds:List D}{S:d7}{Q:D×d7->Prop}(hn:ds.length=n)(c:D.unds 0 ds=M)(h:W (f ds []) λp=>∃k xs,p.1 = .ref k/\p.2[k]?=Z (.lst xs)/\p.2.all (Ob.und 0)=M /\ ∀G j,(S++G)[j]?=Z (.lst xs)->G.all (Ob.und 0)=M->S.length<=j->Q (.ref j,S++G)):W (ea n f ds S) Q:=by
 obtain⟨⟨d,G⟩,e,k,xs,rfl,b,a,q⟩:=h;refine⟨_,uL e hn c O,?_⟩;dsimp only at b a;rw[zy a];exact q G _ (by rw[fJ];exact b) a (br _ _)
def rg(L:List (Nat×List Nat))(k:Nat)(G:d7):d7:=.dct (dF L) :: .lst (et ((L.map (·.1)).drop k))::G
theorem Hq(L:List (Nat×List Nat)):(Ob.dct (dF L)).und 0=M:=by
 rw[Ob.und,dF,bv];exact fj λp _=>by show(D.tup (et p.2)).und 0=M;rw[D.und];exact fv _
theorem Cq{L:List (Nat×List Nat)}{k:Nat}{G:d7}(h:G.all (Ob.und 0)=M):(rg L k G).all (Ob.und 0)=M:=by
 rw[rg,bS,bS,h,Hq,Ob.und,fv];rfl
theorem Cg{m:Nat}{w:d8}(hw:fS m w)(C:0<m)(hm:m<=8):W (gD [webD w] []) λp=>∃k ws,p.1 = .ref k/\p.2[k]?=Z (.lst (kr ws))/\p.2.all (Ob.und 0)=M/\Wlk m w ws:=by
 unfold gD;refine lf ?_;unfold mq;refine eV (λg V=>V=rg [(0,[])] 0 []/\g=[Z (webD w),Z (.ref 0),Z (.ref 1),Y,Y,Y,Y]) ?_ ?_
 ·exact W.of (x:=(.nx,[Z (webD w),Z (.ref 0),Z (.ref 1),Y,Y,Y,Y],rg [(0,[])] 0 [])) O ⟨O,O,O⟩
 rintro g V ⟨rfl,rfl⟩;refine eV (λg V=>∃L a G aq K au ao,BJ m w L a 0/\L.length<=a/\G.all (Ob.und 0)=M/\V=rg L a G/\g=[Z (webD w),Z (.ref 0),Z (.ref 1),aq,K,au,ao]) ?_ ?_
 ·refine sT (λk g V=>∃L G aq K au ao,BJ m w L k 0/\G.all (Ob.und 0)=M/\V=rg L k G/\g=[Z (webD w),Z (.ref 0),Z (.ref 1),aq,K,au,ao]) 8 ?_ 100000 0 _ _ (by lia) ⟨[(0,[])],[],_,_,_,_,⟨by simp,λp A=>by simp at A;subst A;exact C,O,λp A=>by simp at A;subst A;rfl,λi p h=>by cases i with|zero=>cases h;simp|succ i=>simp at h,λi d p e _ _ h=>by lia⟩,O,O,O⟩;rintro k g V ⟨L,G,aq,K,au,ao,b,hG,rfl,rfl⟩;have hLf:=b.few;unfold jI;have hne:=xa (S:=rg L k G++[.lst []]) (i:=1) (j:=(rg L k G).length) (xs:=et ((L.map (·.1)).drop k)) O (by rw[ee];rfl)
  wp_walk using hne
  have R:(G++[Ob.lst []]).all (Ob.und 0)=M:=by rw[df,hG];rfl
  have hst:rg L k G++[Ob.lst []]=rg L k (G++[.lst []]):=rfl;by_cases B:k<L.length
  ·obtain ⟨r,h0⟩:∃ p,L[k]? = some p:=⟨_,gG1 B⟩;have E:(L.map (·.1)).drop k=r.1::(L.map (·.1)).drop (k+1):=by
    rw[bX (by rw[lM1];exact B)]
    congr 1
    rw[List.getElem_map];rw[gG1 B]at h0;cases h0;rfl
   rw[ak (by rw[E];rfl)];refine⟨by lia,?_⟩;have hp0:=b.inn r (gM1 h0);obtain⟨s,o⟩:=k0 hw hp0;have hr4:=hw.le _ s o;rw[hst];unfold jH;refine eV (λg V=>V=rg L (k+1) (G++[.lst []])/\g=[Z (webD w),Z (.ref 0),Z (.ref 1),Z (.int (r.1:Nat)),K,au,ao]) ?_ ?_
   ·unfold eG;rw[d9];refine iK ?_;walk_at"w";refine⟨1,et ((L.map (·.1)).drop k),O,O,?_⟩;refine v8 (n:=1) (i:=0) (xs:=et ((L.map (·.1)).drop k)) (x:=.int (r.1:Nat)) O (by rw[E];rfl) (by lia) ?_;walk_at"w";rw[E];exact⟨O,trivial⟩
   rintro g V ⟨rfl,rfl⟩;unfold fz;rw[d9];refine px (xs:=s.map pD) ?_ ?_
   ·obtain⟨p,e,rfl⟩:=kU (S:=rg L (k+1) (G++[.lst []])) (Q:=λp=>p=(.tup (s.map pD),rg L (k+1) (G++[.lst []]))) o O;simp only[d5,d6,m2,b2,mV,gC1,dk,oS1,e]
   refine e9 (λj g V=>∃l y4 y5 y6,j<=s.length/\BJ m w l k j/\l[k]?=Z r/\V=rg l (k+1) (G++[.lst []])/\g=[Z (webD w),Z (.ref 0),Z (.ref 1),Z (.int (r.1:Nat)),y4,y5,y6]) _ 0 _ _ ⟨L,_,_,_,by lia,b,h0,O,O⟩ (λ_ _ _ _=>rfl) ?_ ?_
   ·rintro j dd T g V ⟨l,y4,y5,y6,hj,q,c,rfl,rfl⟩;rw[fZ,gP1]at T;obtain⟨z,hz,rfl⟩:=Pz T;obtain⟨goal,t,rfl⟩:=Pz hz;have hjlt:=(Px t).1;rw[bQ]at *
    have am:At w r.1 j goal:=⟨s,o,t⟩;have hLf':=q.few;have X:=hO q.nd (gM1 c);have P:l≠[]:=λz=>by rw[z]at c;simp at c
    unfold pD;walk_at"w";unfold jJ
    ((try walk_at"w");repeat(simp only[tY (S:=rg l (k+1) (G++[.lst []])) (n:=0) (F:=dF l) O];try walk_at"w"))
    by_cases y:goal.1∈l.map (·.1)
    ·obtain⟨p',hp',e'⟩:=PB y;have u:=hO q.nd hp';rw[e']at u;rw[u,aj (by simp)];exact⟨l,_,_,_,by lia,q.old c am y,c,O,O⟩
    ·rw[ua y,ak (by simp)]
     ((try walk_at"w");repeat(simp only[Ba (S:=rg l (k+1) (G++[.lst []])) (n:=0) (F:=dF l) O X];try walk_at"w"))
     have hkl:=(Px c).1;have hpl:r.2.length<=8:=by
      have h1:=q.len k r c;lia
     refine⟨ed (by rw[eY];lia),?_⟩;rw[i9]
     ((try walk_at"w");repeat(simp only[zI (S:=rg l (k+1) (G++[.lst []])) (n:=0) (v:=goal.1) (F:=dF l) (d:=.tup (et (r.2++[j]))) O (by unfold dF;simpa using P) (by unfold dF;rw[lM1];lia)];try walk_at"w"))
     rw[wB y];refine iK ?_;walk_at"w";refine⟨1,et ((l.map (·.1)).drop (k+1)),O,O,?_⟩;refine(kW (n:=1) (xs:=et ((l.map (·.1)).drop (k+1))) O).mpr ⟨ed (by rw[eY,aX,lM1];lia),?_⟩;refine⟨l++[(goal.1,r.2++[j])],_,_,_,by lia,q.new c am (hw.to _ _ _ am) y,by rw[gL1 hkl];exact c,?_,O⟩;unfold rg;rw[cx,cV (by rw[lM1];lia)];simp[et]
   ·rintro g V ⟨l,y4,y5,y6,hj,q,c,rfl,rfl⟩;rw[fY,lM1,bQ]at q;refine⟨O,l,_,_,_,_,_,⟨q.nd,q.inn,q.hd,q.ok,q.len,λi d p e h1 h2 h3=>q.cl i d p e h1 h2 ?_⟩,R,O,O⟩;rcases(show i<k\/i=k by lia)with h|rfl
    ·exact .inl h
    ·rw[c]at h1;cases h1;obtain⟨row',g1,g2⟩:=h2;rw[o]at g1;cases g1;exact .inr ⟨O,(Px g2).1⟩
  ·rw[aj (by rw[cS (by rw[lM1];lia)];decide)];exact⟨L,k,G++[.lst []],_,_,_,_,b,by lia,R,O,O⟩
 rintro g V ⟨L,a,G,aq,K,au,ao,b,ha,hG,rfl,rfl⟩;have U:∀v,∃x:List Nat,v<m->x.length<=8/\eM w 0 x=Z v/\eg (dF L) (Sum.inl (v:Int))=Z (.tup (et x))/\(v=0->x=[]):=λv=>by
  by_cases N:v<m
  ·obtain⟨p,A,e⟩:=PB (b.all hw ha v N);have h1:=hO b.nd A;have h5:=b.ok p A;rw[e]at h1 h5;obtain⟨i,hi⟩:=bq A;have h2:=b.len i p hi;have h3:=(Px hi).1;have h4:=b.few;refine⟨p.2,λ_=>⟨by lia,h5,h1,λz=>?_⟩⟩;subst z;have h6:=hO b.nd (gM1 b.hd);dsimp only at h6;rw[h6]at h1;have h7:D.tup (et []) = .tup (et p.2):=by simpa using h1
   exact(vB h7).symm
  ·exact⟨[],λh=>(N h).elim⟩
 obtain⟨f,wq⟩:=Classical.axiomOfChoice U
 wp_walk using gG
 rw[hw.len];refine⟨eW (by lia),?_⟩;rw[jj,NF];refine jo (f:=λj:Nat=>D.int j) (λv=>D.tup (et (f v))) (λg=>∃x,g=[x,Z (.ref 0)]) O (af m) _ ⟨_,O⟩ ?_ ?_
 ·rintro v N g ⟨x,rfl⟩;walk_at"w";refine W.of (x:=(.tup (et (f v)),rg L a G)) ?_ ⟨O,O,_,O⟩;exact Ba O (wq v (aB.mp N)).2.2.1
 ·rintro g ⟨x,rfl⟩;refine⟨ed (by rw[lM1,dB];lia),?_⟩;walk_at"w";refine⟨_,(af m).map f,O,?_,?_,⟨by simp,λx hx=>?_,?_,λv x h=>?_⟩⟩
  ·first|(rw[ee];show Z _=Z _;rw[kr,bv];rfl)|(unfold kr;rw[bv,ee];rfl)
  ·rw[df,Cq hG];show(D.unds 0 _&&M)=M;rw[bP];exact fj λv _=>by rw[D.und];exact fv _
  ·obtain⟨v,N,rfl⟩:=PB hx;exact(wq v (aB.mp N)).1
  ·rw[gP1,dA C,oP1,(wq 0 C).2.2.2 O]
  ·rw[gP1]at h;obtain⟨v',H,rfl⟩:=Pz h;have I:=(Px H).1;rw[dB]at I;rw[dA I]at H;cases H;exact(wq v I).2.1
theorem I0{m r:Nat}{w:d8}{ws:List Nat}{S:d7}{Q:D×d7->Prop}(hw:fS m w)(hr:r<m)(q:Q (oD (eM w r ws),S)):W (ea 3 iy [webD w,.int r,.tup (et ws)] S) Q:=by
 refine g0 O (by rw[D.unds,eQ,D.unds,D.unds,D.und,D.und,fv];rfl) ?_;unfold iy;refine lf ?_;unfold pu;refine zJ ?_;walk_at"w";rw[i7];refine l7 (λi l V=>∃(h:Nat) (p:Option D),h<m/\eM w r ws=eM w h (ws.drop i)/\V=[]/\l=[Z (webD w),Z (.int (h:Nat)),Z (.tup (et ws)),p]) _ 0 _ _ ⟨r,Y,hr,O,O,O⟩ (λ_ _ _ _=>rfl) ?_ ?_
 ·rintro i d n l V ⟨h,p,y,c,rfl,rfl⟩;dsimp only at n;rw[et,gP1]at n;obtain⟨x,o,rfl⟩:=Pz n;have j:=(Px o).1;obtain⟨a,b⟩:=k0 hw y;rw[bQ]at *
  have u:ws.drop i=x::ws.drop (i+1):=by
   rw[bX j];rw[gG1 j]at o;cases o;rfl
  rw[u,eM,gx b]at c;walk_at"w";unfold lV;refine Bi (λt=>t=(decide (a.length<=x),[])) ?_ (λV e=>?_) λV e=>?_
  ·have g:∀S:d7,Hh (.int (h:Nat)) .non S=Z (.bl J,S):=λS=>rfl
   wp_walk using g
   refine kU b ?_;walk_at"w";rw[lM1]
   congr 1
   rw[bT,al,al];lia
  ·injection e with g v;subst v;have s:a.length<=x:=N7 g.symm;rw[b6 s]at c;walk_at"w";rw[c]at q;exact .inr ⟨_,O,.inr ⟨_,O,O,q⟩⟩
  ·injection e with g v;subst v;have k:x<a.length:=by
    have:=of_decide_eq_false g.symm;lia
   have f:a[x]?=Z a[x]:=gG1 k;generalize a[x]=e' at f;rw[f]at c;walk_at"w";refine kU b ?_;refine j8 (i:=x) (x:=pD e') (by rw[gP1,f];rfl) ?_;refine j8 (i:=0) (x:=.int (e'.1:Nat)) O ?_;walk_at"w";exact .inl ⟨e'.1,_,hw.to h x e' ⟨a,b,f⟩,c,O⟩
 ·rintro l V ⟨h,p,y,c,rfl,rfl⟩;dsimp only at c;rw[eY,bQ,List.drop_length,eM]at c;rw[c]at q;refine .inl ⟨O,?_⟩;walk_at"w";exact⟨O,q⟩
def cnd(w:d8)(ws:List (List Nat))(r:Nat):List Nat:=ws.map λx=>(eM w r x).getD 0
def Gd(m:Nat)(w:d8)(ws:List (List Nat))(r:Nat):Prop:=(∀x∈ws,(eM w r x).isSome=M)/\(cnd w ws r).Nodup /\ ∀i,i<m->Car w (cnd w ws r) i
noncomputable def trs(m:Nat)(w:d8)(ws:List (List Nat))(k:Nat):List Nat:=(af k).filter λr=>tf (Gd m w ws r)
def gK(m:Nat)(w:d8)(ws:List (List Nat))(k:Nat):List D:=(trs m w ws k).map λr=>.tup (et (cnd w ws r))
theorem lp{m k:Nat}{w:d8}{ws:List (List Nat)}:gK m w ws (k+1)=gK m w ws k++if tf (Gd m w ws k)=M then[.tup (et (cnd w ws k))]else[]:=by
 unfold gK trs;rw[List.range_succ,dw,cx]
 congr 1
 cases h:tf (Gd m w ws k)with
 |true=>rw[dE (by exact h)];rfl
 |false=>rw[dG (by rw[h];decide)];rfl
theorem lr{m k:Nat}{w:d8}{ws:List (List Nat)}:(gK m w ws k).length<=k:=by
 unfold gK trs;rw[lM1];exact aC (dr ..) (by rw[dB];exact nR1 _)
theorem q0{m k:Nat}{w:d8}{ws:List (List Nat)}:D.unds 0 (gK m w ws k)=M:=fj λr _=>by rw[D.und];exact fv _
theorem vT{m r:Nat}{w:d8}{ws:List (List Nat)}(hw:fS m w)(a:0<m)(hr:r<m):∀x∈cnd w ws r,x<m:=λx b=>by
 obtain⟨y,_,rfl⟩:=PB b;cases h:eM w r y with
 |none=>exact a
 |some v=>exact rZ hw hr h
theorem Bg{S:d7}{n:Nat}{α:Type}{g:α->Option Nat}:∀l:List α,B4 (hH S (n+1)) .non (l.map λx=>oD (g x))=Z (l.any λx=>(g x).isNone)
 |[]=>rfl
 |x::l=>by
  have a:hH S (n+1) (oD (g x)) .non=Z ((g x).isNone):=by cases g x<;>rfl
  rw[mP1,B4,a,oS1,Bg l];rfl
theorem tX{S:d7}{α:Type}{g:α->Option Nat}{l:List α}:fX .non (.tup (l.map λx=>oD (g x))) S=Z (.bl (!l.any λx=>(g x).isNone),S):=by
 simp only[fX,iI,mS,ei,oS1,eL,show(60:Nat)=59+1 from rfl,Bg,oP1]
theorem mK{α:Type}{g:α->Option Nat}:∀{l:List α},(l.any λx=>(g x).isNone)=J->(l.map λx=>oD (g x))=et (l.map λx=>(g x).getD 0)
 |[],_=>rfl
 |x::l,h=>by
  rw[bf,dg]at h;have ih:=mK h.2;rw[mP1,ih];cases hx:g x with
  |none=>rw[hx]at h;cases h.1
  |some v=>unfold et;rw[mP1,mP1,hx];rfl
theorem Fn{rs:List Nat}{S:d7}(a:rs.length<=100):hW (.tup (et rs)) S=Z (.ref S.length,S++[.iset (ddI (rs.map λ(r:Nat)=>(r:Int)))]):=by
 unfold hW;rw[ke];dsimp only;rw[w4,oS1,ak (by rw[lM1];unfold OO;lia)]
theorem Hm{rs:List Nat}:((((ddI (rs.map λ(r:Nat)=>(r:Int))).length:Nat):Int) == (((et rs).length:Nat):Int))=tf rs.Nodup:=vg (by
 have:=(sv (rs.map λ(r:Nat)=>(r:Int)) [] bp).2;rw[bg,bQ,lM1,cW,sX]at this;rw[Pn,eY,<- this];unfold ddI;lia)
theorem pU{α:Type}{f:α->D}{k:α->Int}:∀{l:List α},(∀x∈l,iA (f x)=Z (k x))->l.Pairwise (λa b=>k a<k b)->jE (l.map f)=M
 |[],_,_=>rfl
 |x::l,h,p=>by
  rw[cc]at p;rw[mP1,jE,h x mS1,pU (λy c=>h y (mC1 _ c)) p.2,bP];dsimp only;rw[bD];intro y c;obtain⟨z,d,rfl⟩:=PB c;rw[h z (mC1 _ d)];exact ah (p.1 z d)
theorem yG{m r:Nat}{w:d8}{ws:List (List Nat)}(hk:Wlk m w ws):iA (.tup (et (cnd w ws r)))=Z (r:Int):=by
 have h:=hk.hd;cases ws with
 |nil=>cases h
 |cons x ws=>
  rw[dk]at h;cases h;rfl
theorem zz{m k n:Nat}{w:d8}{ws:List (List Nat)}{S:d7}(hk:Wlk m w ws)(hm:k<=8)(hn:S[n]?=Z (.lst (gK m w ws k))):gH (.ref n) S=Z (.ref S.length,S++[.lst (gK m w ws k)]):=by
 have b:=lr (m:=m) (k:=k) (w:=w) (ws:=ws);have a:jE (gK m w ws k)=M:=pU (k:=λr:Nat=>(r:Int)) (λr _=>yG hk) ((List.pairwise_lt_range.sublist List.filter_sublist).imp λh=>by lia);unfold gH;rw[gP hn];dsimp only;unfold gK at *
 generalize trs m w ws k=l at *
 cases l with
 |nil=>rfl
 |cons x l=>
  have:nj ((x::l).map λr=>D.tup (et (cnd w ws r)))=Y:=rfl;rw[this];dsimp only;rw[a,ah (by lia)];rfl
theorem AT{m:Nat}{w:d8}(hw:fS m w)(u:0<m)(hm:m<=8):W (gE [webD w] []) λp=>∃k ws,p.1 = .ref k/\p.2[k]?=Z (.lst (gK m w ws m))/\p.2.all (Ob.und 0)=M/\Wlk m w ws:=by
 unfold gE;refine lf ?_;unfold ms;refine eV (λa V=>∃G j ws,Wlk m w ws/\G.all (Ob.und 0)=M/\G[j]?=Z (.lst (kr ws))/\V = .lst (gK m w ws 0)::G/\a=[Z (webD w),Z (.ref 0),Z (.ref (j+1)),Y,Y]) ?_ ?_
 ·walk_at"w";refine xw O (by rw[D.unds,eQ];rfl) ((Cg hw u hm).mono ?_);rintro p ⟨k,ws,h1,h2,wq,T⟩;refine⟨k,kr ws,h1,h2,wq,λG j b c P=>?_⟩;walk_at"w";obtain⟨N,rfl⟩:∃N,j=N+1:=⟨j-1,by simp at P;lia⟩;refine⟨G,N,ws,T,c,b,O,O⟩
 rintro a V ⟨G,j,ws,L,c,b,rfl,rfl⟩;refine eV (λa V=>∃G C A,G.all (Ob.und 0)=M/\V = .lst (gK m w ws m)::G/\a=[Z (webD w),Z (.ref 0),Z (.ref (j+1)),C,A]) ?_ ?_
 ·wp_walk using gG
  rw[hw.len];refine⟨eW (by lia),?_⟩;rw[NF];refine e9 (λi a V=>∃G C A,i<=m/\G.all (Ob.und 0)=M/\G[j]?=Z (.lst (kr ws))/\V = .lst (gK m w ws i)::G/\a=[Z (webD w),Z (.ref 0),Z (.ref (j+1)),C,A]) _ 0 _ _ ⟨G,_,_,by lia,c,b,O,O⟩ (λ_ _ _ _=>rfl) ?_ ?_
  ·rintro i d s a V ⟨G,C,A,hi,c,b,rfl,rfl⟩;have l:=(Px s).1;rw[eN]at l;rw[jj,gP1,dA l]at s;cases s;rw[bQ]at *
   have ao:(cnd w ws i).length=m:=by unfold cnd;rw[lM1];exact L.len
   have au:=vT (ws:=ws) hw u l;have H:∀X:Ob,(X::G)[j+1]?=Z (.lst (kr ws)):=λX=>by rw[gC1];exact b
   walk_at"w";unfold jK;refine eV (λa V=>∃g,g.all (Ob.und 0)=M/\g[j]?=Z (.lst (kr ws))/\V = .lst (gK m w ws i)::g/\a=[Z (webD w),Z (.ref 0),Z (.ref (j+1)),Z (.int (i:Nat)),Z (.tup (ws.map λx=>oD (eM w i x)))]) ?_ ?_
   ·walk_at"w";refine eF (H _) ?_;unfold kr;refine jo (f:=λx:List Nat=>D.tup (et x)) (λx=>oD (eM w i x)) (λr=>∃x,r=[x,Z (webD w),Z (.int (i:Nat))]) (fq (H _)) ws _ ⟨_,O⟩ ?_ ?_
    ·rintro x B r ⟨y,rfl⟩;walk_at"w";refine I0 hw l ?_;exact⟨O,O,_,O⟩
    ·rintro a _;refine⟨ed (by rw[lM1,L.len];lia),?_⟩;walk_at"w";refine eF (by rw[gC1,ee];rfl) ?_;walk_at"w";refine⟨G++[.lst (ws.map λx=>oD (eM w i x))],?_,?_,O,trivial⟩
     ·rw[df,c];show(D.unds 0 _&&M)=M;rw[bP];exact fj λx _=>vz _
     ·rw[gL1 (Px b).1];exact b
   rintro a V ⟨G,c,b,rfl,rfl⟩;have am:W (rW (mB (m2 (b2 fX) (mC D.non) (mV 4))) (rW (mB (m2 (b2 gEq) (mN (b1 oQ) (d5 (mN (b1 hW) (d5 (mV 4) d6)) d6)) (mN (b1 eR) (d5 (mV 4) d6)))) (mTr (mN (ea 2 fU) (d5 (mV 0) (d5 (mV 4) d6))))) [Z (webD w),Z (.ref 0),Z (.ref (j+1)),Z (.int (i:Nat)),Z (.tup (ws.map λx=>oD (eM w i x)))] (Ob.lst (gK m w ws i)::G)) λp=>p.1=tf (Gd m w ws i) /\ ∃g,g.all (Ob.und 0)=M/\p.2=Ob.lst (gK m w ws i)::(G++g):=by
    cases q:ws.any λx=>(eM w i x).isNone with
    |true=>
     wp_walk using tX,q
     refine⟨(q7 ?_).symm,[],O,by rw[aP]⟩;rintro⟨h,_⟩;obtain⟨x,B,e⟩:=bU.mp q;have:=h x B;rw[Option.isSome_iff_ne_none]at this;exact this (Option.isNone_iff_eq_none.mp e)
    |false=>
     have I:∀x∈ws,(eM w i x).isSome=M:=λx B=>by
      rw[aN]at q;have:=q x B;cases h:eM w i x with
      |none=>rw[h]at this;exact absurd O this
      |some v=>rfl
     wp_walk using tX,q
     rw[mK q];have E:=Fn (rs:=cnd w ws i) (S:=Ob.lst (gK m w ws i)::G) (by lia);have U:(ws.map λx=>(eM w i x).getD 0)=cnd w ws i:=rfl;rw[U]
     wp_walk using E
     refine BW (by rw[gC1,ee];rfl) ?_;walk_at"w";rw[Hm];have o:[Ob.iset (ddI ((cnd w ws i).map λ(r:Nat)=>(r:Int)))].all (Ob.und 0)=M:=rfl;by_cases hnd:(cnd w ws i).Nodup
     ·rw[xT hnd];walk_at"w";refine DQ hw u ao au ?_;walk_at"w";exact⟨HS ⟨λh=>⟨I,hnd,h⟩,λh=>h.2.2⟩,_,o,O⟩
     ·rw[q7 hnd];walk_at"w";exact⟨(q7 λh=>hnd h.2.1).symm,_,o,O⟩
   unfold fV;rw[d9];refine am.mono ?_;rintro⟨t,V⟩ ⟨Q,g,o,R⟩;dsimp only at Q R ⊢;subst Q;subst R;have F:(G++g).all (Ob.und 0)=M:=by rw[df,c,o];rfl
   have K:(G++g)[j]?=Z (.lst (kr ws)):=by rw[gL1 (Px b).1];exact b
   cases hgd:tf (Gd m w ws i)with
   |true=>
    rw[ak O];unfold fQ;rw[d9];refine iK ?_;walk_at"w";refine⟨0,gK m w ws i,O,O,?_⟩;have hl:=lr (m:=m) (k:=i) (w:=w) (ws:=ws);refine(kW (n:=0) (xs:=gK m w ws i) O).mpr ⟨ed (by lia),?_⟩;walk_at"w";have q:(ws.any λx=>(eM w i x).isNone)=J:=by
     rw[aN];intro x B;have:=(q9.mp hgd).1 x B;cases h:eM w i x with
     |none=>rw[h]at this;cases this
     |some v=>intro z;cases z
    rw[mK q];refine⟨G++g,_,_,by lia,F,K,?_,O⟩;rw[lp,hgd,ak O];rfl
   |false=>
    rw[aj (by decide)];walk_at"w";refine⟨G++g,_,_,by lia,F,K,?_,O⟩;rw[lp,hgd,aj (by decide),aP]
  ·rintro a V ⟨G,C,A,hi,c,b,rfl,rfl⟩;rw[eN,bQ];exact⟨O,G,_,_,c,O,O⟩
 rintro a V ⟨G,C,A,c,rfl,rfl⟩;have aq:=zz (n:=0) (S:=Ob.lst (gK m w ws m)::G) L hm O
 wp_walk using aq
 refine⟨_,ws,O,by first|(rw[gC1,ee];rfl)|simp,?_,L⟩;rw[bS,df,c,Ob.und,q0];show(M&&(M&&(D.unds 0 _&&M)))=M;rw[q0];rfl
theorem yI{m r:Nat}{w:d8}{rs:List Nat}{S:d7}{Q:D×d7->Prop}(hw:fS m w)(k:0<m)(t:rs.length=m)(hr:∀x∈rs,x<m)(h:r<m)(q:Q (.bl (tf (Car w rs r)),S)):W (ea 3 gB [webD w,.tup (et rs),.int r] S) Q:=by
 refine g0 O (by rw[D.unds,eQ,D.unds,D.und,fv];rfl) ?_;unfold gB;refine lf ?_;unfold mm;obtain⟨b,a⟩:=k0 hw h;obtain⟨g,c⟩:=k0 hw (nO (i:=r) k hr);have u:=hw.le r b a;walk_at"w";refine uS (by lia) ?_;refine kU c ?_;refine kU a ?_;rw[i7];refine jo (f:=pD) (λe:Nat×Nat=>pD (oA rs e)) (λj=>∃o l,j=[o,l,Z (.tup (et rs))]) O b _ ⟨_,_,O⟩ ?_ ?_
 ·rintro e p j ⟨o,l,rfl⟩;obtain⟨d,s⟩:=bq p;have:=hw.to r d e ⟨b,a,s⟩;rw[pD];walk_at"w";refine uS (by lia) ?_;walk_at"w";exact⟨O,_,_,O⟩
 ·rintro j _;refine⟨ed (by rw[lM1];lia),?_⟩;walk_at"w";refine eF (n:=0) O ?_;have e:=D7 (S:=[Ob.lst (b.map λe:Nat×Nat=>pD (oA rs e))]) g (b.map (oA rs));rw[bv]at e;refine W.of e ?_;walk_at"w";refine⟨O,?_⟩;unfold Car at q;rw[gx a,gx c]at q;exact q
theorem EM{f g:FN}{a b c:FE}{r:Ev}{S:d7}{Q:D×d7->Prop}:W (mCh f g a b c r S) Q↔W (a r S) λp=>W (b r p.2) λq=>W (f [p.1,q.1] q.2) λt=>W (match t.1 with | .bl k=>if k=true then(c r t.2).bind λz=>g [q.1,z.1] z.2 else some (.bl false,t.2)|_=>none) Q:=by
 unfold mCh;simp only[d9]
 try exact Iff.rfl
theorem Hy{x:Nat×Nat}{S:d7}{Q:D×d7->Prop}(q:Q (.int x.1,S)):W (eA (pD x) (.int 0) S) Q:=j8 (i:=0) O q
def vi(w:d8):Nat->List Nat->List (Nat×Nat)
 |_,[]=>[]
 |r,d::ds=>match (gy w r)[d]? with
  |none=>[]
  |some e=>e::vi w e.1 ds
def ud(r:Nat)(ps:List (Nat×Nat)):Nat:=match ps.getLast? with
 |none=>r
 |some e=>e.1
theorem wx{w:d8}:∀{ws:List Nat} {r:Nat},(vi w r ws).length<=ws.length/\((vi w r ws).length<ws.length->eM w r ws=Y)/\(¬ (vi w r ws).length<ws.length->eM w r ws=Z (ud r (vi w r ws)))
 |[],r=>by simp[vi,eM,ud]
 |d::ws,r=>by
  rw[vi,eM];cases h:(gy w r)[d]? with
  |none=>simp
  |some e=>
   obtain⟨a,h1,h2⟩:=wx (w:=w) (ws:=ws) (r:=e.1);simp only[lC1,oS1];refine⟨by lia,λz=>h1 (by lia),λz=>?_⟩;rw[h2 (by lia)]
   congr 1
   unfold ud;cases hs:vi w e.1 ws with
   |nil=>rfl
   |cons x l=>rw[List.getLast?_cons_cons,List.getLast?_eq_some_getLast (List.cons_ne_nil x l)]
theorem Co{m r:Nat}{w:d8}{ws:List Nat}(hw:fS m w)(hr:r<m)(A:ws.length<=100):W (l5 [webD w,.int r,.tup (et ws)] []) λp=>p.1 = .tup ((vi w r ws).map pD):=by
 unfold l5;refine lf ?_;unfold xB;refine eV (λe S=>S=[.lst ([].map pD)]/\e=[Z (webD w),Z (.int r),Z (.tup (et ws)),Z (.ref 0),Y,Y,Y]) ?_ ?_
 ·walk_at"w"
  try exact⟨O,trivial⟩
 rintro e S ⟨rfl,rfl⟩;refine eV (λe S=>S=[.lst ([].map pD)]/\e=[Z (webD w),Z (.int r),Z (.tup (et ws)),Z (.ref 0),Z (.int (r:Nat)),Y,Y]) ?_ ?_
 ·walk_at"w"
 rintro e S ⟨rfl,rfl⟩;refine zJ ?_;walk_at"w";rw[i7];refine l7 (λi e S=>∃(ps:List (Nat×Nat)) (h:Nat) (s q:Option D),i<=ws.length/\ps.length=i/\h<m/\vi w r ws=ps++vi w h (ws.drop i)/\S=[.lst (ps.map pD)]/\e=[Z (webD w),Z (.int r),Z (.tup (et ws)),Z (.ref 0),Z (.int (h:Nat)),s,q]) _ 0 _ _ ⟨[],r,Y,Y,by lia,O,hr,O,O,O⟩ (λ_ _ _ _=>rfl) ?_ ?_
 ·rintro i d t e S ⟨ps,h,s,q,hi,o,z,a,rfl,rfl⟩;dsimp only at t;rw[et,gP1]at t;obtain⟨x,u,rfl⟩:=Pz t;have l:=(Px u).1;obtain⟨b,c⟩:=k0 hw z;rw[bQ]at *
  have y:ws.drop i=x::ws.drop (i+1):=by
   rw[bX l];rw[gG1 l]at u;cases u;rfl
  rw[y,vi,gx c]at a;walk_at"w";unfold p0;unfold eu fV rT;rw[d9,d9,d9];have k:W (mB (mCh (b2 (kB λi j=>decide (i<=j))) (b2 gLt) (mC (D.int (0))) (mV 5) (mN (b1 eR) (d5 (m2 (b2 eA) (mV 0) (mV 4)) d6))) [Z (webD w),Z (.int r),Z (.tup (et ws)),Z (.ref 0),Z (.int (h:Nat)),Z (.int (x:Nat)),q] [.lst (ps.map pD)]) λp=>p=(decide (x<b.length),[.lst (ps.map pD)]):=by
   wp_walk using EM
   rw[ak (by rw[al];lia)]
   try walk_at"w"
   refine kU c ?_;walk_at"w";rw[lM1]
   congr 1
   rw[bT,al,al];lia
  refine k.mono ?_;rintro p rfl;rw[ez];dsimp only;by_cases g:x<b.length
  ·rw[ah g,aj (show¬ (!true)=M by decide)];have f:b[x]?=Z b[x]:=gG1 g;have v:=hw.to h x b[x] ⟨b,c,f⟩;rw[f]at a;dsimp only at a;walk_at"w";refine kU c ?_;walk_at"w";refine j8 (i:=x) (x:=pD b[x]) (by rw[gP1,f];rfl) ?_;rw[pD];walk_at"w";refine iK ?_;walk_at"w";refine⟨0,ps.map pD,O,O,?_⟩;refine(kW (n:=0) (xs:=ps.map pD) O).mpr ⟨ed (by rw[lM1];lia),?_⟩;refine .inl ⟨ps++[b[x]],b[x].1,_,_,by lia,by rw[lA1,o];rfl,v,?_,by rw[cx];rfl,O⟩;rw[a,bJ];rfl
  ·rw[ai g,ak (show(!false)=M from rfl)];rw[b6 (by lia)]at a;dsimp only at a;rw[aP]at a;walk_at"w";refine eF (n:=0) (xs:=ps.map pD) O ?_;refine .inr ⟨_,O,.inr ⟨_,O,?_⟩⟩;rw[a]
 ·rintro e S ⟨ps,h,s,q,hi,o,z,a,rfl,rfl⟩;dsimp only at a;rw[eY,bQ,List.drop_length,vi,aP]at a;refine .inl ⟨O,?_⟩;walk_at"w";refine eF (n:=0) (xs:=ps.map pD) O ?_;rw[a]
theorem FW{m r:Nat}{w:d8}{ws:List Nat}{S:d7}{Q:D×d7->Prop}(hw:fS m w)(hr:r<m)(d:ws.length<=100)(q:Q (oD (eM w r ws),S)):W (ea 3 t7 [webD w,.int r,.tup (et ws)] S) Q:=by
 have c:D.unds 0 [webD w,.int r,.tup (et ws)]=M:=by rw[D.unds,eQ,D.unds,D.unds,D.und,D.und,fv];rfl
 obtain⟨e,h1,h2⟩:=wx (w:=w) (ws:=ws) (r:=r);refine g0 O c ?_;unfold t7;refine lf ?_;unfold EK;refine eV (λb V=>V=[]/\b=[Z (webD w),Z (.int r),Z (.tup (et ws)),Z (.tup ((vi w r ws).map pD))]) ?_ ?_
 ·walk_at"w";refine g0 O c ((Co hw hr d).mono ?_);rintro p h1;rw[h1];exact⟨by rw[D.und];exact fj λ_ _=>rfl,O,O⟩
 rintro b V ⟨rfl,rfl⟩;generalize vi w r ws=ps at *
 walk_at"w";rw[lM1,eY];split
 ·rename_i a;rw[h1 (by have:=N7 a;lia)]at q
  try walk_at"w"
  exact⟨O,q⟩
 ·rename_i a;rw[h2 (λz=>a (ah (by lia)))]at q;rcases dH ps with rfl|⟨l,x,rfl⟩
  ·wp_walk using mF
   exact⟨O,q⟩
  ·have t:mF [] (.tup ((l.concat x).map pD))=Z M:=by simp[mF,ei]
   wp_walk using t
   have g:eA (.tup ((l.concat x).map pD)) (.int (-1)) []=Z (pD x,[]):=by
    rw[dI,cx];show xg (.tup (l.map pD++[pD x])) (.int (-1)) []=_;unfold xg ei;simp[uO]
   wp_walk using Bp,g
   refine Hy ?_;have:ud r (l.concat x)=x.1:=by unfold ud;simp
   rw[this]at q;exact⟨O,q⟩
def uX(L:List (Nat×List Nat)):d7:=[.dct (dF L),.lst (et (L.map (·.1)))]
theorem zf{m:Nat}{w:d8}{S:d7}{Q:D×d7->Prop}(hw:fS m w)(G:0<m)(hm:m<=8)(q:∀ws:List (List Nat),Wlk m w ws->Q (.tup (kr ws),S)):W (ea 2 mL [webD w,.int 0] S) Q:=by
 refine g0 O (by rw[D.unds,eQ,D.unds,D.und];rfl) ?_;unfold mL;refine lf ?_;unfold BM;refine eV (λg V=>V=[.dct (dF [(0,[])])]/\g=[Z (webD w),Z (.int 0),Z (.ref 0),Y,Y,Y,Y,Y,Y]) ?_ ?_
 ·have e:wP [((mV 1),(fw d6))] [Z (webD w),Z (.int 0),Y,Y,Y,Y,Y,Y,Y] []=Z (.ref 0,[.dct (dF [(0,[])])]):=rfl
  wp_walk using e
 rintro g V ⟨rfl,rfl⟩;refine eV (λg V=>V=uX [(0,[])]/\g=[Z (webD w),Z (.int 0),Z (.ref 0),Z (.ref 1),Y,Y,Y,Y,Y]) ?_ ?_
 ·walk_at"w";exact⟨O,trivial⟩
 rintro g V ⟨rfl,rfl⟩;refine eV (λg V=>V=uX [(0,[])]/\g=[Z (webD w),Z (.int 0),Z (.ref 0),Z (.ref 1),Z (.int ((0:Nat):Int)),Y,Y,Y,Y]) ?_ ?_
 ·walk_at"w";rfl
 rintro g V ⟨rfl,rfl⟩;refine eV (λg V=>∃L a x4 X ao P N,BJ m w L a 0/\L.length<=a/\V=uX L/\g=[Z (webD w),Z (.int 0),Z (.ref 0),Z (.ref 1),x4,X,ao,P,N]) ?_ ?_
 ·refine sT (λk g V=>∃L X ao P N,BJ m w L k 0/\V=uX L/\g=[Z (webD w),Z (.int 0),Z (.ref 0),Z (.ref 1),Z (.int (k:Nat)),X,ao,P,N]) 8 ?_ 100000 0 _ _ (by lia) ⟨[(0,[])],_,_,_,_,⟨by simp,λp B=>by simp at B;subst B;exact G,O,λp B=>by simp at B;subst B;rfl,λi p h=>by cases i with|zero=>cases h;simp|succ i=>simp at h,λi d p e _ _ h=>by lia⟩,O,O⟩;rintro k g V ⟨L,X,ao,P,N,b,rfl,rfl⟩;have hLf:=b.few;unfold tO;walk_at"w";refine eF (xs:=et (L.map (·.1))) O ?_;walk_at"w";rw[eY,lM1];by_cases hlt:k<L.length
  ·rw[ak (by rw[al];lia)];refine⟨by lia,?_⟩;obtain⟨s,h0⟩:∃p,L[k]?=some p:=⟨_,gG1 hlt⟩;have hp0:=b.inn s (gM1 h0);obtain⟨t,r⟩:=k0 hw hp0;have hr4:=hw.le _ t r;unfold tN;refine eV (λg V=>V=uX L/\g=[Z (webD w),Z (.int 0),Z (.ref 0),Z (.ref 1),Z (.int (k:Nat)),Z (.int (s.1:Nat)),ao,P,N]) ?_ ?_
   ·walk_at"w";refine nt (i:=k) (xs:=et (L.map (·.1))) (x:=.int (s.1:Nat)) O (by rw[et,gP1,gP1,h0];rfl) ?_;walk_at"w"
   rintro g V ⟨rfl,rfl⟩;refine eV (λg V=>∃l am C E,BJ m w l k t.length/\l[k]?=Z s/\V=uX l/\g=[Z (webD w),Z (.int 0),Z (.ref 0),Z (.ref 1),Z (.int (k:Nat)),Z (.int (s.1:Nat)),am,C,E]) ?_ ?_
   ·unfold fz;rw[d9];refine px (xs:=t.map pD) ?_ ?_
    ·obtain⟨p,e,rfl⟩:=kU (S:=uX L) (Q:=λp=>p=(.tup (t.map pD),uX L)) r O;simp only[d5,d6,m2,b2,mV,gC1,dk,oS1,e]
    refine e9 (λj g V=>∃l am C E,j<=t.length/\BJ m w l k j/\l[k]?=Z s/\V=uX l/\g=[Z (webD w),Z (.int 0),Z (.ref 0),Z (.ref 1),Z (.int (k:Nat)),Z (.int (s.1:Nat)),am,C,E]) _ 0 _ _ ⟨L,_,_,_,by lia,b,h0,O,O⟩ (λ_ _ _ _=>rfl) ?_ ?_
    ·rintro j dd R g V ⟨l,am,C,E,hj,o,c,rfl,rfl⟩;rw[fZ,gP1]at R;obtain⟨z,hz,rfl⟩:=Pz R;obtain⟨goal,u,rfl⟩:=Pz hz;have hjlt:=(Px u).1;rw[bQ]at *
     have K:At w s.1 j goal:=⟨t,r,u⟩;have hLf':=o.few;have U:=hO o.nd (gM1 c);have wq:l≠[]:=λz=>by rw[z]at c;simp at c
     unfold pD;walk_at"w";unfold tP
     wp_walk using tY (S:=uX l) (n:=0) (F:=dF l) O
     by_cases A:goal.1∈l.map (·.1)
     ·obtain⟨p',hp',e'⟩:=PB A;have y:=hO o.nd hp';rw[e']at y;rw[y,aj (by simp)];exact⟨l,_,_,_,by lia,o.old c K A,c,O,O⟩
     ·rw[ua A,ak (by simp)]
      wp_walk using Ba (S:=uX l) (n:=0) (F:=dF l) O U
      have hpl:s.2.length<=8:=by
       have h1:=o.len k s c;have h2:=(Px c).1;lia
      refine⟨ed (by rw[eY];lia),?_⟩;rw[i9]
      ((try walk_at"w");repeat(simp only[zI (S:=uX l) (n:=0) (v:=goal.1) (F:=dF l) (d:=.tup (et (s.2++[j]))) O (by unfold dF;simpa using wq) (by unfold dF;rw[lM1];lia)];try walk_at"w"))
      rw[wB A];refine iK ?_;walk_at"w";refine⟨1,et (l.map (·.1)),O,O,?_⟩;refine(kW (n:=1) (xs:=et (l.map (·.1))) O).mpr ⟨ed (by rw[eY,lM1];lia),?_⟩;refine⟨l++[(goal.1,s.2++[j])],_,_,_,by lia,o.new c K (hw.to _ _ _ K) A,by rw[gL1 (Px c).1];exact c,?_,O⟩;unfold uX;simp[et]
    ·rintro g V ⟨l,am,C,E,hj,o,c,rfl,rfl⟩;rw[fY,lM1,bQ]at o;exact⟨O,l,_,_,_,o,c,O,O⟩
   rintro g V ⟨l,am,C,E,o,c,rfl,rfl⟩;refine W.of (x:=(.nx,[Z (webD w),Z (.int 0),Z (.ref 0),Z (.ref 1),Z (.int ((k+1:Nat):Int)),Z (.int (s.1:Nat)),am,C,E],uX l)) O ?_;refine⟨O,l,_,_,_,_,⟨o.nd,o.inn,o.hd,o.ok,o.len,λi d p e h1 h2 h3=>o.cl i d p e h1 h2 ?_⟩,O,O⟩;rcases(show i<k\/i=k by lia)with h|rfl
   ·exact .inl h
   ·rw[c]at h1;cases h1;obtain⟨row',g1,g2⟩:=h2;rw[r]at g1;cases g1;exact .inr ⟨O,(Px g2).1⟩
  ·rw[aj (by rw[al];lia)];exact⟨L,k,_,_,_,_,_,b,by lia,O,O⟩
 rintro g V ⟨L,a,x4,X,ao,P,N,b,ha,rfl,rfl⟩;have T:∀v,∃x:List Nat,v<m->x.length<=8/\eM w 0 x=Z v/\eg (dF L) (Sum.inl (v:Int))=Z (.tup (et x))/\(v=0->x=[]):=λv=>by
  by_cases au:v<m
  ·obtain⟨p,B,e⟩:=PB (b.all hw ha v au);have h1:=hO b.nd B;have h5:=b.ok p B;rw[e]at h1 h5;obtain⟨i,hi⟩:=bq B;have h2:=b.len i p hi;have h3:=(Px hi).1;have h4:=b.few;refine⟨p.2,λ_=>⟨by lia,h5,h1,λz=>?_⟩⟩;subst z;have h6:=hO b.nd (gM1 b.hd);dsimp only at h6;rw[h6]at h1;have h7:D.tup (et []) = .tup (et p.2):=by simpa using h1
   exact(vB h7).symm
  ·exact⟨[],λh=>(au h).elim⟩
 obtain⟨f,aq⟩:=Classical.axiomOfChoice T
 wp_walk using gG
 rw[hw.len];refine⟨eW (by lia),?_⟩;rw[jj,NF];refine jo (f:=λj:Nat=>D.int j) (λv=>D.tup (et (f v))) (λg=>∃x,g=[x,Z (.ref 0)]) O (af m) _ ⟨_,O⟩ ?_ ?_
 ·rintro v au g ⟨x,rfl⟩;walk_at"w";refine W.of (x:=(.tup (et (f v)),uX L)) ?_ ⟨O,O,_,O⟩;have hk:=(aq v (aB.mp au)).2.2.1;show(Z ((eg (dF L) (Sum.inl (v:Int))).getD .non,uX L))=_;rw[hk];rfl
 ·rintro g ⟨x,rfl⟩;refine⟨ed (by rw[lM1,dB];lia),?_⟩;walk_at"w";refine eF O ?_;refine⟨?_,?_⟩
  ·rw[D.und];exact Mi.fj λ_ _=>by rw[D.und];exact iO (fv _)
  ·have:=q ((List.range m).map f) ⟨by simp,fun x hx=>by
    obtain⟨v,au,rfl⟩:=PB hx;exact(aq v (aB.mp au)).1,by rw[gP1,dA G,oP1,(aq 0 G).2.2.2 O],λv x h=>by
    rw[gP1]at h;obtain⟨v',H,rfl⟩:=Pz h;have I:=(Px H).1;rw[dB]at I;rw[dA I]at H;cases H;exact(aq v I).2.1⟩
   unfold kr at this;rw[bv]at this;exact this
theorem v9{T:Ty}{m:FE}{r:Ev}{S:d7}{Q:D×d7->Prop}:W (nA T m r S) Q↔W (m r S) λp=>W (vL p.2 T p.1) λb=>Q (.bl b,p.2):=by
 unfold nA;rw[d9];simp only[j7]
theorem Bb{S:d7}{T:Ty}{xs:List D}:vL S T (.tup xs)=Z (decide (T = .tuple)):=rfl
theorem Ha{S:d7}{T:Ty}{i:Int}:vL S T (.int i)=Z (decide (T = .int)):=rfl
theorem HC{n:Nat}{S:d7}{xs:List D}{f:D->Bool}{Q:D×d7->Prop}(h:S[n]?=Z (.lst (xs.map λx=>.bl (f x))))(q:Q (.bl (xs.all f),S)):W (mU (.ref n) S) Q:=by
 refine W.of ?_ q;unfold mU;rw[gP h,oS1];dsimp only;rw[j5];rfl
theorem Ga{m:Nat}{o:Option Nat}{S:d7}{Q:D×d7->Prop}(hd:∀v,o=Z v->v<m)(q:Q (.bl o.isSome,S)):W (ea 2 iw [oD o,.int m] S) Q:=by
 refine g0 O (by rw[D.unds,vz];rfl) ?_;cases o with
 |none=>exact⟨(.bl J,[]),O,O,q⟩
 |some e=>
  have a:=hd e O;have h1:ea 1 je [.int e] []=Z (.bl M,[]):=rfl;unfold iw;refine lf ?_;unfold pk oD
  wp_walk using h1,EM
  rw[ak (by rw[al];lia)]
  try walk_at"w"
  rw[ah (show(e:Int)<(m:Int) by lia)];exact⟨O,q⟩
theorem sx{w:d8}{ws:List (List Nat)}{r:Nat}:D.unds 0 (ws.map λx=>oD (eM w r x))=M:=fj λx _=>vz _
def Og(w:d8)(ws:List (List Nat))(r:Nat):Prop:=(∀x∈ws,(eM w r x).isSome=M)/\(cnd w ws r).Nodup
theorem zY{m r:Nat}{w:d8}{ws:List (List Nat)}{S:d7}{Q:D×d7->Prop}(hw:fS m w)(hm:m<=8)(hk:Wlk m w ws)(hr:r<m)(q:Q (.bl (tf (Og w ws r)),S)):W (ea 2 iq [webD w,.tup (ws.map λx=>oD (eM w r x))] S) Q:=by
 refine g0 O (by rw[D.unds,eQ,D.unds,D.und,sx];rfl) ?_;unfold iq;refine lf ?_;unfold pf;have h1:ea 2 fL [.tup (ws.map λx=>oD (eM w r x)),.int w.length] []=Z (.bl M,[]):=by
  refine qr (S1:=[]) ?_ O (by rw[D.unds,D.und,sx];rfl) O;have:W (fL [.tup (ws.map λx=>oD (eM w r x)),.int w.length] []) λp=>p=(.bl M,[]):=by
   unfold fL;refine lf ?_;unfold kQ
   wp_walk using v9,Bb
   rw[lM1,hk.len,hw.len];simp
  obtain⟨p,e,rfl⟩:=this;exact e
 wp_walk using gG,h1
 rw[i7];refine jo (f:=λx=>oD (eM w r x)) (λx=>.bl (eM w r x).isSome) (λr=>∃x,r=[x,Z (webD w)]) O ws _ ⟨_,O⟩ ?_ ?_
 ·rintro x b d ⟨y,rfl⟩
  wp_walk using gG
  rw[hw.len];refine Ga (λv i=>rZ hw hr i) ?_;exact⟨O,O,_,O⟩
 ·rintro d _;refine ⟨ed (by rw [lM1,hk.len];lia),?_⟩;walk_at"w";have c:mU (.ref 0) [.lst (ws.map fun x=>D.bl (eM w r x).isSome)]=some (.bl (ws.all fun x=>(eM w r x).isSome),[.lst (ws.map fun x=>D.bl (eM w r x).isSome)]):=by
   simp only[mU,ei,dk,oS1,j5,oP1]
  refine W.of c ?_;walk_at"w";cases hall:ws.all λx=>(eM w r x).isSome with
  |false=>
   walk_at"w";rw[q7 (λh=>by rw[bD.mpr h.1]at hall;cases hall)]at q;exact⟨O,q⟩
  |true=>
   have a:=bD.mp hall;have g:(ws.any λx=>(eM w r x).isNone)=J:=by
    rw[aN];intro x b;have:=a x b;cases h:eM w r x with
    |none=>rw[h]at this;cases this
    |some v=>intro z;cases z
   rw[mK g,show(ws.map λx=>(eM w r x).getD 0)=cnd w ws r from rfl];walk_at"w";refine zh (by unfold cnd;rw[lM1,hk.len];lia) ?_;walk_at"w";rw[HS (show Og w ws r↔(cnd w ws r).Nodup from⟨λh=>h.2,λh=>⟨a,h⟩⟩)]at q;exact⟨O,q⟩
theorem CH{m r:Nat}{w:d8}{ws:List (List Nat)}{S:d7}{Q:D×d7->Prop}(hw:fS m w)(b:0<m)(hm:m<=8)(hk:Wlk m w ws)(hr:r<m)(q:Q (.bl (tf (Gd m w ws r)),S)):W (ea 2 iX [webD w,.tup (ws.map λx=>oD (eM w r x))] S) Q:=by
 refine g0 O (by rw[D.unds,eQ,D.unds,D.und,sx];rfl) ?_;unfold iX;refine lf ?_;unfold qC;walk_at"w";refine zY hw hm hk hr ?_;walk_at"w";by_cases a:Og w ws r
 ·rw [xT a];have k:(ws.any fun x=>(eM w r x).isNone)=false:=by
   rw[aN];intro x l;have:=a.1 x l;cases h:eM w r x with
   |none=>rw[h]at this;cases this
   |some v=>intro z;cases z
  rw[mK k,show(ws.map λx=>(eM w r x).getD 0)=cnd w ws r from rfl];have c:(cnd w ws r).length=m:=by unfold cnd;rw[lM1];exact hk.len
  have g:=vT (ws:=ws) hw b hr
  wp_walk using gG
  rw[hw.len];refine⟨eW (by lia),?_⟩;rw[NF,jj];refine jo (f:=λi:Nat=>D.int i) (λi=>.bl (tf (Car w (cnd w ws r) i))) (λd=>∃x,d=[x,Z (webD w),Z (.tup (et (cnd w ws r)))]) O (af m) _ ⟨_,O⟩ ?_ ?_
  ·rintro i hi d ⟨x,rfl⟩;walk_at"w";refine yI hw b c g (aB.mp hi) ?_;exact⟨O,O,_,O⟩
  ·rintro d _;refine ⟨ed (by rw [lM1,dB];lia),?_⟩;walk_at"w";have j:mU (.ref 0) [.lst ((List.range m).map fun i=>D.bl (tf (Car w (cnd w ws r) i)))]=some (.bl ((List.range m).all fun i=>tf (Car w (cnd w ws r) i)),[.lst ((List.range m).map fun i=>D.bl (tf (Car w (cnd w ws r) i)))]):=by
    simp only[mU,ei,dk,oS1,j5,oP1]
   refine W.of j ?_;walk_at"w";have e:((af m).all λi=>tf (Car w (cnd w ws r) i))=tf (Gd m w ws r):=vg (by
    rw[bD];exact⟨λh=>⟨a.1,a.2,λi hi=>q9.mp (h i (aB.mpr hi))⟩,λh i hi=>xT (h.2.2 i (aB.mp hi))⟩)
   rw[e];exact⟨O,q⟩
 ·rw[q7 a];rw[q7 (λh=>a ⟨h.1,h.2.1⟩)]at q;walk_at"w";exact⟨O,q⟩
theorem Ci{m:Nat}{w:d8}{S:d7}{Q:D×d7->Prop}(hw:fS m w)(n:0<m)(hm:m<=8)(q:∀ws,Wlk m w ws->Q (.tup (gK m w ws m),S)):W (ea 1 l0 [webD w] S) Q:=by
 refine g0 O (by rw[D.unds,eQ];rfl) ?_;unfold l0;refine lf ?_;unfold xA;refine eV (λr V=>∃ws,Wlk m w ws/\V=[]/\r=[Z (webD w),Z (.tup (kr ws)),Y]) ?_ ?_
 ·walk_at"w";refine zf hw n hm λws l=>?_;exact⟨ws,l,O,O⟩
 rintro r V ⟨ws,l,rfl,rfl⟩;refine eV (λr V=>∃G:d7,V=G++[.lst ((af m).map λi=>D.tup (ws.map λx=>oD (eM w i x)))]/\r=[Z (webD w),Z (.tup (kr ws)),Z (.ref G.length)]) ?_ ?_
 ·wp_walk using gG
  rw[hw.len];refine⟨eW (by lia),?_⟩;rw[NF];refine gm (λi b r S=>i<=m/\(∃x,r=[x,Z (.tup (kr ws)),Z (webD w)])/\b=(af i).map λi=>D.tup (ws.map λx=>oD (eM w i x))) (gb 0 m) 0 [] _ _ ⟨by lia,⟨_,O⟩,O⟩ (λ_ _ _ _ _=>rfl) ?_ ?_
  ·rintro i d a b r S ⟨hi,⟨x,rfl⟩,rfl⟩;have c:=(Px a).1;rw[eN]at c;rw[jj,gP1,dA c]at a;cases a;rw[bQ]at *
   walk_at"w";unfold kr;rw[i7];refine jo (f:=λx:List Nat=>D.tup (et x)) (λx=>oD (eM w i x)) (λr=>∃x,r=[x,Z (webD w),Z (.int (i:Nat))]) O ws _ ⟨_,O⟩ ?_ ?_
   ·rintro y s r ⟨x,rfl⟩;walk_at"w";refine FW hw c (by have:=l.short y s;lia) ?_;exact⟨O,O,_,O⟩
   ·rintro A _;refine⟨ed (by rw[lM1,l.len];lia),?_⟩;walk_at"w";refine eF (by rw[ee];rfl) ?_;refine⟨by lia,⟨_,O⟩,?_⟩;rw[List.range_succ,cx];rfl
  ·rintro xs r S ⟨hi,⟨x,rfl⟩,e⟩;rw[cW,eN,bQ]at e;subst e;refine⟨ed (by rw[lM1,dB];lia),?_⟩;walk_at"w";exact⟨S,O,O⟩
 rintro r V ⟨G,rfl,rfl⟩;have o:(G++[Ob.lst ((af m).map λi=>D.tup (ws.map λx=>oD (eM w i x)))])[G.length]?=Z (.lst ((af m).map λi=>D.tup (ws.map λx=>oD (eM w i x)))):=by rw[ee];rfl
 walk_at"w";refine eF o ?_;refine gm (λi b r S=>i<=m/\S=G++[.lst ((af m).map λi=>D.tup (ws.map λx=>oD (eM w i x)))]/\(∃x,r=[x,Z (webD w)])/\b=gK m w ws i) _ 0 [] _ _ ⟨by lia,O,⟨_,O⟩,O⟩ ?_ ?_ ?_
 ·rintro i b r S ⟨_,rfl,_⟩;exact fq o
 ·rintro i d a b r S ⟨hi,rfl,⟨x,rfl⟩,rfl⟩;dsimp only at a;rw[gP1]at a;obtain⟨u,g,rfl⟩:=Pz a;have j:=(Px g).1;rw[dB]at j;rw[dA j]at g;cases g;rw[bQ]at *
  walk_at"w";refine CH hw n hm l j ?_;walk_at"w";cases hgd:tf (Gd m w ws i)with
  |false=>
   rw[aj (by decide)];refine⟨by lia,⟨_,O⟩,?_⟩;rw[lp,hgd,aj (by decide),aP]
  |true=>
   rw[ak O];refine⟨by lia,⟨_,O⟩,?_⟩;have t:(ws.any λx=>(eM w i x).isNone)=J:=by
    rw[aN];intro x p;have:=(q9.mp hgd).1 x p;cases h:eM w i x with
    |none=>rw[h]at this;cases this
    |some v=>intro z;cases z
   rw[lp,hgd,ak O,mK t];rfl
 ·rintro xs r S ⟨hi,rfl,⟨x,rfl⟩,e⟩;dsimp only at e;rw[cW,lM1,dB,bQ]at e;subst e;have B:=lr (m:=m) (k:=m) (w:=w) (ws:=ws);refine⟨ed (by dsimp only;lia),?_⟩;walk_at"w";refine eF (xs:=gK m w ws m) (by first|(rw[fJ];rfl)|(rw[ee];rfl)|simp) ?_;exact⟨by rw[D.und];exact q0,q ws l⟩
theorem wf:∀xs:List D,xJ xs xs=xs.map λx=>D.tup [x,x]
 |[]=>rfl
 |x::xs=>by rw[xJ,wf xs];rfl
theorem JE{m:FA}{r:Ev}{S:d7}{xs ys:List D}{Q:yO×d7->Prop}(hm:m r S=Z ([.tup xs,.tup ys],S))(q:Q (⟨xJ xs ys,[]⟩,S)):W (Jc m r S) Q:=by
 refine W.of ?_ q;unfold Jc;rw[hm];rfl
theorem zK(n:Nat)(i:Int)(S:d7):W (fx (n+1) [.int i,.int i] S) λp=>p=(.bl M,S):=by
 rw[fx];refine lf ?_;unfold g8
 wp_walk using v9,Ha
 simp only[reduceCtorEq,O1,O0,Oz];walk_at"w"
def iE(xs:List Nat):List Nat:=(jz (xs.map λ(r:Nat)=>(r:Int))).map Int.toNat
theorem kZ(xs:List Nat):(iE xs).Perm xs:=by
 have:=(fI (xs.map λ(r:Nat)=>(r:Int))).map Int.toNat
 rw[bv]at this;have e:(Int.toNat∘λ(r:Nat)=>(r:Int))=id:=by funext x;simp
 rw[e,di]at this;exact this
theorem zB(xs:List Nat):(jz (xs.map λ(r:Nat)=>(r:Int))).map D.int=et (iE xs):=by
 unfold et iE;rw[bv];refine de λi hi=>?_;obtain⟨x,_,rfl⟩:=PB ((fI _).mem_iff.mp hi);rfl
theorem vk{xs ys:List Nat}(h:xs.Perm ys):iE xs=iE ys:=by
 unfold iE;rw[nL (((fI _).trans (h.map _)).trans (fI _).symm) (iP _) (iP _)]
theorem Be(xs:List Nat):nj (et xs)=Z (xs.map λ(r:Nat)=>(r:Int)):=by
 induction xs with
 |nil=>rfl
 |cons x xs ih=>
  show(nj (et xs)).map _=_;rw[ih];rfl
theorem xE{S:d7}{n:Nat}{xs:List Nat}{Q:D×d7->Prop}(h:S[n]?=Z (.lst (et xs)))(a:xs.length<64)(q:Q (.ref S.length,S++[.lst (et (iE xs))])):W (gH (.ref n) S) Q:=by
 refine W.of ?_ q;unfold gH;rw[gP h];dsimp only;rw[Be];dsimp only;rw[ak (by rw[lM1];exact a),zB]
def app(t rs:List Nat):List Nat:=rs.map λr=>t.getD r 0
theorem BC{t rs:List Nat}{k:Nat}{S:d7}{r:Ev}{Q:List D×Ev×d7->Prop}(hr:∀x∈rs,x<t.length)(hk:r=[Y,Z (.tup (et t))])(q:∀a,Q (et (app t rs),a,S)):W (fM [] (gN 0) fu (eT (m2 (b2 eA) (mV 1) (mV 0))) (et rs) r S) Q:=by
 subst hk;have e:et (app t rs)=rs.map λx=>D.int (t.getD x 0:Nat):=by unfold et app;rw[bv];rfl
 rw[e]at q;refine jo (f:=λi:Nat=>D.int i) (λx=>D.int (t.getD x 0:Nat)) (λa=>∃x,a=[x,Z (.tup (et t))]) O rs _ ⟨_,O⟩ ?_ λa _=>q a;rintro x b a ⟨y,rfl⟩;walk_at"w";refine uS (hr x b) ?_;exact⟨O,O,_,O⟩
theorem mz{t rs:List Nat}:(app t rs).length=rs.length:=by unfold app;rw[lM1]
theorem zj{t rs:List Nat}{S:d7}{Q:D×d7->Prop}(hr:∀x∈rs,x<t.length)(b:rs.length<=8)(q:Q (.tup (et (iE (app t rs))),S)):W (ea 2 jR [.tup (et t),.tup (et rs)] S) Q:=by
 refine g0 O (by rw[D.unds,D.unds,D.und,D.und,fv,fv];rfl) ?_;unfold jR;refine lf ?_;unfold uN;walk_at"w";rw[i7];refine BC (k:=0) hr O λa=>?_;refine⟨ed (by rw[eY,mz];lia),?_⟩;walk_at"w";refine xE (n:=0) (xs:=app t rs) O (by rw[mz];lia) ?_;walk_at"w";refine eF (n:=1) O ?_;exact⟨by rw[D.und,fv],q⟩
theorem HR{a b rs:List Nat}(hr:∀x∈rs,x<a.length):iE (app b (iE (app a rs)))=iE (app (app b a) rs):=by
 have e:app (app b a) rs=app b (app a rs):=by
  unfold app;rw[bv];refine de λx c=>?_;have:=hr x c;simp[bM,this]
 rw[e];exact vk ((kZ _).map _)
theorem s9(n:Nat)(xs:List D)(i:xs.length<=10000)(h:D.unds 0 xs=M)(hx:∀x∈xs,W (fx n [x,x] []) λp=>p.1 = .bl M):W (fx (n+1) [.tup xs,.tup xs] []) λp=>p.1 = .bl M:=by
 rw[fx];refine lf ?_;unfold g8
 wp_walk using v9,Bb
 simp only[reduceCtorEq,O1,O0,Oz];walk_at"w";refine JE (xs:=xs) (ys:=xs) O ?_;rw[wf];refine jo (f:=λx=>D.tup [x,x]) (λ_=>D.bl M) (λc=>∃e b,c=[e,b]) O xs _ ⟨_,_,O⟩ ?_ ?_
 ·rintro x a c ⟨e,b,rfl⟩;have d:x.und 0=M:=gU h a;walk_at"w";refine g0 O (by rw[D.unds,D.unds,d];rfl) ?_;refine(hx x a).mono λp g=>?_;rw[g];exact⟨O,O,O,_,_,O⟩
 ·rintro c ⟨e,b,rfl⟩;refine⟨ed (by rw[lM1];lia),?_⟩;walk_at"w";refine HC (n:=0) (xs:=xs) (f:=λ_=>M) O ?_;walk_at"w";simp
noncomputable def lx:List Nat->List Nat->Bool
 |_,[]=>J
 |[],_::_=>M
 |x::xs,y::ys=>decide (x<y)||(decide (x=y)&&lx xs ys)
theorem oF:∀a:List Nat,lx a a=J
 |[]=>rfl
 |x::xs=>by rw[lx,oF xs];simp
theorem wR:∀{a b c:List Nat},lx a b=M->lx b c=M->lx a c=M
 |_,[],_,h,_=>by simp[lx]at h
 |_,_::_,[],_,h=>by simp[lx]at h
 |[],_::_,_::_,_,_=>rfl
 |x::xs,y::ys,z::zs,h,g=>by
  simp only[lx,bR,bA1,al]at h g ⊢;rcases h with h|⟨rfl,h⟩
  ·rcases g with g|⟨rfl,_⟩
   ·exact .inl (by lia)
   ·exact .inl h
  ·rcases g with g|⟨rfl,g⟩
   ·exact .inl g
   ·exact .inr ⟨O,wR h g⟩
theorem rX:∀{a b:List Nat},lx a b=J->lx b a=J->a=b
 |[],[],_,_=>rfl
 |[],_::_,h,_=>by simp[lx]at h
 |_::_,[],_,h=>by simp[lx]at h
 |x::xs,y::ys,h,g=>by
  simp only[lx,dg,Bool.and_eq_false_iff,decide_eq_false_iff_not]at h g;have e:x=y:=by lia
  subst e;have h2:lx xs ys=J:=h.2.resolve_left λz=>z O;have c:lx ys xs=J:=g.2.resolve_left λz=>z O;rw[rX h2 c]
theorem Bn{S:d7}{n:Nat}:∀a b:List Nat,Hd (hH S (n+1)) (et a) (et b)=Z (!lx a b)
 |[],[]=>rfl
 |[],_::_=>rfl
 |_::_,[]=>rfl
 |x::xs,y::ys=>by
  show((Z ((x:Int) == (y:Int))).bind λb=>if b=M then Hd (hH S (n+1)) (et xs) (et ys)else Z (decide ((y:Int)<=x)))=_;rw[oS1,lx];by_cases e:x=y
  ·subst e;rw[ak (by simp),Bn xs ys];simp
  ·rw[aj (by simp;lia)];refine congrArg Z ?_;rw[bT];simp[e]
theorem Ji{S:d7}{a b:List Nat}:D5 (.tup (et a)) (.tup (et b)) S=Z (.bl (!lx a b),S):=by
 show(Hd (hH S (58+1)) (et a) (et b)).map _=_;rw[Bn];rfl
theorem AV{S:d7}{n:Nat}:∀a b:List Nat,vH (hH S (n+1)) (k4 S (n+1)) (et a) (et b)=Z (lx a b)
 |[],[]=>rfl
 |[],_::_=>rfl
 |_::_,[]=>rfl
 |x::xs,y::ys=>by
  show((Z ((x:Int) == (y:Int))).bind λb=>if b=M then vH (hH S (n+1)) (k4 S (n+1)) (et xs) (et ys)else Z (decide ((x:Int)<y)))=_;rw[oS1,lx];by_cases e:x=y
  ·subst e;rw[ak (by simp),AV xs ys];simp
  ·rw[aj (by simp;lia)];refine congrArg Z ?_;rw[bT];simp[e]
theorem AU{S:d7}{n:Nat}{a b:List Nat}:k4 S (n+2) (.tup (et a)) (.tup (et b))=Z (lx a b):=by
 show vH (hH S (n+1)) (k4 S (n+1)) (et a) (et b)=_;exact AV a b
theorem sD{bt:Nat->Nat->Bool}(a:∀i,bt i i=J)(c:∀i j k,bt i j=M->bt j k=M->bt i k=M):∀k:Nat,Pr bt k<=k /\ ∀j,j<=k->bt j (Pr bt k)=J
 |0=>⟨nR1 _,λj b=>by
  rw[show j=0 by lia];exact a 0⟩
 |k+1=>by
  obtain⟨h1,h2⟩:=sD a c k;rw[Pr];cases hb:bt (k+1) (Pr bt k)with
  |true=>
   rw[ak O];refine⟨nR1 _,λj b=>?_⟩;by_cases e:j=k+1
   ·rw[e];exact a _
   ·refine dh.mpr λz=>?_;have:=c _ _ _ z hb;rw[h2 j (by lia)]at this;cases this
  |false=>
   rw[aj (by decide)];refine⟨by lia,λj b=>?_⟩;by_cases e:j=k+1
   ·rw[e];exact hb
   ·exact h2 j (by lia)
theorem Dj{S:d7}{n:Nat}{ts:List (List Nat)}(h:S[n]?=Z (.lst (ts.map λt=>.tup (et t))))(o:0<ts.length):∃t∈ts,(∀u∈ts,lx u t=J)/\ur (.ref n) S=Z (.tup (et t),S):=by
 have e:∀i,i<ts.length->(ts.map λt=>D.tup (et t)).getD i .non = .tup (et (ts.getD i [])):=λi hi=>by
  rw[bM,bM,gP1,gG1 hi];rfl
 have d:∀k,k<ts.length->Pr (λi j=>k4 S 51 ((ts.map λt=>D.tup (et t)).getD i .non) ((ts.map λt=>D.tup (et t)).getD j .non) == Z M) k=Pr (λi j=>lx (ts.getD i []) (ts.getD j [])) k:=by
  intro k
  induction k with
  |zero=>intro _;rfl
  |succ k ih=>
   intro g;have hi:=ih (by lia);have:=(sD (bt:=λi j=>lx (ts.getD i []) (ts.getD j [])) (λi=>oF _) (λi j k a b=>wR a b) k).1;rw[Pr,Pr,hi,e _ g,e _ (by lia),show(51:Nat)=49+2 from rfl,AU];cases lx (ts.getD (k+1) []) (ts.getD (Pr (λi j=>lx (ts.getD i []) (ts.getD j [])) k) [])<;>rfl
 obtain⟨b1,b2⟩:=sD (bt:=λi j=>lx (ts.getD i []) (ts.getD j [])) (λi=>oF _) (λi j k a b=>wR a b) (ts.length-1);have c:Pr (λi j=>lx (ts.getD i []) (ts.getD j [])) (ts.length-1)<ts.length:=by lia
 have f:∀i,(hi:i<ts.length)->ts.getD i []=ts[i]:=λi hi=>by rw[bM,gG1 hi];rfl
 refine⟨_,(f _ c) ▸ bV c,λu l=>?_,?_⟩
 ·obtain⟨i,hi,rfl⟩:=List.getElem_of_mem l;rw[<- f i hi];exact b2 i (by lia)
 ·unfold ur;rw[gP h];dsimp only;rw[ak,lM1,d _ (by lia),e _ c];rw[bA1,al,lM1];refine⟨o,?_⟩;rw[bD];intro a m;rw[bD];intro b d;obtain⟨x,_,rfl⟩:=PB m;obtain⟨y,_,rfl⟩:=PB d;rw[show(51:Nat)=49+2 from rfl,AU];rfl
structure Ris (m k:Nat)(s:List Nat):Prop where
 len:s.length=k
 up:s.Pairwise (· < ·)
 lt:∀x∈s,x<m
noncomputable def lo(s:List Nat):Nat:=match s.getLast? with
 |none=>0
 |some x=>x+1
def ext(b:Nat)(s:List Nat):List (List Nat):=(af (b-lo s)).map λj=>s++[lo s+j]
def fm(b:Nat):Nat->List (List Nat)
 |0=>[[]]
 |k+1=>(fm b k).flatMap (ext b)
theorem nH{s:List Nat}{x:Nat}:(s++[x]).Pairwise (· < ·)↔s.Pairwise (· < ·)/\lo s<=x:=by
 rw[cE];refine⟨λh=>⟨h.1,?_⟩,λh=>⟨h.1,cb _ _,λa d b f=>?_⟩⟩
 ·unfold lo;cases e:s.getLast? with
  |none=>exact bj _
  |some y=>exact h.2.2 y (List.mem_of_getLast? e) x (cA.mpr O)
 ·rw[cA]at f;subst f;have h2:=h.2;rcases dH s with rfl|⟨l,y,rfl⟩
  ·cases d
  ·rw[dI]at *
   have e:lo (l++[y])=y+1:=by unfold lo;simp
   rw[e]at h2;rcases aG.mp d with c|c
   ·have:=(cE.mp h.1).2.2 a c y (cA.mpr O);lia
   ·rw[cA]at c;lia
theorem ic{b:Nat}:∀{k:Nat} {s:List Nat},s∈fm b k↔Ris b k s
 |0,s=>by
  rw[fm,cA];exact⟨λh=>by subst h;exact⟨O,.nil,λx a=>by cases a⟩,λh=>cs.mp h.len⟩
 |k+1,s=>by
  rw[fm,List.mem_flatMap];constructor
  ·rintro⟨t,f,d⟩;obtain⟨h1,h2,c⟩:=ic.mp f;unfold ext at d;obtain⟨j,e,rfl⟩:=PB d;rw[aB]at e;refine⟨by rw[lA1,h1];rfl,nH.mpr ⟨h2,by lia⟩,λx a=>?_⟩;rcases aG.mp a with a|a
   ·exact c x a
   ·rw[cA]at a;lia
  ·rintro⟨h1,h2,c⟩;rcases dH s with rfl|⟨l,y,rfl⟩
   ·cases h1
   ·rw[dI]at *
    obtain⟨g,m⟩:=nH.mp h2;have i:=c y (by simp);refine⟨l,ic.mpr ⟨by rw[lA1]at h1;simpa using h1,g,λx a=>c x (aH _ a)⟩,cg.mpr ⟨y-lo l,aB.mpr (by lia),by rw[show lo l+(y-lo l)=y by lia]⟩⟩
def yQ(s:List Nat):Nat:=s.foldl (λa x=>a*8+x) 0
theorem nS{s:List Nat}{x:Nat}:yQ (s++[x])=yQ s*8+x:=by unfold yQ;rw[List.foldl_append];rfl
theorem lC{b:Nat}(hb:b<=8):∀k:Nat,(fm b k).Pairwise λx y=>yQ x<yQ y
 |0=>cb _ _
 |k+1=>by
  rw[fm,List.pairwise_flatMap];refine⟨λa _=>?_,(lC hb k).imp λ{x y} h a e c hc=>?_⟩
  ·unfold ext;rw[dt];refine List.pairwise_lt_range.imp λ{i j} h=>?_;rw[nS,nS];lia
  ·obtain⟨i,hi,rfl⟩:=PB e;obtain⟨j,d,rfl⟩:=PB hc;rw[aB]at hi d;rw[nS,nS];lia
theorem AS:∀{k:Nat} {a b:List Nat} {c d:Nat},a.length=k->b.length=k->(∀x∈a,x<8)->(∀x∈b,x<8)->(c<d->a.foldl (λa x=>a*8+x) c<b.foldl (λa x=>a*8+x) d)/\(c=d->lx a b=decide (a.foldl (λa x=>a*8+x) c<b.foldl (λa x=>a*8+x) d))
 |0,a,b,c,d,ha,hb,_,_=>by
  rw[cs.mp ha,cs.mp hb];exact⟨λh=>h,λh=>by subst h;simp[lx]⟩
 |k+1,[],b,c,d,ha,hb,_,_=>by cases ha
 |k+1,x::a,[],c,d,ha,hb,_,_=>by cases hb
 |k+1,x::a,y::b,c,d,ha,hb,h1,h2=>by
  have g:=h1 x mS1;have i:=h2 y mS1;have ih:=λ{c d}=>AS (k:=k) (a:=a) (b:=b) (c:=c) (d:=d) (by simpa using ha) (by simpa using hb) (λz e=>h1 z (mC1 _ e)) (λz e=>h2 z (mC1 _ e));have f:=λ{c d}=>AS (k:=k) (a:=b) (b:=a) (c:=c) (d:=d) (by simpa using hb) (by simpa using ha) (λz e=>h2 z (mC1 _ e)) (λz e=>h1 z (mC1 _ e));rw[ca,ca];refine⟨λh=>ih.1 (by lia),λh=>?_⟩;subst h;rw[lx];rcases Nat.lt_trichotomy x y with h|h|h
  ·rw[ah h,ah (ih.1 (by lia))];rfl
  ·subst h;rw[ai (az _),ah O,Bool.false_or,Bool.true_and,(ih (c:=c*8+x) (d:=c*8+x)).2 O]
  ·have:=(f (c:=c*8+y) (d:=c*8+x)).1 (by lia);rw[ai (by lia),ai (by lia),ai (by lia)];rfl
theorem Ris.lx{m k:Nat}{a b:List Nat}(hm:m<=8)(ha:Ris m k a)(hb:Ris m k b):Law.lx a b=decide (yQ a<yQ b):=
 (AS (k:=k) ha.len hb.len (λx c=>nL1 (ha.lt x c) hm) (λx c=>nL1 (hb.lt x c) hm)).2 O
theorem Ris.cd{m k:Nat}{a b:List Nat}(hm:m<=8)(ha:Ris m k a)(hb:Ris m k b)(e:yQ a=yQ b):a=b:=
 rX (by rw[ha.lx hm hb,e];simp) (by rw[hb.lx hm ha,e];simp)
theorem Ris.uniq{m k:Nat}{a b:List Nat}(ha:Ris m k a)(hb:Ris m k b)(h:a.Perm b):a=b:=h.eq_of_pairwise (le:=(· < ·)) (λx y _ _ h1 h2=>(Nat.lt_asymm h1 h2).elim) ha.up hb.up
theorem xY{α:Type}{c:α->Nat}{as bs:List α}(ha:as.Pairwise λx y=>c x<c y)(hb:bs.Pairwise λx y=>c x<c y)(h:∀x,x∈as↔x∈bs):as=bs:=by
 have nd:∀{l:List α},l.Pairwise (λx y=>c x<c y)->l.Nodup:=λh=>h.imp λ{x y} h e=>by subst e;exact az _ h
 exact((List.perm_ext_iff_of_nodup (nd ha) (nd hb)).mpr h).eq_of_pairwise (le:=λx y=>c x<c y) (λx y _ _ h1 h2=>(Nat.lt_asymm h1 h2).elim) ha hb
noncomputable def eZ(k:Nat):Nat->List (List Nat)
 |0=>[[]]
 |r+1=>eZ k r++((eZ k r).filter λs=>decide (s.length<k)).map λs=>s++[r]
theorem EF{s:List Nat}{r:Nat}(h:∀x∈s,x<r):lo s<=r:=by
 unfold lo;cases e:s.getLast? with
 |none=>exact bj _
 |some y=>exact h y (List.mem_of_getLast? e)
theorem iU{k:Nat}:∀{r:Nat} {s:List Nat},s∈eZ k r↔s.length<=k/\s.Pairwise (· < ·) /\ ∀x∈s,x<r
 |0,s=>by
  rw[eZ,cA];constructor
  ·rintro rfl;exact⟨bj _,.nil,λx a=>by cases a⟩
  ·rintro⟨_,_,h⟩;cases s with
   |nil=>rfl
   |cons x s=>exact(bA _ (h x mS1)).elim
 |r + 1,s=>by
  rw[eZ,aG,cg];constructor
  ·rintro(h|⟨t,i,rfl⟩)
   ·obtain⟨h1,h2,b⟩:=iU.mp h;exact⟨h1,h2,λx a=>by have:=b x a;lia⟩
   ·obtain⟨d,c⟩:=aA.mp i;obtain⟨h1,h2,b⟩:=iU.mp d;rw[al]at c;refine⟨by rw[lA1];exact c,nH.mpr ⟨h2,EF b⟩,λx a=>?_⟩;rcases aG.mp a with a|a
    ·have:=b x a;lia
    ·rw[cA]at a;lia
  ·rintro⟨h1,h2,b⟩;by_cases f:r∈s
   ·rcases dH s with rfl|⟨l,y,rfl⟩
    ·cases f
    ·rw[dI]at *
     obtain⟨d,c⟩:=nH.mp h2;have g:∀x∈l,x<y:=λx a=>(cE.mp h2).2.2 x a y (cA.mpr O);have j:=b y (by simp);have e:y=r:=by
      rcases aG.mp f with h|h
      ·have:=g r h;lia
      ·rw[cA]at h;exact h.symm
     subst e;rw[lA1]at h1;exact .inr ⟨l,aA.mpr ⟨iU.mpr ⟨bL h1,d,g⟩,ah h1⟩,O⟩
   ·refine .inl (iU.mpr ⟨h1,h2,λx a=>?_⟩);have:=b x a;have:x≠r:=λe=>f (e ▸ a);lia
theorem lE{k:Nat}:∀r:Nat,(eZ k r).length<=2^r
 |0=>nR1 _
 |r+1=>by
  rw[eZ,lA1,lM1,Nat.pow_succ];have h1:=lE (k:=k) r;have h2:=dr (λs=>decide (s.length<k)) (eZ k r);lia
def iF(m k:Nat):List (List Nat):=(eZ k m).filter λs=>s.length == k
theorem kk{m k:Nat}{s:List Nat}:s∈iF m k↔Ris m k s:=by
 unfold iF;rw[aA,iU,Pn];exact⟨λ⟨⟨_,h2,a⟩,b⟩=>⟨b,h2,a⟩,λh=>⟨⟨Nat.le_of_eq h.len,h.up,h.lt⟩,h.len⟩⟩
theorem mG{b:Nat}(hb:b<=8):∀k:Nat,(fm b k).length<=8^k
 |0=>nR1 _
 |k+1=>by
  rw[fm,List.length_flatMap];have:∀l:List (List Nat),(l.map λs=>(ext b s).length).sum<=l.length*8:=λl=>by
   induction l with
   |nil=>exact nR1 _
   |cons s l ih=>
    rw[mP1,List.sum_cons,lC1];have:(ext b s).length<=8:=by unfold ext;rw[lM1,dB];lia
    lia
  have h1:=this (fm b k);have h2:=mG hb k;rw[Nat.pow_succ];lia
theorem AR:∀{l:List (List Nat)},l≠[] -> ∃t∈l,∀u∈l,lx u t=J
 |[],h=>(h O).elim
 |[x],_=>⟨x,mS1,λu a=>by rw[cA]at a;subst a;exact oF _⟩
 |x::y::l,_=>by
  obtain⟨t,h1,h2⟩:=AR (l:=y::l) (List.cons_ne_nil _ _);cases hx:lx x t with
  |true=>
   refine⟨x,mS1,λu a=>?_⟩;rcases aF.mp a with rfl|a
   ·exact oF _
   ·refine dh.mpr λz=>?_;have:=wR z hx;rw[h2 u a]at this;cases this
  |false=>
   refine⟨t,mC1 _ h1,λu a=>?_⟩;rcases aF.mp a with rfl|a
   ·exact hx
   ·exact h2 u a
theorem vo{α β:Type}{R:α->β->Prop}:∀{l:List α} {l':List β},l.Nodup->(∀a∈l,∃b∈l',R a b)->(∀a∈l,∀e∈l,∀b,R a b->R e b->a=e)->l.length<=l'.length
 |[],_,_,_,_=>bj _
 |a :: l,l',nd,h,inj=>by
  rw[aQ]at nd;obtain⟨b,k,f⟩:=h a mS1;obtain⟨p,q,rfl⟩:=List.append_of_mem k;have:=vo (R:=R) (l:=l) (l':=p++q) nd.2 (λe d=>by
   obtain⟨m,g,c⟩:=h e (mC1 _ d);refine⟨m,?_,c⟩;rcases aG.mp g with h1|h1
   ·exact aH _ h1
   ·rcases aF.mp h1 with rfl|h1
    ·have:=inj a mS1 e (mC1 _ d) _ f c;subst this;exact(nd.1 d).elim
    ·exact mA1 _ h1) λx i y j b=>inj x (mC1 _ i) y (mC1 _ j) b
  rw[lA1]at this;rw[lC1,lA1,lC1];lia
abbrev ap(t:List Nat)(v:Nat):Nat:=t.getD v 0
structure Mp (m:Nat)(w w':d8)(t:List Nat):Prop where
 pm:t.Perm (af m)
 car:∀r,r<m->gy w' (ap t r)=(gy w r).map (oA t)
abbrev Tn(m:Nat)(w:d8)(t:List Nat):Prop:=Mp m w w t
theorem Mp.len{m:Nat}{w a:d8}{t:List Nat}(h:Mp m w a t):t.length=m:=(i8 h.pm).1
theorem Mp.nd{m:Nat}{w a:d8}{t:List Nat}(h:Mp m w a t):t.Nodup:=(i8 h.pm).2.2
theorem Mp.lt{m v:Nat}{w a:d8}{t:List Nat}(h:Mp m w a t)(hm:0<m):ap t v<m:=nO hm (i8 h.pm).2.1
theorem nr{t:List Nat}{v:Nat}(h:v<t.length):t[v]?=Z (ap t v):=by
 unfold ap;rw[bM,gG1 h];rfl
theorem sF{t:List Nat}{f:Nat->Nat}{v:Nat}(h:v<t.length):ap (t.map f) v=f (ap t v):=by
 unfold ap;rw[bM,bM,gP1,gG1 h];rfl
theorem jZ{m v:Nat}(h:v<m):ap (af m) v=v:=by
 unfold ap;rw[bM,dA h];rfl
theorem BQ{a b:List Nat}{m:Nat}(ha:a.length=m)(hb:b.length=m)(h:∀v,v<m->ap a v=ap b v):a=b:=by
 refine b5 λv=>?_;by_cases c:v<m
 ·rw[nr (by lia),nr (by lia),h v c]
 ·rw[b6 (by lia),b6 (by lia)]
theorem Mp.inj{m u v:Nat}{w c:d8}{t:List Nat}(h:Mp m w c t)(b:u<m)(hv:v<m)(e:ap t u=ap t v):u=v:=by
 have h1:=nr (t:=t) (v:=u) (by rw[h.len];exact b);have h2:=nr (t:=t) (v:=v) (by rw[h.len];exact hv);rw[e]at h1;obtain⟨f,a⟩:=Px h1;obtain⟨g,d⟩:=Px h2;exact(aI h.nd).mp (a.trans d.symm)
theorem Mp.led{m:Nat}{w:d8}{t:List Nat}(hw:fS m w)(h:Tn m w t):∀{x:List Nat} {r v:Nat},r<m->eM w r x=Z v->eM w (ap t r) x=Z (ap t v)
 |[],r,v,_,e=>by rw[eM]at e;cases e;rfl
 |d::x,r,v,hr,e=>by
  rw[eM]at e;cases hd:(gy w r)[d]? with
  |none=>rw[hd]at e;cases e
  |some p=>
   rw[hd]at e;have hc:=h.car r hr;rw[eM,hc,gP1,hd];exact h.led hw (x:=x) (hw.to r d p (kg hd)) e
theorem Mp.gd{m:Nat}{w:d8}{t:List Nat}{ws:List (List Nat)}(hw:fS m w)(d:0<m)(h:Tn m w t)(hk:Wlk m w ws):cnd w ws (ap t 0)=t/\Gd m w ws (ap t 0):=by
 have a:∀(v:Nat) (x:List Nat),ws[v]?=Z x->eM w (ap t 0) x=Z (ap t v):=λv x e=>h.led hw d (hk.to v x e);have c:cnd w ws (ap t 0)=t:=by
  refine BQ (m:=m) (by unfold cnd;rw[lM1];exact hk.len) h.len λv f=>?_;obtain⟨x,b⟩:∃x,ws[v]?=some x:=⟨_,gG1 (by rw[hk.len];exact f)⟩;have:=a v x b;show(ws.map _).getD v 0=_;rw[bM,gP1,b];simp only[oP1,b9,this]
 refine⟨c,λx b=>?_,by rw[c];exact h.nd,by rw[c];exact h.car⟩;obtain⟨v,f⟩:=bq b;rw[a v x f];rfl
theorem Gd.tn{m r:Nat}{w:d8}{ws:List (List Nat)}(hw:fS m w)(a:0<m)(hr:r<m)(hk:Wlk m w ws)(h:Gd m w ws r):Tn m w (cnd w ws r):=
 ⟨rB (by unfold cnd;rw[lM1];exact hk.len) (vT hw a hr) h.2.1,h.2.2⟩
def Ep(m:Nat)(w:d8)(ws:List (List Nat)):List (List Nat):=(trs m w ws m).map (cnd w ws)
theorem wo{m:Nat}{w:d8}{ws:List (List Nat)}:gK m w ws m=(Ep m w ws).map λt=>.tup (et t):=by unfold gK Ep;rw[bv];rfl
theorem vE{m:Nat}{w:d8}{ws:List (List Nat)}{t:List Nat}(hw:fS m w)(a:0<m)(hk:Wlk m w ws):t∈Ep m w ws↔Tn m w t:=by
 unfold Ep trs;rw[cg];constructor
 ·rintro⟨r,b,rfl⟩;obtain⟨h1,h2⟩:=aA.mp b;exact(q9.mp h2).tn hw a (aB.mp h1) hk
 ·intro h;obtain⟨e,g⟩:=h.gd hw a hk;exact⟨ap t 0,aA.mpr ⟨aB.mpr (h.lt a),xT g⟩,e⟩
theorem Mp.id{m:Nat}{w:d8}(hw:fS m w):Tn m w (af m):=by
 refine⟨.refl _,λr a=>?_⟩;rw[jZ a];have:(gy w r).map (oA (af m))=(gy w r).map _root_.id:=de λe b=>by
  obtain⟨d,c⟩:=bq b;have:=hw.to r d e (kg c);show(ap (af m) e.1,e.2)=e;rw[jZ this]
 rw[this,di]
theorem rR{m:Nat}{t:List Nat}{f:Nat->Nat}(h:t.Nodup)(b:∀x∈t,x<m)(hf:∀x y,x<m->y<m->f x=f y->x=y):(t.map f).Nodup:=by
 rw[dD,dt];exact Pw (λ{x y} c d a e=>a (hf x y (b x c) (b y d) e)) h
theorem Mp.comp{m:Nat}{w f g:d8}{s t:List Nat}(hw:fS m w)(a:0<m)(hs:Mp m f g s)(ht:Mp m w f t):Mp m w g (t.map (ap s)):=by
 have b:=ht.len;refine⟨rB (by rw[lM1];exact b) (λx c=>?_) (rR ht.nd (i8 ht.pm).2.1 λx y c j e=>hs.inj c j e),λr k=>?_⟩
 ·obtain⟨y,_,rfl⟩:=PB c;exact hs.lt a
 ·rw[sF (by lia),hs.car (ap t r) (ht.lt a),ht.car r k,bv];refine de λe h=>?_;obtain⟨d,i⟩:=bq h;have:=hw.to r d e (kg i);show(ap s (ap t e.1),e.2)=(ap (t.map (ap s)) e.1,e.2);rw[sF (by lia)]
noncomputable def uk(m:Nat)(t:List Nat):List Nat:=(af m).map λv=>t.idxOf v
theorem vY{m v:Nat}{t:List Nat}(hv:v<m):ap (uk m t) v=t.idxOf v:=by
 unfold uk;rw[sF (by rw[dB];exact hv),jZ hv]
theorem Mp.inv1{m v:Nat}{w b:d8}{t:List Nat}(h:Mp m w b t)(hv:v<m):ap t (t.idxOf v)=v/\t.idxOf v<m:=by
 have c:v∈t:=h.pm.mem_iff.mpr (aB.mpr hv);have a:=List.idxOf_lt_length_of_mem c;refine⟨?_,by rw[<- h.len];exact a⟩;unfold ap;rw[bM,gG1 a,b9,List.getElem_idxOf]
theorem Mp.inv2{m u:Nat}{w b:d8}{t:List Nat}(h:Mp m w b t)(a:0<m)(c:u<m):t.idxOf (ap t u)=u:=by
 have:=h.inv1 (v:=ap t u) (h.lt a);exact h.inj this.2 c this.1
theorem Mp.inv{m:Nat}{w g:d8}{t:List Nat}(hw:fS m w)(a:0<m)(h:Mp m w g t):Mp m g w (uk m t):=by
 refine⟨rB (by unfold uk;rw[lM1,dB]) (λx b=>?_) (rR dv (λx b=>aB.mp b) λx y b c e=>?_),λr i=>?_⟩
 ·obtain⟨y,c,rfl⟩:=PB b;exact(h.inv1 (aB.mp c)).2
 ·rw[<- (h.inv1 b).1,<- (h.inv1 c).1,e]
 ·obtain ⟨j,n⟩:=h.inv1 i;have hc:=h.car _ n;rw [vY i];rw [j] at hc;rw [hc,bv];have:(gy w (t.idxOf r)).map (oA (uk m t)∘oA t)=(gy w (t.idxOf r)).map _root_.id:=de fun e k=>by
   obtain⟨d,l⟩:=bq k;have f:=hw.to _ d e (kg l);show(ap (uk m t) (ap t e.1),e.2)=e;rw[vY (h.lt a),h.inv2 a f]
  rw[this,di]
def act(t s:List Nat):List Nat:=iE (app t s)
theorem zA(xs:List Nat):(iE xs).Pairwise (· <= ·):=by
 unfold iE;rw[dt];exact(iP _).imp λ{a b} h=>by lia
theorem Ris.act{m k:Nat}{w g:d8}{t s:List Nat}(d:0<m)(h:Mp m w g t)(hs:Ris m k s):Ris m k (act t s):=by
 have c:=kZ (app t s);have nd:(app t s).Nodup:=rR (m:=m) (hs.up.imp λ{a b} h=>by lia) hs.lt λx y f i e=>h.inj f i e;refine⟨by have:=c.length_eq;rw[mz,hs.len]at this;exact this,?_,λx f=>?_⟩
 ·exact((zA _).and (c.nodup_iff.mpr nd)).imp λ{a b} h=>by have:=h.1;have:=h.2;lia
 ·obtain⟨y,_,rfl⟩:=PB (c.mem_iff.mp f);exact h.lt d
theorem j6{a b s:List Nat}(hs:∀x∈s,x<a.length):act b (act a s)=act (a.map (ap b)) s:=HR hs
theorem BU{m k:Nat}{w:d8}{s:List Nat}(a:0<m)(hw:fS m w)(hs:Ris m k s):act (af m) s=s:=by
 refine(hs.act a (Mp.id hw)).uniq hs ((kZ _).trans ?_);have:app (af m) s=s:=by
  unfold app;have:(s.map λr=>(af m).getD r 0)=s.map _root_.id:=de λx b=>jZ (hs.lt x b);rw[this,di]
 rw[this]
def Lst(m:Nat)(w:d8)(s:List Nat):Prop:=∀t,Tn m w t->lx (act t s) s=J
theorem AY{m k:Nat}{w:d8}{s u:List Nat}(a:0<m)(hw:fS m w)(hs:Ris m k s){t:List Nat}(ht:Tn m w t)(e:u=act t s)(h:∀t,Tn m w t->lx (act t s) u=J):Ris m k u/\Lst m w u:=by
 subst e;refine⟨hs.act a ht,λd b=>?_⟩;rw[j6 λx c=>by rw[ht.len];exact hs.lt x c];exact h _ (b.comp hw a ht)
theorem uQ{m k:Nat}{w d:d8}{a b s u:List Nat}(c:0<m)(hw:fS m w)(h:fS m d)(ha:Mp m w d a)(hb:Mp m w d b)(hs:Ris m k s)(i:Ris m k u)(e:act a s=act b u):act (b.map (ap (uk m a))) u=s:=by
 have hi:=ha.inv hw c;rw[<- j6 λx f=>by rw[hb.len];exact i.lt x f,<- e,j6 λx f=>by rw[ha.len];exact hs.lt x f];have:a.map (ap (uk m a))=af m:=BQ (m:=m) (by rw[lM1];exact ha.len) dB λv g=>by
  rw[sF (by rw[ha.len];exact g),vY (ha.lt c),ha.inv2 c g,jZ g]
 rw[this,BU c hw hs]
open Classical in
def jf(m k:Nat)(w:d8):List (List Nat):=(fm m k).filter λs=>tf (Lst m w s)
theorem iV{m k:Nat}{w:d8}{s:List Nat}:s∈jf m k w↔Ris m k s/\Lst m w s:=by
 unfold jf;rw[aA,ic,q9]
theorem wT{m k:Nat}{w j:d8}{f:List Nat}(a:0<m)(hm:m<=8)(hw:fS m w)(b:fS m j)(hf:Mp m w j f){ts:List (List Nat)}(c:∀t,t∈ts↔Tn m j t):(jf m k w).length<=(jf m k j).length:=by
 refine vo (R:=λs u=>∃t,Tn m j t/\u=act t (act f s)) ?_ (λs B=>?_) λs B s' q u ⟨t,g,e⟩ ⟨r,d,A⟩=>?_
 ·exact(((lC hm k).imp λ{x y} h e=>by subst e;exact az _ h):(fm m k).Nodup).filter _
 ·obtain ⟨h1,h2⟩:=iV.mp B;have n:=h1.act a hf;obtain ⟨u,F,i⟩:=AR (l:=ts.map fun t=>act t (act f s)) fun z=>by
   have:=(c _).mpr (Mp.id b);rw[List.map_eq_nil_iff.mp z]at this;cases this
  obtain⟨t,g,rfl⟩:=PB F;have g:=(c t).mp g;exact⟨_,iV.mpr (AY a b n g O λr d=>i _ (cg.mpr ⟨r,(c r).mpr d,O⟩)),t,g,O⟩
 ·obtain⟨h1,h2⟩:=iV.mp B;obtain⟨n,E⟩:=iV.mp q;have p:=g.comp hw a hf;have o:=d.comp hw a hf;rw[j6 λx v=>by rw[hf.len];exact h1.lt x v]at e;rw[j6 λx v=>by rw[hf.len];exact n.lt x v]at A;have b1:=uQ a hw b p o h1 n (e.symm.trans A);have b2:=uQ a hw b o p n h1 (A.symm.trans e);have H:=(p.inv hw a).comp hw a o;have G:=(o.inv hw a).comp hw a p;have C:=E _ H;have D:=h2 _ G;rw[b1]at C;rw[b2]at D;exact rX C D
theorem Dv{m k:Nat}{w d:d8}{f:List Nat}(a:0<m)(hm:m<=8)(hw:fS m w)(c:fS m d)(hf:Mp m w d f){ts e:List (List Nat)}(g:∀t,t∈ts↔Tn m w t)(b:∀t,t∈e↔Tn m d t):(jf m k d).length=(jf m k w).length:=
 Nat.le_antisymm (wT a hm c hw (hf.inv hw a) g) (wT a hm hw c hf b)
structure nV (m:Nat)(os:List Nat):Prop where
 pm:os.Perm (af m)
theorem nV.len{m:Nat}{a:List Nat}(h:nV m a):a.length=m:=(i8 h.pm).1
theorem nV.nd{m:Nat}{a:List Nat}(h:nV m a):a.Nodup:=(i8 h.pm).2.2
theorem nV.lt{m v:Nat}{a:List Nat}(h:nV m a)(hm:0<m):ap a v<m:=nO hm (i8 h.pm).2.1
theorem nV.inj{m u v:Nat}{a:List Nat}(h:nV m a)(c:u<m)(hv:v<m)(e:ap a u=ap a v):u=v:=by
 have h1:=nr (t:=a) (v:=u) (by rw[h.len];exact c);have h2:=nr (t:=a) (v:=v) (by rw[h.len];exact hv);rw[e]at h1;obtain⟨f,b⟩:=Px h1;obtain⟨g,d⟩:=Px h2;exact(aI h.nd).mp (b.trans d.symm)
theorem nV.sur{m v:Nat}{os:List Nat}(h:nV m os)(hv:v<m):∃r,r<m/\v=ap os r:=by
 have b:v∈os:=h.pm.mem_iff.mpr (aB.mpr hv);obtain⟨r,a⟩:=bq b;have:=(Px a).1;rw[nr this]at a;exact⟨r,by rw[<- h.len];exact this,(Option.some.inj a).symm⟩
theorem Cy{S:d7}{n v:Nat}{F:List (Key×D)}{d:D}{Q:D×d7->Prop}(h:S[n]?=Z (.dct F))(a:F.length<1000)(q:Q (.non,S.set n (.dct (fT F (Sum.inl (v:Int)) d)))):W (f0 (.ref n) (.int (v:Nat)) d S) Q:=by
 refine W.of ?_ q;have h2:f0 (.ref n) (.int (v:Nat)) d S=jl (.ref n) (.int (v:Nat)) d S:=by
  cases F with
  |nil=>simp only[f0,h,kx]
  |cons x F=>simp only[f0,h]
 rw[h2];simp only[jl,h,ky,oS1];rw[ak (bi a (by decide))]
theorem DY{S:d7}{n v:Nat}{F:List (Key×D)}{d:D}{Q:D×d7->Prop}(h:S[n]?=Z (.dct F))(a:eg F (Sum.inl (v:Int))=Z d)(q:Q (d,S)):W (eA (.ref n) (.int (v:Nat)) S) Q:=by
 refine W.of ?_ q;simp only[eA,me,h,ky,oS1,a,oP1]
noncomputable def r0(ks:List Nat)(F:Nat->D)(i:Nat):List (Key×D):=(af i).map λr=>(Sum.inl (ap ks r:Int),F r)
theorem ue{ks:List Nat}{F:Nat->D}{i:Nat}:r0 ks F (i+1)=r0 ks F i++[(Sum.inl (ap ks i:Int),F i)]:=by
 unfold r0;rw[List.range_succ,cx];rfl
theorem wW{ks:List Nat}{F:Nat->D}{i:Nat}:(r0 ks F i).length=i:=by unfold r0;rw[lM1,dB]
theorem wV{m:Nat}{ks:List Nat}{F:Nat->D}(h:nV m ks){i r:Nat}(hi:i<=r)(hr:r<m):((r0 ks F i).any λp=>decide (p.1=Sum.inl (ap ks r:Int)))=J:=by
 rw[dh];intro z;obtain⟨x,b,e⟩:=bU.mp z;obtain⟨c,a,rfl⟩:=PB b;have e:=N7 e;dsimp only at e;injection e with e;have a:=aB.mp a;have:=h.inj (by lia) hr (show ap ks c=ap ks r by lia);lia
theorem DB{m:Nat}{ks:List Nat}{F:Nat->D}(h:nV m ks){i:Nat}(hi:i<m):fT (r0 ks F i) (Sum.inl (ap ks i:Int)) (F i)=r0 ks F (i+1):=by
 unfold fT;rw[wV h (nR1 _) hi,aj (by decide),ue]
theorem uf{m:Nat}{ks:List Nat}{F:Nat->D}(h:nV m ks):∀{i r:Nat},i<=m->r<i->eg (r0 ks F i) (Sum.inl (ap ks r:Int))=Z (F r)
 |0,r,_,hr=>by lia
 |i+1,r,hi,hr=>by
  rw[ue,oH];by_cases e:r=i
  ·subst e;rw[mO (wV h (nR1 _) (by lia)),fW,ak O];rfl
  ·rw[uf h (by lia) (by lia)];rfl
theorem DW{m:Nat}{ks:List Nat}{F:Nat->D}{G:Nat->D}{wq:d7}(h:nV m ks)(hm:m<=8)(e:∀r,r<m->G (ap ks r)=F r):W (ea 1 gM [.ref 0] (.dct (r0 ks F m)::wq)) λp=>p.1 = .tup ((af m).map G):=by
 refine xu O O ?_;have g:∀p:D×d7,p.1 = .tup ((af m).map G)->(gc (.dct (r0 ks F m)::wq:d7).length p).1 = .tup ((af m).map G):=λp b=>by
  unfold gc;split
  ·exact b
  ·exact b
 refine W.mono (?_:W (gM [.ref 0] (.dct (r0 ks F m)::wq)) λp=>p.1 = .tup ((af m).map G)) g;unfold gM;refine lf ?_;unfold pp;have d:xc (.ref 0) (.dct (r0 ks F m)::wq)=Z (.int (m:Nat),.dct (r0 ks F m)::wq):=by
  show Z (D.int ((r0 ks F m).length:Nat),_)=_;rw[wW]
 wp_walk using d
 refine⟨eW (by lia),?_⟩;rw[jj,NF];refine jo (f:=λj:Nat=>D.int j) G (λa=>∃x,a=[x,Z (.ref 0)]) O (af m) _ ⟨_,O⟩ ?_ ?_
 ·rintro q i a ⟨x,rfl⟩;obtain⟨r,c,rfl⟩:=h.sur (aB.mp i);walk_at"w";refine DY O (uf h (nR1 _) c) ?_;exact⟨(e r c).symm,O,_,O⟩
 ·rintro a _;refine⟨ed (by rw[lM1,dB];lia),?_⟩;walk_at"w";exact eF (by rw[gC1,ee];rfl) O
def ren(m:Nat)(w:d8)(os:List Nat):d8:=(af m).map λq=>(gy w (os.idxOf q)).map (oA os)
theorem nV.idx{m r:Nat}{a:List Nat}(h:nV m a)(hr:r<m):a.idxOf (ap a r)=r:=by
 have f:=h.len;have e:=nr (t:=a) (v:=r) (by lia);have c:=gM1 e;have h1:=List.idxOf_lt_length_of_mem c;have h2:a[a.idxOf (ap a r)]=ap a r:=List.getElem_idxOf h1;obtain⟨d,b⟩:=Px e;exact(aI h.nd).mp (by rw[h2,b])
theorem ro{m:Nat}{w:d8}{a:List Nat}(h:nV m a)(b:0<m){r:Nat}(hr:r<m):(ren m w a)[ap a r]?=Z ((gy w r).map (oA a)):=by
 unfold ren;rw[gP1,dA (h.lt b),oP1,h.idx hr]
theorem Fy{m:Nat}{w:d8}{os:List Nat}(h:nV m os)(a:0<m):Mp m w (ren m w os) os:=⟨h.pm,λr b=>gx (ro h a b)⟩
theorem Fz{m:Nat}{w:d8}{a:List Nat}(h:nV m a){q d:Nat}{p:Nat×Nat}(hp:At (ren m w a) q d p):∃r e,r<m/\q=ap a r/\At w r d e/\p=oA a e:=by
 obtain⟨g,h1,h2⟩:=hp;have b:=(Px h1).1;unfold ren at h1 b;rw[lM1,dB]at b;obtain⟨r,c,rfl⟩:=h.sur b;rw[gP1,dA b,oP1,h.idx c]at h1;cases h1;rw[gP1]at h2;obtain⟨e,f,rfl⟩:=Pz h2;exact⟨r,e,c,O,kg f,O⟩
theorem Jz{m:Nat}{w:d8}(hw:w.length=m){r d:Nat}{e:Nat×Nat}(h:At w r d e):r<m:=by
 obtain⟨a,h1,_⟩:=h;rw[<- hw];exact(Px h1).1
theorem Fx{m:Nat}{w:d8}{a:List Nat}(h:nV m a)(b:0<m){r d:Nat}{e:Nat×Nat}(hr:r<m)(ha:At w r d e):At (ren m w a) (ap a r) d (oA a e):=
 ⟨_,ro h b hr,by rw[gP1,BO ha];rfl⟩
theorem CB{m:Nat}{w:d8}{b:List Nat}(hw:sG m w)(h:nV m b)(g:0<m):fS m (ren m w b):=by
 have k:=hw.toWebJ.toK;refine⟨by unfold ren;rw[lM1,dB],λi n hi=>?_,λr d e c=>?_,λP A v j s=>?_⟩
 ·unfold ren at hi;rw[gP1]at hi;obtain⟨q,_,rfl⟩:=Pz hi;rw[lM1];unfold gy;cases p:w[b.idxOf q]? with
  |none=>exact bj _
  |some n=>exact k.le _ _ p
 ·obtain⟨C,B,_,_,_,rfl⟩:=Fz h c;exact h.lt g
 ·obtain⟨t,o,x⟩:=h.sur g;have step:∀a d e,At w a d e->P (ap b a)->P (ap b e.1):=λa d e c f=>v _ _ _ (Fx h g (Jz k.len c) c) f;have back:∀a d e,At w a d e->P (ap b e.1)->P (ap b a):=λa d e c f=>step _ _ _ (hw.bk a d e c) f;have z:P (ap b 0):=OJ λy=>k.rc (λu=>¬ P (ap b u)) y (λa d e c l f=>l (back a d e c f)) t o (x ▸ A);obtain⟨r,p,rfl⟩:=h.sur s;exact k.rc (λu=>P (ap b u)) z (λa d e c f=>step a d e c f) r p
theorem vc{m:Nat}{w:d8}(h:w.length=m):webD w = .tup ((af m).map λq=>.tup ((gy w q).map pD)):=by
 unfold webD
 congr 1
 refine b5 λi=>?_;rw[gP1,gP1];by_cases hi:i<m
 ·rw[dA hi,gG1 (by lia),oP1,oP1,gx (gG1 (by lia))]
 ·rw[b6 (by lia),b6 (by rw[dB];lia)];rfl
theorem xZ{m:Nat}{w:d8}{a:List Nat}{S:d7}{Q:D×d7->Prop}(hw:fS m w)(n:0<m)(hm:m<=8)(h:nV m a)(q:Q (webD (ren m w a),S)):W (ea 2 iW [webD w,.tup (et a)] S) Q:=by
 refine g0 O (by rw[D.unds,eQ,D.unds,D.und,fv];rfl) ?_;unfold iW;refine lf ?_;unfold qB
 let F:Nat->D:=λr=>.tup (((gy w r).map (oA a)).map pD)
 refine eV (λr V=>V=[.dct (r0 a F 0)]/\r=[Z (webD w),Z (.tup (et a)),Z (.ref 0),Y,Y]) ?_ ?_
 ·wp_walk using l6
  exact⟨O,trivial⟩
 rintro r V ⟨rfl,rfl⟩;refine eV (λr V=>∃G j g,V = .dct (r0 a F m)::G/\r=[Z (webD w),Z (.tup (et a)),Z (.ref 0),j,g]) ?_ ?_
 ·unfold fz;rw[d9];refine px (xs:=w.map λb=>.tup (b.map pD)) O ?_;refine e9 (λi r V=>∃G j g,i<=m/\V = .dct (r0 a F i)::G/\r=[Z (webD w),Z (.tup (et a)),Z (.ref 0),j,g]) _ 0 _ _ ⟨[],_,_,by lia,O,O⟩ (λ_ _ _ _=>rfl) ?_ ?_
  ·rintro i E l r V ⟨G,j,g,hi,rfl,rfl⟩;rw[fZ,gP1]at l;obtain⟨z,B,rfl⟩:=Pz l;obtain⟨b,c,rfl⟩:=Pz B;have k:i<m:=by rw[<- hw.len];exact(Px c).1
   have C:=hw.le i b c;have y:F i = .tup ((b.map (oA a)).map pD):=by
    show D.tup (((gy w i).map _).map _)=_;rw[gx c]
   rw[bQ]at *
   walk_at"w";unfold m8;walk_at"w";rw[i7];refine jo (f:=pD) (λe:Nat×Nat=>pD (oA a e)) (λo=>∃s t,o=[s,t,Z (.tup (et a))]) O b _ ⟨_,_,O⟩ ?_ ?_
   ·rintro e x o ⟨s,t,rfl⟩;obtain⟨d,l⟩:=bq x;have:=hw.to i d e ⟨b,c,l⟩;rw[pD];walk_at"w";refine uS (by rw[h.len];exact this) ?_;walk_at"w";exact⟨O,_,_,O⟩
   ·rintro o _;refine⟨ed (by rw[lM1];lia),?_⟩;walk_at"w";refine eF (xs:=b.map λe:Nat×Nat=>pD (oA a e)) (by rw[gC1,ee];rfl) ?_;walk_at"w";refine uS (by rw[h.len];exact k) ?_;have u:D.tup (b.map λe:Nat×Nat=>pD (oA a e))=F i:=by rw[y,bv];rfl
    rw[u];refine Cy (F:=r0 a F i) O (by rw[wW];lia) ?_;refine⟨G++[.lst (b.map λe:Nat×Nat=>pD (oA a e))],_,_,by lia,?_,O⟩;rw[show a.getD i 0=ap a i from rfl,DB h k];rfl
  ·rintro r V ⟨G,j,g,hi,rfl,rfl⟩;rw[fY,lM1,bQ,hw.len];exact⟨O,G,_,_,O,O⟩
 rintro r V ⟨G,j,g,rfl,rfl⟩;simp(implicitDefEqProofs:=J) only[eX,mN,d5,mV,d6,oS1,d9,ez,dk,gC1];refine(DW (G:=λq=>.tup ((gy (ren m w a) q).map pD)) h hm λr A=>?_).mono ?_
 ·show D.tup ((gy (ren m w a) (ap a r)).map pD) = .tup (((gy w r).map (oA a)).map pD);rw[gx (ro h n A)]
 ·intro p v;have e:=vc (w:=ren m w a) (m:=m) (by unfold ren;rw[lM1,dB]);rw[v,<- e];exact⟨eQ _,q⟩
theorem EG{α:Type}{c:List (Nat×List D)}{g:FG}{t:FT}{b:FV}{S:d7}{f:α->D}{Q:List D×Ev×d7->Prop}(F:α->List D)(P:Ev->Prop)(d:pA S c=true):∀ (xs:List α) (r:Ev),P r ->
  (∀a∈xs,∀r,P r->W (g (f a) r S) λp=>W (t p.1 p.2) λk=>k.1=M/\W (b p.1 k.2) λx=>x.1=F a/\x.2.2=S/\P x.2.1) ->
  (∀i,P i->Q (xs.flatMap F,i,S))->W (fM c g t b (xs.map f) r S) Q
 |[],r,e,_,h=>by rw[bc,fM];dsimp only;rw[ak d,ez];exact h r e
 |a::xs,r,e,hs,h=>by
  rw[mP1,fM];dsimp only;rw[ak d,d9];obtain⟨p,s,h1⟩:=hs a mS1 r e;refine⟨p,s,?_⟩;dsimp only;rw[d9];obtain⟨⟨k,z⟩,v,m,h2⟩:=h1;refine⟨_,v,?_⟩;dsimp only at m h2 ⊢;subst m;rw[ak O,d9];obtain⟨⟨x,r2,y⟩,u,o,q,n⟩:=h2;refine⟨_,u,?_⟩;dsimp only at o q n ⊢;subst o;subst q;rw[j7];refine EG F P d xs r2 n (λw j r e=>hs w (mC1 _ j) r e) λi l=>?_;rw[<- List.flatMap_cons];exact h i l
theorem Eh{m:FI}{g:FG}{t:FT}{b:FV}{r:Ev}{S:d7}{Q:List D×Ev×d7->Prop}:W (uy m g t b r S) Q↔W (m r S) λp=>W (fM p.1.chk g t b p.1.items r p.2) Q:=by
 unfold uy;rw[d9]
def tD(s:List Nat):D:=.tup (et s)
def tsD(l:List (List Nat)):List D:=l.map tD
theorem gw(l:List (List Nat)):D.unds 0 (tsD l)=M:=fj λs _=>by rw[tD,D.und];exact fv s
theorem DA{s:List Nat}{x:Nat}{S:d7}:eA (.tup (et (s++[x]))) (.int (-1)) S=Z (.int (x:Nat),S):=by
 rw[<- i9];show xg (.tup (et s++[.int x])) (.int (-1)) S=_;unfold xg ei;simp[uO]
theorem EC(a n:Nat):gb (a:Nat) n=(af n).map λi=>D.int (a+i:Nat):=by
 refine b5 λi=>?_;rw[gP1];by_cases h:i<n
 ·rw[dA h];obtain⟨d,b⟩:∃d,(gb (a:Nat) n)[i]?=some d:=⟨_,gG1 (by rw[eN];exact h)⟩;rw[b,(oz _ _ _ _ b).2];rfl
 ·rw[b6 (by rw[eN];lia),b6 (by rw[dB];lia)];rfl
theorem uw{n:Nat}(h:n<=16777216):fits n=M:=by unfold fits;rw[al];exact aC h (by decide)
theorem Iu{k:Nat}(h:k<=8):8^k<=16777216:=dJ (n:=8) (by decide) h
theorem Fe{m k:Nat}(hm:m<=8)(hk:k<=8):W (gA [.int m,.int k] []) λp=>∃j,p.1 = .ref j/\p.2[j]?=Z (.lst (tsD (fm m k)))/\p.2.all (Ob.und 0)=M:=by
 unfold gA;refine lf ?_;unfold mj;refine eV (λr S=>S=[]++[.lst (tsD (fm m 0))]/\r=[Z (.int m),Z (.int k),Z (.ref 0),Y]) ?_ ?_
 ·walk_at"w";exact⟨O,trivial⟩
 rintro r S ⟨rfl,rfl⟩;refine eV (λr S=>∃(G:d7) (b:Option D),G.all (Ob.und 0)=M/\S=G++[.lst (tsD (fm m k))]/\r=[Z (.int m),Z (.int k),Z (.ref G.length),b]) ?_ ?_
 ·walk_at"w";refine⟨eW (by lia),?_⟩;rw[NF];refine e9 (λi r S=>i<=k /\ ∃(G:d7) (b:Option D),G.all (Ob.und 0)=M/\S=G++[.lst (tsD (fm m i))]/\r=[Z (.int m),Z (.int k),Z (.ref G.length),b]) (gb 0 k) 0 _ _ ⟨by lia,[],_,O,O,O⟩ (λ_ _ _ _=>rfl) ?_ ?_
  ·rintro i d B r S ⟨hi,G,b,c,rfl,rfl⟩;have o:=(Px B).1;rw[eN]at o;rw[bQ]at *
   have u:(G++[Ob.lst (tsD (fm m i))])[G.length]?=Z (.lst (tsD (fm m i))):=by rw[ee];rfl
   walk_at"w";unfold jG;walk_at"w";refine eF u ?_;refine EG (f:=tD) (λs=>tsD (ext m s)) (λr=>∃h a,r=[h,a,Z (.int m)]) (fq u) (fm m i) _ ⟨_,_,O⟩ ?_ ?_
   ·rintro s z r ⟨h,a,rfl⟩;have q:=ic.mp z;have w:lo s<=8:=aC (EF q.lt) hm;have inner:∀ e:Ev,e=[some (tD s),a,some (.int m)]->W (fM [] (gN 1) fu (eT (m2 (b2 gj) (mV 0) (fw (d5 (mV 1) d6)))) (gb (lo s:Nat) (m-lo s)) e (G++[Ob.lst (tsD (fm m i))])) fun x=>x.1=tsD (ext m s)/\x.2.2=G++[Ob.lst (tsD (fm m i))] /\ ∃ h a,x.2.1=[h,a,some (.int m)]:=by
     rintro e rfl;rw[EC];have E:tsD (ext m s)=(af (m-lo s)).map λj=>tD (s++[lo s+j]):=by unfold tsD Law.ext;rw[bv];rfl
     rw[E];refine jo (f:=λj:Nat=>D.int (lo s+j:Nat)) (λj=>tD (s++[lo s+j])) (λr=>∃x,r=[Z (tD s),x,Z (.int m)]) O (af (m-lo s)) _ ⟨_,O⟩ ?_ ?_
     ·rintro j F r ⟨x,rfl⟩;unfold tD;walk_at"w";rw[i9];exact⟨ed (by rw[eY,q.len];lia),O,_,O⟩
     ·rintro A ⟨x,rfl⟩;exact⟨O,O,_,_,O⟩
    wp_walk using Eh
    rcases dH s with rfl|⟨l,x,rfl⟩
    ·have t:∀S:d7,mF S (tD [])=Z J:=λS=>rfl
     wp_walk using t
     refine⟨O,eW (by lia),?_⟩;exact inner _ O
    ·rw[dI]at *
     have t:∀S:d7,mF S (tD (l++[x]))=Z M:=λS=>by simp[mF,ei,tD,et]
     have g:∀S:d7,eA (tD (l++[x])) (.int (-1)) S=Z (.int (x:Nat),S):=λS=>DA
     wp_walk using t,Bp,g
     have H:x<m:=q.lt x (by simp);have y:lo (l++[x])=x+1:=by unfold lo;simp
     refine⟨eW (n:=x+1) (by lia),eW (by lia),?_⟩;have:=inner _ O;rw[y]at this;have C:((m:Int)-((x:Int)+1)).toNat=m-(x+1):=by lia
     rw[C];exact this
   ·rintro A ⟨h,a,rfl⟩;have v:((fm m i).flatMap fun s=>tsD (Law.ext m s))=tsD (fm m (i+1)):=by
     unfold tsD;rw[fm,List.map_flatMap]
    rw[v];refine⟨uw ?_,?_⟩
    ·unfold tsD;rw[lM1];exact aC (mG hm _) (Iu (by lia))
    walk_at"w";refine⟨by lia,G++[.lst (tsD (fm m i))],_,?_,by rw[bJ];rfl,by rw[lA1];rfl⟩;rw[df,c,bS,Ob.und,gw];rfl
  ·rintro r S ⟨hi,G,b,c,rfl,rfl⟩;rw[eN,bQ];exact⟨O,G,_,c,O,O⟩
 rintro r S ⟨G,b,c,rfl,rfl⟩;walk_at"w";refine⟨_,O,by rw[ee];rfl,?_⟩;rw[df,c,bS,Ob.und,gw];rfl
theorem Dy{m k:Nat}{ts:List (List Nat)}{s:List Nat}{S:d7}{Q:D×d7->Prop}(a:∀t∈ts,t.length=m)(g:ts.length<=8)(hs:Ris m k s)(hk:k<=8)(q:Q (.bl (ts.all λt=> !lx (act t s) s),S)):W (ea 2 iu [.tup (tsD ts),tD s] S) Q:=by
 refine g0 O (by rw[D.unds,D.unds,D.und,gw,tD,D.und,fv];rfl) ?_;unfold iu;refine lf ?_;unfold ph;walk_at"w";rw[i7];refine jo (f:=tD) (λt=>.bl (!lx (act t s) s)) (λr=>∃x,r=[x,Z (tD s)]) O ts _ ⟨_,O⟩ ?_ ?_
 ·rintro t d r ⟨x,rfl⟩;unfold tD;walk_at"w";refine zj (λx c=>by rw[a t d];exact hs.lt x c) (by rw[hs.len];exact hk) ?_;refine W.of Ji ?_;exact⟨O,O,_,O⟩
 ·rintro e ⟨x,rfl⟩;refine ⟨ed (by rw [lM1];lia),?_⟩;walk_at"w";have b:mU (.ref 0) [.lst (ts.map fun t=>D.bl (!lx (act t s) s))]=some (.bl (ts.all fun t=> !lx (act t s) s),[.lst (ts.map fun t=>D.bl (!lx (act t s) s))]):=by
   simp only[mU,ei,dk,oS1,j5,oP1]
  refine W.of b ?_;exact⟨O,q⟩
theorem Dw{m:Nat}{w:d8}{ts:List (List Nat)}{s:List Nat}(h:∀t,t∈ts↔Tn m w t):(ts.all λt=> !lx (act t s) s)=tf (Lst m w s):=vg (by
 rw[bD];exact⟨λg t a=>by have:=g t ((h t).mpr a);rwa [Bool.not_eq_true']at this,λg t a=>by rw[g t ((h t).mp a)];rfl⟩)
theorem ww{m k:Nat}{w:d8}{S:d7}{Q:D×d7->Prop}(hw:fS m w)(g:0<m)(hm:m<=8)(hk:k<=8)(q:Q (.tup (tsD (jf m k w)),S)):W (ea 2 fH [webD w,.int k] S) Q:=by
 refine g0 O (by rw[D.unds,eQ];rfl) ?_;unfold fH;refine lf ?_;unfold np;refine eV (λr V=>∃ws,Wlk m w ws/\V=[]/\r=[Z (webD w),Z (.int k),Z (.tup (tsD (Ep m w ws)))]) ?_ ?_
 ·walk_at"w";refine Ci hw g hm λws c=>?_;rw[wo];exact⟨ws,c,O,O⟩
 rintro r V ⟨ws,c,rfl,rfl⟩;have a:=λt=>vE (t:=t) hw g c;have n:(Ep m w ws).length<=8:=by
  have:=lr (m:=m) (k:=m) (w:=w) (ws:=ws);rw[wo,lM1]at this;lia
 generalize Ep m w ws=ts at *
 simp(implicitDefEqProofs:=J) only[eX,mN,d5,d6,oS1,b1,d9,ez,wa,xF,vN,Ll,mP1,gC1,dk,dq,bc,bm,cW,sI,mV,gG];rw[hw.len];refine xw O O ((Fe hm hk).mono ?_);rintro p ⟨j,h1,h2,y⟩;refine⟨j,_,h1,h2,y,λG i hi F _=>?_⟩;rw[cW]at hi;walk_at"w";refine eF hi ?_;refine gm (λi b r S=>i<=(fm m k).length/\S=G/\(∃x,r=[x,Z (.tup (tsD ts))])/\b=tsD (((fm m k).take i).filter λs=>tf (Lst m w s))) (tsD (fm m k)) 0 [] _ _ ⟨bj _,O,⟨_,O⟩,O⟩ (λi b r S h=>?_) ?_ ?_
 ·obtain⟨_,rfl,_⟩:=h;exact fq hi
 ·rintro i d o b r S ⟨z,rfl,⟨x,rfl⟩,rfl⟩;rw[bQ]at *
  unfold tsD at o;rw[gP1]at o;obtain⟨s,l,rfl⟩:=Pz o;have f:=(Px l).1;have B:=ic.mp (gM1 l);have u:(fm m k).take (i+1)=(fm m k).take i++[s]:=by rw[dL,l];rfl
  walk_at"w";refine Dy (λt A=>((a t).mp A).len) n B hk ?_;rw[Dw a];walk_at"w";rw[u,dw];have v:[s].filter (λs=>tf (Lst m w s))=if tf (Lst m w s)=M then[s]else[]:=by
   cases h:tf (Lst m w s)with
   |true=>rw[ak O];exact dE (p:=λs=>tf (Lst m w s)) h
   |false=>rw[aj (by decide)];exact dG (p:=λs=>tf (Lst m w s)) (by rw[h];decide)
  rw[v];cases h:tf (Lst m w s)with
  |true=>
   rw[ak O,ak O];refine⟨f,⟨_,O⟩,?_⟩;unfold tsD;rw[cx];rfl
  |false=>
   rw[aj (by decide),aj (by decide),aP];exact⟨f,⟨_,O⟩,O⟩
 ·rintro xs r S ⟨_,rfl,⟨x,rfl⟩,e⟩;rw [cW] at e;have E:xs=tsD (jf m k w):=by
   rw[e];unfold jf;rw[cQ];unfold tsD;rw[lM1];lia
  subst E;have C:(tsD (jf m k w)).length<=16777216:=by
   unfold tsD jf;rw[lM1];exact aC (dr _ _) (aC (mG hm _) (Iu hk))
  refine⟨uw C,?_⟩;walk_at"w";refine eF (by rw[ee];rfl) ?_;exact⟨by rw[D.und];exact gw _,q⟩
theorem w6{α:Type}{f:α->D}{c:α->Nat}{a:α}:∀ {zs:List α},(∀ b∈zs,k4 [] 51 (f a) (f b)=some (decide (c a<c b)))->(∀ b∈zs,c b≠c a)->zs.Pairwise (fun x y=>c x<c y) ->
  ∃ys:List α,yw (f a) (zs.map f)=ys.map f/\ys.Perm (a::zs)/\ys.Pairwise (λx y=>c x<c y)
 |[],_,_,_=>⟨[a],O,.refl _,by simp⟩
 |b::zs,h,hn,hp=>by
  rw[cc]at hp;rw[mP1,yw];have k:=h b mS1;unfold KM;rw[k];by_cases z:c a<c b
  ·rw[ah z,ak (show(Z M == Z M)=M from rfl)];refine⟨a::b::zs,O,.refl _,cc.mpr ⟨λy d=>?_,cc.mpr hp⟩⟩;rcases aF.mp d with rfl|d
   ·exact z
   ·exact bi z (hp.1 y d)
  ·rw[ai z,aj (by decide)];obtain⟨ys,e,i,j⟩:=w6 (λx g=>h x (mC1 _ g)) (λx g=>hn x (mC1 _ g)) hp.2;refine⟨b::ys,by rw[e];rfl,(i.cons b).trans (.swap _ _ _),cc.mpr ⟨λy d=>?_,j⟩⟩;rcases aF.mp (i.mem_iff.mp d)with rfl|d
   ·have:=hn b mS1;lia
   ·exact hp.1 y d
theorem s3{α:Type}{f:α->D}{c:α->Nat}:∀ {ks:List α},(∀ a∈ks,∀ b∈ks,k4 [] 51 (f a) (f b)=some (decide (c a<c b)))->(ks.map c).Nodup ->
  ∃zs:List α,lB (ks.map f)=zs.map f/\zs.Perm ks/\zs.Pairwise (λx y=>c x<c y)/\m7 (zs.map f)=M
 |[],_,_=>⟨[],O,.refl _,.nil,O⟩
 |a::ks,h,hn=>by
  rw[mP1,aQ]at hn;obtain⟨zs,e,n,r,_⟩:=s3 (ks:=ks) (λx j y k=>h x (mC1 _ j) y (mC1 _ k)) hn.2;obtain⟨ys,p,l,i⟩:=w6 (a:=a) (zs:=zs) (λb o=>h a mS1 b (mC1 _ (n.mem_iff.mp o))) (λb o z=>hn.1 (cg.mpr ⟨b,n.mem_iff.mp o,z⟩)) r;have g:ys.Perm (a::ks):=l.trans (n.cons a);refine⟨ys,by rw[mP1,lB,e,p],g,i,?_⟩;have k:∀x∈ys,∀y∈ys,k4 [] 51 (f x) (f y)=Z (decide (c x<c y)):=λx j y k=>h x (g.mem_iff.mp j) y (g.mem_iff.mp k);clear p l g
  induction ys with
  |nil=>rfl
  |cons y ys ih=>
   rw[cc]at i;rw[mP1,m7,ih i.2 λx j z s=>k x (mC1 _ j) z (mC1 _ s),bP,bD];intro d q;obtain⟨x,j,rfl⟩:=PB q;unfold qa;have m:=i.1 x j;rw[k y mS1 x (mC1 _ j),k x (mC1 _ j) y mS1,ah m,ai (by lia)];rfl
theorem K4{S:d7}(h:S.all (Ob.und 0)=M)(n:Nat):S.all (Ob.und n)=M:=by
 rw[bD]at h ⊢;exact λx a=>iT (bj _) (h x a)
theorem EH{α:Type}{p:α->Bool}{a:α}{l:List α}:(l++[a]).filter p=l.filter p++if p a=M then[a]else[]:=by
 rw[dw]
 congr 1
 cases h:p a with
 |true=>rw[dE h];rfl
 |false=>rw[dG (by rw[h];decide)];rfl
theorem Fm{m k:Nat}(hm:m<=8)(hk:k<=8):W (gW [.int m,.int k] []) λp=>∃j xs,p.1 = .ref j/\p.2[j]?=Z (.lst xs)/\p.2.all (Ob.und 0)=M/\xs=tsD (iF m k):=by
 unfold gW;refine lf ?_;unfold nq;have B:∀i,i<=8->(eZ k i).length<=256:=λi hi=>aC (lE i) (dJ (n:=2) (by decide) hi);have g:∀i,i<=8 -> ∀s∈eZ k i,s.length<=8:=λi hi s f=>aC (iU.mp f).1 hk;refine eV (λr S=>S=[]++[.lst (tsD (eZ k 0))]/\r=[Z (.int m),Z (.int k),Z (.ref 0),Y]) ?_ ?_
 ·walk_at"w";exact⟨O,trivial⟩
 rintro r S ⟨rfl,rfl⟩;refine eV (λr S=>∃(G:d7) (t:Option D),G.all (Ob.und 0)=M/\S=G++[.lst (tsD (eZ k m))]/\r=[Z (.int m),Z (.int k),Z (.ref G.length),t]) ?_ ?_
 ·walk_at"w";refine⟨eW (by lia),?_⟩;rw[NF];refine e9 (λi r S=>i<=m /\ ∃(G:d7) (t:Option D),G.all (Ob.und 0)=M/\S=G++[.lst (tsD (eZ k i))]/\r=[Z (.int m),Z (.int k),Z (.ref G.length),t]) (gb 0 m) 0 _ _ ⟨by lia,[],_,O,O,O⟩ (λ_ _ _ _=>rfl) ?_ ?_
  ·rintro i d c r S ⟨hi,G,t,v,rfl,rfl⟩;have u:=(Px c).1;rw[eN]at u;rw[jj,gP1,dA u]at c;cases c;rw[bQ]at *
   have o:(G++[Ob.lst (tsD (eZ k i))])[G.length]?=Z (.lst (tsD (eZ k i))):=by rw[ee];rfl
   generalize y:G++[Ob.lst (tsD (eZ k i))]=U at *
   have l:U.all (Ob.und 0)=M:=by rw[<- y,df,v,bS,Ob.und,gw];rfl
   walk_at"w";unfold kI;walk_at"w";refine eF o ?_;refine gm (λj b r S=>j<=(eZ k i).length/\U=S/\(∃x,r=[x,Z (.int k),Z (.int (i:Nat))])/\b=tsD ((((eZ k i).take j).filter λs=>decide (s.length<k)).map λs=>s++[i])) (tsD (eZ k i)) 0 [] _ _ ⟨bj _,O,⟨_,O⟩,O⟩ (λj b r S h=>?_) ?_ ?_
   ·obtain⟨_,rfl,_⟩:=h;exact fq o
   ·rintro j d c b r S ⟨A,rfl,⟨x,rfl⟩,rfl⟩;rw[bQ]at *
    unfold tsD at c;rw[gP1]at c;obtain⟨s,f,rfl⟩:=Pz c;have a:=(Px f).1;have C:=g i (by lia) s (gM1 f);have q:(eZ k i).take (j+1)=(eZ k i).take j++[s]:=by rw[dL,f];rfl
    unfold tD;walk_at"w";rw[q,EH,eY];by_cases h:s.length<k
    ·rw[ak (ah (by lia)),ak (ah h)];refine⟨ed (by lia),a,⟨_,O⟩,?_⟩;unfold tsD;rw[cx,cx,i9];rfl
    ·rw[aj (λz=>h (by have:=N7 z;lia)),aj (by rw[al];exact h)];refine⟨a,⟨_,O⟩,?_⟩;rw[aP]
   ·rintro xs r S ⟨_,rfl,⟨x,rfl⟩,e⟩;rw [cW,bQ,cQ (by unfold tsD;rw [lM1];exact nR1 _)] at e;subst e;have w:=B i (by lia);have E:(tsD (((eZ k i).filter fun s=>decide (s.length<k)).map fun s=>s++[i])).length<=256:=by
     unfold tsD;rw[lM1,lM1];exact aC (dr _ _) w
    have F:(tsD (eZ k i)).length<=256:=by unfold tsD;rw[lM1];exact w
    refine⟨ed (by lia),?_⟩;walk_at"w";refine(BX (xs:=tsD (eZ k i)) (ys:=tsD (((eZ k i).filter λs=>decide (s.length<k)).map λs=>s++[i])) (by rw[gL1 (Px o).1];exact o) (by rw[ee];rfl)).mpr ⟨ed (by lia),?_⟩;walk_at"w";refine⟨by lia,U++[.lst (tsD (((eZ k i).filter λs=>decide (s.length<k)).map λs=>s++[i]))],Z (.int (i:Nat)),?_,?_,?_⟩
    ·rw[df,l,bS,Ob.und,gw];rfl
    ·rw[bJ];unfold tsD;rw[eZ,cx];rfl
    ·first|rfl|rw[lA1];rfl
  ·rintro r S ⟨hi,G,t,v,rfl,rfl⟩;rw[eN,bQ];exact⟨O,G,_,v,O,O⟩
 rintro r S ⟨G,t,v,rfl,rfl⟩;have o:(G++[Ob.lst (tsD (eZ k m))])[G.length]?=Z (.lst (tsD (eZ k m))):=by rw[ee];rfl
 generalize y:G++[Ob.lst (tsD (eZ k m))]=U at *
 have l:U.all (Ob.und 0)=M:=by rw[<- y,df,v,bS,Ob.und,gw];rfl
 walk_at"w";refine eF o ?_;refine gm (λj b r S=>j<=(eZ k m).length/\U=S/\(∃x,r=[x,Z (.int k)])/\b=tsD (((eZ k m).take j).filter λs=>s.length == k)) (tsD (eZ k m)) 0 [] _ _ ⟨bj _,O,⟨_,O⟩,O⟩ (λj b r S h=>?_) ?_ ?_
 ·obtain⟨_,rfl,_⟩:=h;exact fq o
 ·rintro j d c b r S ⟨A,rfl,⟨x,rfl⟩,rfl⟩;rw[bQ]at *
  unfold tsD at c;rw[gP1]at c;obtain⟨s,f,rfl⟩:=Pz c;have a:=(Px f).1;have q:(eZ k m).take (j+1)=(eZ k m).take j++[s]:=by rw[dL,f];rfl
  unfold tD;walk_at"w";rw[q,EH,eY];by_cases h:s.length=k
  ·rw[ak (Pn.mpr (by lia)),ak (Pn.mpr h)];refine⟨a,⟨_,O⟩,?_⟩;unfold tsD;rw[cx];rfl
  ·rw[aj (λz=>h (by have:=Pn.mp z;lia)),aj (by rw[Pn];exact h)];refine⟨a,⟨_,O⟩,?_⟩;rw[aP]
 ·rintro xs r S ⟨_,rfl,⟨x,rfl⟩,e⟩;rw[cW,bQ,cQ (by unfold tsD;rw[lM1];exact nR1 _)]at e;subst e;have w:=B m hm;refine⟨ed ?_,?_⟩
  ·unfold tsD;rw[lM1];exact aC (dr _ _) (by lia)
  walk_at"w";refine⟨_,_,O,by rw[ee];rfl,?_,O⟩;rw[df,l,bS,Ob.und,gw];rfl
noncomputable def B3(s:List Nat):TK:=.tup (s.map λx:Nat=>TK.int x)
theorem A9:∀s:List Nat,G8 (et s)=Z (s.map λx:Nat=>TK.int x)
 |[]=>rfl
 |x::s=>by
  show((kD (.int x)).bind λk=>(G8 (et s)).map (k :: ·))=_;rw[A9 s];rfl
theorem BB:∀s:List Nat,TK.depAll (s.map λx:Nat=>TK.int x)=0
 |[]=>rfl
 |x::s=>by rw[mP1,TK.depAll,BB s];rfl
theorem I1(s:List Nat):Mi.kx (tD s)=Z (B3 s):=by
 unfold tD Mi.kx B3;dsimp only;rw[A9,oS1,ak];rw[TK.dep,BB];decide
theorem zp(s:List Nat):Mi.lz (B3 s)=tD s:=(wY (I1 s)).1
theorem Cm{s u:List Nat}(h:B3 s=B3 u):s=u:=by
 have:tD s=tD u:=by rw[<- zp,<- zp,h]
 exact vB this
def Mu(ts:List (List Nat))(s z:List Nat):Prop:=z∈ts.map (λt=>act t s) /\ ∀u∈ts.map (λt=>act t s),lx u z=J
theorem Mu.uniq{ts:List (List Nat)}{s z z':List Nat}(h:Mu ts s z)(h':Mu ts s z'):z=z':=rX (h'.2 _ h.1) (h.2 _ h'.1)
def FZ(zs:List (List Nat)):List (TK×D):=zs.map λz=>(B3 z,.bl M)
theorem HJ{zs:List (List Nat)}{z:List Nat}:(z∈zs/\fT (FZ zs) (B3 z) (.bl M)=FZ zs)\/(z∉zs/\fT (FZ zs) (B3 z) (.bl M)=FZ (zs++[z])):=by
 have a:((FZ zs).any λp=>decide (p.1=B3 z))=M↔z∈zs:=by
  rw[bU];constructor
  ·rintro⟨p,b,e⟩;obtain⟨y,c,rfl⟩:=PB b;rw[<- Cm (N7 e)];exact c
  ·intro h;exact⟨_,cg.mpr ⟨z,h,O⟩,ah O⟩
 unfold fT;by_cases h:z∈zs
 ·refine .inl ⟨h,?_⟩;rw [if_pos (a.mpr h)];have:(FZ zs).map (fun p=>if p.1=B3 z then (p.1,D.bl true) else p)=(FZ zs).map _root_.id:=de fun p b=>by
   obtain⟨y,_,rfl⟩:=PB b;dsimp only[_root_.id];split<;>rfl
  rw[this,di]
 ·refine .inr ⟨h,?_⟩;rw[aj λd=>h (a.mp d)];unfold FZ;rw[cx];rfl
theorem Cr{m k:Nat}(hm:m<=8)(r:0<k){zs:List (List Nat)}{S:d7}{n:Nat}(hz:∀z∈zs,Ris m k z)(nd:zs.Nodup)(D:zs.length<=256)(h:S[n]?=Z (dO (FZ zs))):∃ys:List (List Nat),ys.Perm zs/\ys.Pairwise (λx y=>yQ x<yQ y)/\l9 (.ref n) S=Z (.ref S.length,S++[.lst (tsD ys)]):=by
 have o:A5 (dO (FZ zs))=Z (FZ zs):=by
  unfold dO;split
  ·rename_i e;rw[e];rfl
  ·rfl
 have B:((FZ zs).map λp=>lz p.1)=zs.map tD:=by
  unfold FZ;rw[bv];exact de λz _=>zp z
 obtain⟨ys,v,u,C,l⟩:=s3 (f:=tD) (c:=yQ) (ks:=zs) (λa w b A=>by
  rw[<- (hz a w).lx hm (hz b A)];exact AU) (by
  rw[dD,dt];exact Pw (λ{x y} t j i e=>i ((hz x t).cd hm (hz y j) e)) nd)
 refine⟨ys,u,C,?_⟩;have q:si (zs.map tD)=Z M:=by
  have:∀z∈zs,iZ (tD z)=Z M:=λz g=>by
   have:=(hz z g).len;cases z with
   |nil=>simp at this;lia
   |cons x z=>rfl
  cases zs with
  |nil=>rfl
  |cons z zs=>
   show(match iZ (tD z)with|some f=>if((zs.map tD).all λe=>iZ e == some f)=true then some f else none|none=>none)=_;rw[this z mS1];dsimp only;rw[ak];rw[bD];intro d s;obtain⟨y,j,rfl⟩:=PB s;rw[this y (mC1 _ j)];rfl
 unfold l9;dsimp only;rw[h,oS1,o,oS1,B,q,oS1,v,ak]
 ·rfl
 ·rw[bA1,l,al];refine⟨O,?_⟩;unfold FZ;rw[lM1];lia
theorem A1{m k n:Nat}{w:d8}{ts:List (List Nat)}{S:d7}{Q:D×d7->Prop}(hw:fS m w)(R:0<m)(hm:m<=8)(hk0:0<k)(hk:k<=8)(f:∀t,t∈ts↔Tn m w t)(htl:ts.length<=8)(hn:S[n]?=Z (.lst (tsD ts)))(hS:S.all (Ob.und 0)=M)(q:Q (.tup (tsD (jf m k w)),S)):W (ea 3 gg [.ref n,.int m,.int k] S) Q:=by
 have hSn:=K4 hS S.length;have hnl:=(Px hn).1;have hne:ts≠[]:=λz=>by
  have:=(f _).mpr (Mp.id hw);rw[z]at this;cases this
 have ht0:0<ts.length:=c9.mpr hne;refine xu O O ?_;unfold gg;refine lf ?_;unfold kS;refine eV (λr V=>V=S++dO (FZ [])::[]/\r=[Z (.ref n),Z (.int m),Z (.int k),Z (.ref S.length),Y]) ?_ ?_
 ·wp_walk using l6
  exact⟨O,trivial⟩
 rintro r V ⟨rfl,rfl⟩;refine eV (λr V=>∃(zs:List (List Nat)) (H:d7) (B:Option D),zs.Nodup/\zs.length<=256/\(∀z,z∈zs ↔ ∃s,Ris m k s/\Mu ts s z)/\V=S++dO (FZ zs)::H/\r=[Z (.ref n),Z (.int m),Z (.int k),Z (.ref S.length),B]) ?_ ?_
 ·simp (implicitDefEqProofs:=false) only [fz,d9,sI,mN,d5,mV,gC1,dk,d6,oS1];refine xw rfl rfl ((Fm hm hk).mono ?_);rintro p ⟨j,xs,h1,h2,h3,rfl⟩;refine ⟨j,_,h1,h2,h3,fun G i hi hG hil=>?_⟩;obtain ⟨i,rfl⟩:∃ i',i=S.length+1+i':=⟨i-(S.length+1),by simp at hil;lia⟩;rw [bJ,List.singleton_append] at hi ⊢;have gi:∀ (X:Ob) (H:d7),(S++X::H)[S.length+1+i]? = H[i]?:=fun X H=>by
   rw[gR1 (by lia),show S.length+1+i-S.length=i+1 by lia,gC1]
  rw[gi]at hi;have sl:(iF m k).length<=256:=aC (dr _ _) (aC (lE m) (dJ (n:=2) (by decide) hm));walk_at"w";refine eF (xs:=tsD (iF m k)) (by rw[gi];exact hi) ?_;refine e9 (λc r V=>c<=(iF m k).length /\ ∃(zs:List (List Nat)) (H:d7) (B:Option D),zs.Nodup/\zs.length<=c/\(∀z,z∈zs ↔ ∃s∈(iF m k).take c,Mu ts s z)/\H[i]?=Z (.lst (tsD (iF m k)))/\V=S++dO (FZ zs)::H/\r=[Z (.ref n),Z (.int m),Z (.int k),Z (.ref S.length),B]) (tsD (iF m k)) 0 _ _ ⟨bj _,[],G,_,bp,nR1 _,λz=>by simp,hi,O,O⟩ (λc r V h=>?_) ?_ ?_
  ·obtain⟨_,zs,H,B,_,_,_,aq,rfl,_⟩:=h;exact fq (by rw[gi];exact aq)
  ·rintro c d K r V ⟨hcl,zs,H,B,nd,wq,v,aq,rfl,rfl⟩;rw[bQ]at *
   unfold tsD at K;rw[gP1]at K;obtain⟨s,hs,rfl⟩:=Pz K;have N:=(Px hs).1;have hR:=kk.mp (gM1 hs);have o:(iF m k).take (c+1)=(iF m k).take c++[s]:=by rw[dL,hs];rfl
   walk_at"w";unfold jh;generalize hV:S++dO (FZ zs)::H=V;have gn:V[n]?=Z (.lst (tsD ts)):=by rw[<- hV,gL1 hnl];exact hn
   walk_at"w";refine eF gn ?_;refine gm (λc E r U=>c<=ts.length/\(∃H',U=V++H')/\(∃x,r=[x,Z (tD s)])/\E=tsD ((ts.take c).map λt=>act t s)) (tsD ts) 0 [] _ _ ⟨bj _,⟨[],by rw[aP]⟩,⟨_,O⟩,O⟩ (λc E r U h=>?_) ?_ ?_
   ·obtain⟨_,⟨H',rfl⟩,_⟩:=h;exact fq (by rw[gL1 (Px gn).1];exact gn)
   ·rintro c d K E r U ⟨hcl,⟨H',rfl⟩,⟨x,rfl⟩,rfl⟩;rw[bQ]at *
    unfold tsD at K;rw[gP1]at K;obtain⟨t,I,rfl⟩:=Pz K;have N:=(Px I).1;have hT:=(f t).mp (gM1 I);have o:ts.take (c+1)=ts.take c++[t]:=by rw[dL,I];rfl
    unfold tD;walk_at"w";rw[i7];refine BC (k:=0) (λx hx=>by rw[hT.len];exact hR.lt x hx) O λr'=>?_;refine⟨ed (by rw[eY,mz,hR.len];lia),?_⟩;walk_at"w";generalize am:V++(H'++[Ob.lst (et (app t s))])=U;have L:U[V.length+H'.length]?=Z (.lst (et (app t s))):=by
     rw[<- am,gR1 (by lia),show V.length+H'.length-V.length=H'.length by lia,ee];rfl
    refine xE L (by rw[mz,hR.len];lia) ?_;walk_at"w";refine eF (by rw[ee];rfl) ?_;refine⟨N,⟨H'++[.lst (et (app t s)),.lst (et (act t s))],?_⟩,⟨_,O⟩,?_⟩
    ·rw[<- am];simp[act]
    ·rw[o];unfold tsD;rw[cx,cx];rfl
   ·rintro xs r U ⟨_,⟨H',rfl⟩,⟨x,rfl⟩,e⟩;rw [cW,bQ,cQ (by unfold tsD;rw [lM1];exact nR1 _)] at e;subst e;refine ⟨ed (by unfold tsD;rw [lM1,lM1];lia),?_⟩;walk_at"w";generalize am:V++(H'++[Ob.lst (tsD (ts.map fun t=>act t s))])=U;have L:U[V.length+H'.length]? = some (.lst (tsD (ts.map fun t=>act t s))):=by
     rw[<- am,gR1 (by lia),show V.length+H'.length-V.length=H'.length by lia,ee];rfl
    obtain⟨z,hz,au,he⟩:=Dj (ts:=ts.map λt=>act t s) L (by rw[lM1];exact ht0);have C:Mu ts s z:=⟨hz,au⟩
    wp_walk using he
    have T:U=S++dO (FZ zs)::(H++(H'++[Ob.lst (tsD (ts.map λt=>act t s))])):=by rw[<- am,<- hV];simp
    refine v7 (F:=FZ zs) (by rw[T,ee];rfl) (I1 z) (by unfold FZ;rw[lM1];lia) ?_;have P:∀X:Ob,U.set S.length X=S++X::(H++(H'++[Ob.lst (tsD (ts.map λt=>act t s))])):=λX=>by rw[T,cY _ _ (nR1 _),cZ,c5]
    rw[P];have ao:(H++(H'++[Ob.lst (tsD (ts.map λt=>act t s))]))[i]?=Z (.lst (tsD (iF m k))):=by rw[gL1 (Px aq).1];exact aq
    rcases HJ (zs:=zs) (z:=z)with⟨g1,g2⟩|⟨g1,g2⟩
    ·rw[g2];refine⟨by lia,zs,_,_,nd,by lia,λy=>?_,ao,O,O⟩;rw[o,v];constructor
     ·rintro⟨u,l,g⟩;exact⟨u,aH _ l,g⟩
     ·rintro⟨u,l,g⟩;rcases aG.mp l with h|h
      ·exact⟨u,h,g⟩
      ·rw[cA]at h;subst h;rw[g.uniq C];exact(v z).mp g1
    ·rw[g2];refine⟨by lia,zs++[z],_,_,?_,by rw[lA1,a0];lia,λy=>?_,ao,O,O⟩
     ·rw[bB];exact⟨nd,by simp,λa ha b hb e=>by rw[cA]at hb;subst hb;subst e;exact g1 ha⟩
     ·rw[o,aG,v];constructor
      ·rintro(⟨u,l,g⟩|g)
       ·exact⟨u,aH _ l,g⟩
       ·rw[cA]at g;subst g;exact⟨s,mA1 _ (cA.mpr O),C⟩
      ·rintro⟨u,l,g⟩;rcases aG.mp l with h|h
       ·exact .inl ⟨u,h,g⟩
       ·rw[cA]at h;subst h;exact .inr (cA.mpr (g.uniq C))
  ·rintro r V ⟨_,zs,H,B,nd,wq,v,aq,rfl,rfl⟩;rw[bQ,cQ (by unfold tsD;rw[lM1];exact nR1 _)]at v;refine⟨O,zs,H,_,nd,?_,λz=>?_,O,O⟩
   ·unfold tsD at wq;rw[bQ,lM1]at wq;lia
   ·rw[v];exact⟨λ⟨s,a,b⟩=>⟨s,kk.mp a,b⟩,λ⟨s,a,b⟩=>⟨s,kk.mpr a,b⟩⟩
 rintro r V ⟨zs,H,B,nd,wq,v,rfl,rfl⟩;have A:∀z,z∈zs↔Ris m k z/\Lst m w z:=λz=>by
  rw[v];constructor
  ·rintro⟨s,hs,h1,h2⟩;obtain⟨t,I,rfl⟩:=PB h1;exact AY R hw hs ((f t).mp I) O λt' ht'=>h2 _ (cg.mpr ⟨t',(f t').mpr ht',O⟩)
  ·rintro⟨h1,h2⟩;refine⟨z,h1,cg.mpr ⟨af m,(f _).mpr (Mp.id hw),BU R hw h1⟩,λu l=>?_⟩;obtain⟨t,I,rfl⟩:=PB l;exact h2 t ((f t).mp I)
 have gd:(S++dO (FZ zs)::H)[S.length]?=Z (dO (FZ zs)):=by rw[ee];rfl
 obtain⟨ys,y1,y2,y3⟩:=Cr hm hk0 (λz hz=>((A z).mp hz).1) nd wq gd;have ey:ys=jf m k w:=xY y2 ((lC hm k).filter _) λx=>by rw[y1.mem_iff,A,iV]
 subst ey;generalize am:S++dO (FZ zs)::H=U at *
 wp_walk using y3
 refine eF (by rw[ee];rfl) ?_;rw[<- am,bJ,He (by rw[D.und];exact gw _) hSn];exact q
theorem KY(xs:List D)(k:Nat):Mi.pM xs Y (Z (k:Int))=xs.take k:=by
 unfold Mi.pM;rw[HT.zM,HT.CA,bZ,Nat.sub_zero];by_cases h:k<=xs.length
 ·rw[bC h]
 ·rw[Nat.min_eq_right (by lia),b4,cQ (by lia)]
theorem JC{m:FE}{hi:FO}{r:Ev}{S:d7}{n k:Nat}{xs:List D}{Q:D×d7->Prop}(hm:m r S=Z (.ref n,S))(a:hi r S=Z (Z (k:Int),S))(h:S[n]?=Z (.lst xs))(q:Q (.ref S.length,S++[.lst (xs.take k)])):W (oC m kJ hi r S) Q:=by
 rw[<- KY]at q;refine W.of ?_ q;unfold oC;rw[hm,oS1];dsimp only;rw[show kJ r S=Z (Y,S)from rfl,oS1];dsimp only;rw[a,oS1];simp only[vm,gP h,oP1,NJ]
theorem AX{m k:Nat}{w:d8}(hm:m<=8):(jf m k w).length<=256:=by
 have h1:(fm m k).length<=(iF m k).length:=vo (R:=Eq) (((lC hm k).imp λ{x y} h e=>by subst e;exact az _ h):(fm m k).Nodup) (λa f=>⟨a,kk.mpr (ic.mp f),O⟩) λa _ b _ c g d=>g.trans d.symm;have h2:(iF m k).length<=256:=aC (dr _ _) (aC (lE m) (dJ (n:=2) (by decide) hm));exact aC (dr _ _) (aC h1 h2)
theorem Cz{l:List (List Nat)}{S:d7}{Q:D×d7->Prop}(f:l.length<=256)(c:∀s∈l,s.length<=8)(q:Q (.bl M,S)):W (ea 2 gu [.tup (tsD l),.tup (tsD l)] S) Q:=by
 refine g0 O (by rw[D.unds,D.unds,D.und,gw];rfl) ?_;unfold gu;refine(s9 7 (tsD l) (by unfold tsD;rw[lM1];lia) (gw l) λx d=>?_).mono λp a=>?_
 ·obtain⟨s,b,rfl⟩:=PB d;have:=c s b;refine s9 6 (et s) (by rw[eY];lia) (fv s) λy e=>?_;obtain⟨v,_,rfl⟩:=PB e;exact(zK 5 v []).mono λp a=>by rw[a]
 ·rw[a];exact⟨O,q⟩
theorem Fw{m k:Nat}{w:d8}(hk:k<=8):∀s∈jf m k w,s.length<=8:=λs a=>by
 rw[(iV.mp a).1.len];exact hk
theorem GP{m k n:Nat}{w:d8}{ts:List (List Nat)}{b:List Nat}{S:d7}{u o j s A:Option D}{Q:Fl×Ev×d7->Prop}(hw:sG m w)(a:0<m)(hm:m<=8)(z:0<k)(hk:k<=8)(ho:nV m b)(i:∀ t,t∈ts↔Tn m w t)(y:ts.length<=8)(hn:S[n]? = some (.lst (tsD ts)))(B:S.all (Ob.und 0)=true)(q:∀x,Q (.nx,[u,o,j,s,some (webD w),some (.ref n),some (.int m),some (webD (ren m w b)),some (.int k),x],S)):
  W (rH [u,o,j,s,Z (webD w),Z (.ref n),Z (.int m),Z (webD (ren m w b)),Z (.int k),A] S) Q:=by
 have d:=hw.toWebJ.toK;have c:=CB hw ho a;unfold rH;refine eV (λr V=>V=S/\r=[u,o,j,s,Z (webD w),Z (.ref n),Z (.int m),Z (webD (ren m w b)),Z (.int k),Z (.tup (tsD (jf m k w)))]) ?_ ?_
 ·simp(implicitDefEqProofs:=J) only[eG,mN,d5,mV,gC1,dk,d6,oS1,gN,c8,c5,d9,ez,true_and];refine A1 d a hm z hk i y hn B ?_;exact⟨O,O⟩
 rintro r V ⟨rfl,rfl⟩;have g:(jf m k (ren m w b)).length=(jf m k w).length:=by
  obtain⟨ws,v⟩:∃ws,Wlk m (ren m w b) ws:=by
   have:W (ea 2 mL [webD (ren m w b),.int 0] []) λ_=>∃ws,Wlk m (ren m w b) ws:=zf c a hm λws h=>⟨ws,h⟩;obtain⟨_,_,h⟩:=this;exact h
  exact Dv a hm d c (Fy ho a) i λt=>vE c a v
 have f:W (mOr (rT (mTr (mN (ea 2 gu) (d5 (mN (ea 2 fH) (d5 (mV 4) (d5 (mV 8) d6))) (d5 (mV 9) d6))))) (mB (m2 (b2 gNe) (mN (b1 eR) (d5 (mN (ea 2 fH) (d5 (mV 7) (d5 (mV 8) d6))) d6)) (mN (b1 eR) (d5 (mV 9) d6)))) [u,o,j,s,Z (webD w),Z (.ref n),Z (.int m),Z (webD (ren m w b)),Z (.int k),Z (.tup (tsD (jf m k w)))] V) λp=>p=(J,V):=by
  walk_at"w";refine ww d a hm hk ?_;refine Cz (AX hm) (Fw hk) ?_;walk_at"w";refine ww c a hm hk ?_;walk_at"w";have e:∀l:List (List Nat),(tsD l).length=l.length:=λl=>by unfold tsD;rw[lM1]
  rw[e,e,g];simp
 unfold fV;rw[d9];refine f.mono ?_;rintro p rfl;rw[aj (show¬ (J=M) by decide)];walk_at"w";exact q _
theorem ET{m n:Nat}{w:d8}{o:Ob}{T:d7}{z A B K F E h l:Option D}{Q:Fl×Ev×d7->Prop}(hw:sG m w)(a:0<m)(hm:m<=8)(ho:g9 o n)(hn:n<=2^40)(X:T.all (Ob.und 0)=true)(q:∀o' G K F E h l,g9 o' (n+8)->G.all (Ob.und 0)=true->Q (.nx,[z,A,some (.ref 0),B,some (webD w),K,F,E,h,l],o'::(T++G))):
  W (rG [z,A,Z (.ref 0),B,Z (webD w),K,F,E,h,l] (o::T)) Q:=by
 have g:=hw.toWebJ.toK;unfold rG;refine eV (λr V=>∃(y:List (List Nat)) (G:d7) (j:Nat),(∀t,t∈y↔Tn m w t)/\y.length<=8/\(T++G)[j]?=Z (.lst (tsD y))/\G.all (Ob.und 0)=M/\V=o::(T++G)/\r=[z,A,Z (.ref 0),B,Z (webD w),Z (.ref (j+1)),Z (.int m),E,h,l]) ?_ ?_
 ·wp_walk using gG,hw.len
  refine xw O (by rw[D.unds,eQ];rfl) ((AT g a hm).mono ?_);rintro p ⟨k,ws,h1,h2,h3,aq⟩;refine⟨k,gK m w ws m,h1,h2,h3,λG j s C ao=>?_⟩;obtain⟨j,rfl⟩:∃wq,j=wq+1:=⟨j-1,by simp at ao;lia⟩
  wp_walk using gG,hw.len
  rw[bm,gC1,wo]at s;refine⟨Ep m w ws,G,j,λt=>vE g a aq,?_,s,C,O,O⟩;have:=lr (m:=m) (k:=m) (w:=w) (ws:=ws);rw[wo,lM1]at this;lia
 rintro r V ⟨y,G,j,I,L,s,C,rfl,rfl⟩;refine eV (λr V=>∃(e:List Nat) (o':Ob) (b:d7),nV m e/\g9 o' (n+8)/\b.all (Ob.und 0)=M/\V=o'::(T++G)++b/\r=[z,A,Z (.ref 0),B,Z (webD w),Z (.ref (j+1)),Z (.int m),Z (webD (ren m w e)),h,l]) ?_ ?_
 ·simp(implicitDefEqProofs:=J) only[eG,mN,d5,mV,gC1,dk,d6,oS1,b1,gN,c8,c5,bm,bJ,d9,ez,true_and,wa];refine wI (T:=T++G) ho (by lia) hm λe o' N c=>?_;refine eF (xs:=et e) (by rw[gC1,fJ];rfl) ?_;refine xZ g a hm ⟨N⟩ ?_;refine⟨e,o',[.lst [],.lst (et e)],⟨N⟩,c.more (by lia),?_,?_,O⟩
  ·rw[bS,bS,Ob.und,Ob.und,fv];rfl
  ·simp
 rintro r V ⟨e,o',b,H,c,v,rfl,rfl⟩;have hS:(o'::(T++G)++b).all (Ob.und 0)=M:=by
  rw[df,bS,df,X,C,v,c.und];rfl
 have am:(o'::(T++G)++b)[j+1]?=Z (.lst (tsD y)):=by
  rw[bm,gC1,gL1 (Px s).1];exact s
 have R:o'::(T++G)++b=o'::(T++(G++b)):=by simp
 generalize hU:o'::(T++G)++b=U at *
 walk_at"w";refine⟨eW (n:=1) (by lia),eW (n:=m+1) (by lia),?_⟩;rw[show((m:Int)+1-1).toNat=m by lia,show(1:Int)=((1:Nat):Int)from rfl,EC];refine e9 (λ_ r V=>V=U /\ ∃h l,r=[z,A,Z (.ref 0),B,Z (webD w),Z (.ref (j+1)),Z (.int m),Z (webD (ren m w e)),h,l]) _ 0 _ _ ⟨O,_,_,O⟩ (λ_ _ _ _=>rfl) ?_ ?_
 ·rintro i d au r V ⟨rfl,P,S,rfl⟩;rw[gP1]at au;obtain⟨i',f,rfl⟩:=Pz au;have u:=(Px f).1;rw[dB]at u;rw[dA u]at f;cases f;walk_at"w";refine GP hw a hm (by lia) (by lia) H I L am hS λx=>?_;exact⟨O,O,_,_,O⟩
 ·rintro r V ⟨rfl,P,S,rfl⟩;rw[R];exact q o' (G++b) _ _ _ _ _ c (by rw[df,C,v];rfl)
theorem Ck(ns:List Int)(k:Int)(h0:0<=k)(hk:k<63):W (rF [Z (.rol (ns.map D.int)),Z (.int k),Y,Y,Y,Y,Y,Y,Y,Y] []) λp=>p.1 = .nx /\ ∃wq,p.2.1=Z (.rol (ns.map D.int))::wq/\wq.length=9:=by
 unfold rF;generalize hN:D.rol (ns.map D.int)=N;refine eV (λr S=>∃o,g9 o 0/\S=[o]/\r=[Z N,Z (.int k),Z (.ref 0),Y,Y,Y,Y,Y,Y,Y]) ?_ ?_
 ·obtain⟨o,e,A⟩:=DX ns k h0 hk;rw[hN]at e
  wp_walk using e
  exact⟨o,A,O,trivial⟩
 rintro r S ⟨o,A,rfl,rfl⟩;refine eV (λr S=>∃(c:List (Nat×d8)) (o:Ob),(∀p∈c,0<p.1/\p.1<=8/\sG p.1 p.2)/\c.length=2/\g9 o 600/\S=[o,.lst (c.map λp=>webD p.2)]/\r=[Z N,Z (.int k),Z (.ref 0),Z (.ref 1),Y,Y,Y,Y,Y,Y]) ?_ ?_
 ·walk_at"w";refine⟨eW (n:=2) (by lia),?_⟩;rw[show((2:Int).toNat)=2 from rfl];refine gm (λi y r S=>∃(c:List (Nat×d8)) (o:Ob),i<=2/\(∀p∈c,0<p.1/\p.1<=8/\sG p.1 p.2)/\c.length=i/\g9 o (300*i)/\S=[o]/\y=(c.map λp=>webD p.2) /\ ∃x,r=[x,Z (.ref 0)]) (gb 0 2) 0 [] _ _ ⟨[],o,by lia,λp g=>(by cases g),O,A,O,O,_,O⟩ (λ_ _ _ _ _=>rfl) ?_ ?_
  ·rintro i d u y r S ⟨c,F,hi,v,B,f,rfl,rfl,x,rfl⟩;have l:=(Px u).1;rw[eN]at l;rw[bQ]at *
   walk_at"w";refine HQ (T:=[]) f (by lia) O λm w rs o' q V ao hrs s=>?_;refine j8 (i:=0) (x:=webD w) O ?_;refine⟨c++[(m,w)],o',by lia,λp g=>?_,by rw[lA1,B];rfl,s.more (by lia),O,by rw[cx];rfl,_,O⟩;rcases aG.mp g with g|g
   ·exact v p g
   ·rw[cA]at g;subst g;exact⟨q,V,ao⟩
  ·rintro xs r S ⟨c,F,hi,v,B,f,rfl,e,x,rfl⟩;rw[cW]at e;subst e;rw[eN,bQ]at *
   refine⟨ed (by rw[lM1];lia),?_⟩;walk_at"w";exact⟨c,F,v,B,f,O,trivial⟩
 rintro r S ⟨c,o,v,B,A,rfl,rfl⟩;have C:∀d∈(c.map λp=>webD p.2)++(c.map λp=>webD p.2).take 1,∃m w,d=webD w/\0<m/\m<=8/\sG m w:=λd u=>by
  have:d∈c.map λp=>webD p.2:=by
   rcases aG.mp u with h|h
   ·exact h
   ·exact cH h
  obtain⟨p,g,rfl⟩:=PB this;exact⟨p.1,p.2,O,v p g⟩
 have z:D.unds 0 (c.map λp=>webD p.2)=M:=fj λp _=>eQ _;have t:D.unds 0 ((c.map λp=>webD p.2).take 1)=M:=by rw[<- List.map_take];exact fj λp _=>eQ _
 have j:D.unds 0 ((c.map λp=>webD p.2)++(c.map λp=>webD p.2).take 1)=M:=by rw[<- List.map_take,<- cx];exact fj λp _=>eQ _
 have hll:(c.map λp=>webD p.2).length=2:=by rw[lM1,B]
 generalize (c.map λp=>webD p.2)=L at *
 unfold fz;rw[d9,sI];simp only[m2,mV,gC1,dk,dq,oP1,oS1,d5,d6,d9,ez];have am:W (oC (mV 3) kJ (nh (mC (D.int 1))) [Z N,Z (.int k),Z (.ref 0),Z (.ref 1),Y,Y,Y,Y,Y,Y] [o,.lst L]) λp=>p=(.ref 2,[o,.lst L,.lst (L.take 1)]):=JC (n:=1) (k:=1) O O O O;refine am.mono ?_;rintro p rfl;refine(BX (S:=[o,.lst L,.lst (L.take 1)]) (a:=1) (b:=2) (xs:=L) (ys:=L.take 1) O O).mpr ⟨ed (by rw[aT];lia),?_⟩;refine eF (n:=3) (xs:=L++L.take 1) O ?_;generalize I:[Ob.lst L,.lst (L.take 1),.lst (L++L.take 1)]=T0;have au:T0.all (Ob.und 0)=M:=by
  rw[<- I,bS,bS,bS,Ob.und,Ob.und,Ob.und,z,t,j];rfl
 have aq:T0[2]?=Z (.lst (L++L.take 1)):=by rw[<- I];rfl
 have hl3:(L++L.take 1).length<=3:=by rw[lA1,aT];lia
 generalize L++L.take 1=L2 at *
 refine e9 (λi r S=>i<=L2.length /\ ∃(o:Ob) (G:d7) (E R K U P Q:Option D),g9 o (600+8*i)/\G.all (Ob.und 0)=M/\S=o::(T0++G)/\r=[Z N,Z (.int k),Z (.ref 0),Z (.ref 1),E,R,K,U,P,Q]) L2 0 _ _ ⟨by lia,o,[],_,_,_,_,_,_,A,O,by rw[<- I];rfl,O⟩ (λi r S h=>?_) ?_ ?_
 ·obtain⟨_,o,G,_,_,_,_,_,_,_,_,rfl,_⟩:=h;exact fq (n:=3) (by rw[gC1,gL1 (Px aq).1];exact aq)
 ·rintro i d u r S ⟨hi,F,G,E,R,K,U,P,Q,f,X,rfl,rfl⟩;have l:=(Px u).1;obtain⟨m,w,rfl,q,V,ao⟩:=C d (gM1 u);rw[bQ]at *
  walk_at"w";refine ET (T:=T0++G) ao q V f (by lia) (by rw[df,au,X];rfl) λo' G' y5 y6 y7 y8 y9 s H=>?_;exact⟨O,l,o',G++G',_,_,_,_,_,_,s.more (by lia),by rw[df,X,H];rfl,by rw[bJ],O⟩
 ·rintro r S ⟨_,o,G,E,R,K,U,P,Q,_,_,rfl,rfl⟩;exact⟨O,_,O,O⟩
theorem truth(ns:List Int)(B:ns.length<=63):∃S,m_law [.rol (ns.map D.int)] []=Z (.bl M,S):=by
 have c:W (m_law [.rol (ns.map D.int)] []) λp=>p.1 = .bl M:=by
  unfold m_law;refine lf ?_;unfold BN;have o:(D.rol (ns.map D.int)).und 0=M:=by simp[D.und,mE]
  have l:=λk w n=>Ck ns k w n;generalize u:D.rol (ns.map D.int)=N at *
  have b:eR N []=Z (.int ns.length,[]):=by rw[<- u];simp[eR,ei]
  refine eV (λr S=>S=[]/\r=[Z N,Y,Y,Y,Y,Y,Y,Y,Y,Y]) ?_ ?_
  ·simp only [ig,mP1,bc,lC1,bg,dm,Nat.reduceSub,Lk,bm,cW,fz,d9,EN,d5,mN,mC,mV,d6,b1,b2,D2,D1,b,ez,oS1,dk,Il];have s:∃ t:Nat,t<=4/\(if (if (ns.length:Int)<4 then (ns.length:Int) else 4)>1 then (if (ns.length:Int)<4 then (ns.length:Int) else 4) else 1)=(t:Int):=by
    by_cases h1:(ns.length:Int)<4
    ·rw[ak h1];by_cases h2:(ns.length:Int)>1
     ·rw[ak h2];exact⟨ns.length,by lia,O⟩
     ·rw[aj h2];exact⟨1,by lia,O⟩
    ·rw[aj h1];exact⟨4,by lia,by decide⟩
   obtain⟨t,C,te⟩:=s;rw[te,NF];refine⟨eW (by lia),?_⟩;refine e9 (λ_ r S=>S=[]/\r=[Z N,Y,Y,Y,Y,Y,Y,Y,Y,Y]) _ 0 _ _ ⟨O,O⟩ (λ_ _ _ _=>rfl) ?_ ?_
   ·rintro i d q r S ⟨rfl,rfl⟩;obtain⟨k,e,v,A⟩:=t6 (gM1 q);subst e;simp only[gN,c8,c5,ez];obtain⟨⟨f,r2,z⟩,m,j,y,a,g⟩:=l k v (by lia);dsimp only at j a;subst j;subst a;refine W.of (x:=(.nx,[Z N,Y,Y,Y,Y,Y,Y,Y,Y,Y],[])) ?_ ⟨O,O,O⟩
    match y,g with
    |[z1,z2,z3,z4,z5,z6,z7,z8,z9],_=>
     unfold wH p8;simp[ge,lD,D.und,o,m]
   ·rintro r S ⟨rfl,rfl⟩;exact⟨O,O,O⟩
  ·rintro r S ⟨rfl,rfl⟩;simp only[eX,mC,oS1,ez]
 obtain⟨⟨d,S⟩,e,h⟩:=c;dsimp only at h;exact⟨S,by rw[e,h]⟩
end Law
end
open PySem PySem.W PyProof.Rows
namespace PySem.W.Fast
def tw3710359249235623526:=()
def tw15320400925356315871:=()
def tw5864629404518298676:=()
def tw12571584267583264186:=()
def tw11301565797462421303:=()
def tw16143117436931119317:=()
def tw15866567720388948471:=()
def tw15437042109952362560:=()
def tw2139294534126319747:=()
def tw1807624444549366815:=()
def tw7757484413409250848:=()
def tw1410185621672469820:=()
def tw639120092556964887:=()
def tw9368574763158048388:=()
def tw13702613281425107453:=()
def tw2443188979797337754:=()
def tw13384582196026226847:=()
def tw1059166415588459053:=()
def tw14437122768347634977:=()
def tw1492711531219789246:=()
def tw5495496800411751842:=()
def tw16534008812629191506:=()
def tw2980978853840305244:=()
def tw17978995490930302846:=()
def tw6665935067160441162:=()
def tw8896023249295276126:=()
def tw2133973538539819254:=()
def tw17702742501118774092:=()
def tw15049877547820745044:=()
def tw4649359373075685857:=()
def tw4002116009734938937:=()
def tw14929268987924762633:=()
def tw2419270056753319725:=()
def tw15479944518733507711:=()
def tw714790209311970546:=()
def tw13056716119759046635:=()
def tw16907688507173869597:=()
def tw9782791074767762886:=()
def tw9961782541579735362:=()
def tw9861930321293843943:=()
def tw7877658366497665206:=()
def tw15081682957383724177:=()
def tw17799550232009191051:=()
def tw13882203272100766053:=()
def tw16349098868805688532:=()
def tw17952473282426242186:=()
def tw9513693719794088161:=()
def tw1600023064151170435:=()
def tw769894713168154269:=()
def tw12755661539027393300:=()
def tw14943375246650568218:=()
def tw2304441753439046445:=()
def tw9612518385684651975:=()
def tw12878902398552009567:=()
def tw10955686834914135666:=()
def tw8167973652376170679:=()
def tw10894760866250863128:=()
def tw4988844061201560644:=()
def tw13070435294385200072:=()
def tw2211884716067288380:=()
def tw5723185032891518006:=()
def tw14004617579931171540:=()
def tw5587378120130877081:=()
def tw9891929345983244599:=()
def tw11038541441621052516:=()
def tw8611138922478792930:=()
def tw8821623255333952488:=()
def tw9923409556690488708:=()
def tw14404717168453741546:=()
def tw13235718421303010411:=()
def tw133682183678580534:=()
def tw5940887588031180362:=()
def tw2787597665056955014:=()
def tw5975677646324658574:=()
def tw12401750634233645573:=()
def tw2321936887321080669:=()
def tw5507274348203084808:=()
def tw13372115722151519481:=()
def tw1964972280455431933:=()
def tw3091322623593166682:=()
def tw15817849779324369768:=()
end PySem.W.Fast
set_option maxRecDepth 100000 in
set_option maxHeartbeats 0 in
theorem PySem.Challenge.cw_ringmeet_k19_standings_told_holds : PySem.Challenge.rw_ringmeet_k19_standings_told.Holds := by
 w_on;refine PySem.W.holds_law (by decide+kernel) fun d=>?_;k_head;(case hw=>w_witness2)
 k_fill
 refine Mi.walk_m (l:=PySem.Challenge.rw_ringmeet_k19_standings_told) (m:=Law.m_law) (k:=10) (x:="_law_script") rfl rfl ⟨rfl,by decide,by decide,rfl⟩ (fun w h Y=>PySem.W.kIn_of Y) Law.truth ?F
 case F=>
  intro w mg f h e G b;refine' Law.all_mk e G b ?a1 ?a2 ?a3 ?a4 ?a5 ?a6 ?a7 ?a8 ?a9 ?a10 ?a11 ?a12 ?a13 ?a14 ?a15 ?a16 ?a17 ?a18 ?a19 ?a20 ?a21 ?a22 ?a23 ?a24 ?a25 ?a26 ?a27 ?a28 ?a29 ?a30 ?a31 ?a32 ?z
  all_goals try (refine' Mi.Jq ?a ?l ?c ?k;(case a=>k_is);(case l=>k_is);(case c=>k_is);(case k=>k_is))
  (case z=>exact ⟨by k_is,by k_is,by k_is,by k_is,by k_is,by k_is,by k_is,by k_is,by k_is,by k_is,by k_is,by k_is,by k_is,by k_is,trivial⟩)

